import PyProof.Rows.All
import Wide.All
import OpenK.AllK
import Wide.FinOn
import PyProof.EqAt
import PyProof.EqKinds
import PyProof.TupleCall
import Lean
import PySem.Challenge.RW_onceroad_k42_whole_papers_of_webs
set_option Elab.async false
set_option linter.all false
set_option maxRecDepth 100000
local macro_rules | `(tactic| show $e)=>`(tactic| refine $e)
abbrev LY:=List Int
abbrev LX:=List PySem.Addr
abbrev LN:=List Nat
abbrev LS:=List PySem.Str
abbrev LP:=List (PySem.Str×PySem.Str)
local macro_rules | `(tactic| room)=>`(tactic| decide +kernel)
local macro_rules | `(tactic| lk)=>`(tactic| first | lia | omega)
theorem ya{a b:Type}{as:List a}(f:a→b):(as.map f).length=as.length:=List.length_map f
theorem yb{a:Type}{l:List a}{i:Nat}(h:i<l.length):l[i]?=some l[i]:=List.getElem?_eq_getElem h
theorem yc{b:Type}{l:List b}{i:Nat}{a:b}:l[i]?=some a↔∃h:i<l.length,l[i]=a:=List.getElem?_eq_some_iff
theorem yd{a b:Type}{f:a→b}{l:List a}{i:Nat}:(l.map f)[i]?=l[i]?.map f:=List.getElem?_map
theorem ye{b:Type}{l:List b}{i:Nat}{a:b}(h:l[i]?=some a):a∈l:=List.mem_of_getElem? h
theorem yf{b:Type}{a:b}{l:List b}(h:a∈l):∃i:Nat,l[i]?=some a:=List.getElem?_of_mem h
noncomputable abbrev yg:=PySem.W.Frag
theorem yh(n:Nat):n≤n:=Nat.le_refl n
theorem yi{a b c:Nat}(h:a≤b)(k:b≤c):a≤c:=Nat.le_trans h k
theorem yj{a b c:Nat}(h:a<b)(k:b≤c):a<c:=Nat.lt_of_lt_of_le h k
theorem yk{p:Prop}[Decidable p](h:decide p=true):p:=of_decide_eq_true h
theorem yl{p:Prop}[Decidable p](h:¬p):decide p=false:=decide_eq_false h
theorem ym{c:Type}{a b:c}(h:some a=some b):a=b:=Option.some.inj h
theorem yn{c d:Type}{f:c→d}{x:Option c}{b:d}:x.map f=some b↔∃a,x=some a∧f a=b:=Option.map_eq_some_iff
theorem yo{b:Type}{a:b}{l:List b}:(a::l).Nodup↔a∉l∧l.Nodup:=List.nodup_cons
theorem yp{a:Type}{p:a→Bool}{as:List a}{x:a}:x∈as.filter p↔x∈as∧p x=true:=List.mem_filter
theorem yq{A B:Prop}(h:B):if false=true then A else B:=h
def yr:=@PySem.wpAny_bind
def yt:=@List.length_append
def yu:=@List.map_append
def yv:=@PySem.Heap.get?_push_of_some
def yw:=@PySem.wpAny_pure
def yx:=@List.size_toArray
def yy:=@List.mem_cons
def yz:=@List.mem_cons_of_mem
def yA:=@if_neg
def yB:=@decide_eq_true
def yC:=@List.mem_append
def yD:=@PySem.F.plainAttrs_list
def yE:=@List.mem_map
def yF:=@List.length_cons
def yG:=@if_pos
def yH:=@List.mem_singleton
def yI:=@decide_eq_true_iff
def yJ:=@Or.inl
def yK:=@List.filter_cons
def yL:=@Nat.ne_of_lt
def yM:=@List.take_add_one
def yN:=@List.length_filter_le
def yO:=@List.mem_cons_self
def yP:=@List.getElem?_append_right
def yQ:=@PySem.Heap.lt_size
def yR:=@List.length_take
def yS:=@List.take_length
def yT:=@List.mem_append_right
def yU:=@List.mem_append_left
def yV:=@List.filter_append
def yW:=@Nat.le_of_lt
def yX:=@Bool.and_eq_true
def yY:=@PySem.PassesOwn.never
def yZ:=@PySem.Heap.get?_push_size
def y0:=@Int.toNat_natCast
def Yb:=@List.not_mem_nil
def Yc:=@List.idxOf_lt_length_of_mem
def Yd:=@PySem.F.slot_list_append
def Ye:=@PySem.F.type_list_append
def Yg:=@List.getElem?_append_left
def Yh:=@List.append_nil
def Yi:=@List.getD_eq_getElem?_getD
def Yj:=@Classical.byContradiction
def Yk:=@List.nodup_append
def Yl:=@List.append_assoc
def Ym:=@List.mem_range
def Yn:=@Nat.ne_of_gt
def Yo:=@Ne.symm
def Yp:=@Nat.lt_of_le_of_lt
def Yq:=@decide_eq_decide
def Yr:=@Bool.eq_iff_iff
def Ys:=@Bool.false_ne_true
def Yt:=@List.getElem_idxOf
def Yu:=@List.append_of_mem
def Yv:=@PySem.wpAny_holding
def Yw:=@beq_iff_eq
def Yx:=@List.filter_nil
def Yy:=@List.pairwise_iff_getElem
def Yz:=@PySem.F.slot_list_index
def YA:=@List.range_succ
def YB:=@List.filter_congr
def YC:=@Nat.lt_irrefl
def YD:=@List.map_cons
def YE:=@PyProof.Rows.callWith_type1
def YF:=@PySem.sizeLine_eq
def YG:=@List.length_reverse
def YH:=@Nat.testBit_two_pow
def YI:=@List.all_eq_true
def YJ:=@List.any_eq_true
def YK:=@PySem.F.type_list_index
def YL:=@or_false
def YM:=@Bool.false_eq_true
def YN:=@PySem.W.mg_none_of
def YO:=@PyProof.Rows.boot_isinstance
def YQ:=@PySem.boot_len
def YR:=@List.length_replicate
def YS:=@Nat.zero_le
def YT:=@Nat.testBit_or
def YU:=@List.take_of_length_le
def YV:=@beq_eq_false_iff_ne
def YW:=@List.length_range
def YX:=@List.pairwise_map
def YY:=@PySem.F.slot_NoneType_eq
def YZ:=@List.length_erase_of_mem
def Y0:=@List.length_nil
def Y1:=@Bool.or_eq_true
def Y2:=@List.getElem_mem
def Y3:=@PySem.wpAny_mono
def Y4:=@True.intro
def Y5:=@List.length_pos_of_mem
def Y6:=@PySem.wpAny_of_eq
def Y7:=@PySem.Heap.get?_update_self
def Y8:=@List.lookup_cons
def Y9:=@List.mem_flatMap
def xi:=@Option.isSome_iff_exists
def xj:=@List.Pairwise.imp_of_mem
def xk:=@Sum.inr.inj
def xl:=@PySem.W.looks_findIn
def xm:=@Nat.pow_lt_pow_right
def xn:=@List.getLast?_concat
def xo:=@List.flatten_cons
def xp:=@PyProof.Rows.boot_list
def xq:=@Bool.not_eq_true'
def xr:=@Nat.or_lt_two_pow
def xt:=@List.dropLast_concat_getLast
def xu:=@List.replicate_succ
def xv:=@Array.getElem?_eq_none
def xw:=@List.cons.inj
def xx:=@beq_self_eq_true
def xz:=@PySem.Heap.size_push
def xA:=@List.lookup_append
def xB:=@Array.getElem?_toList
def xC:=@Array.getElem?_eq_getElem
def xD:=@PySem.wpAny_passesOwn
def xE:=@List.length_set
def xF:=@List.find?_cons
def xG:=@Int.natCast_pow
def xH:=@Nat.le_antisymm
def xI:=@Nat.testBit_and
def xJ:=@List.getElem?_set_ne
def xK:=@PySem.wpAny_truthy_bool
def xL:=@Nat.le_succ
def xM:=@Option.isSome_map
def xN:=@PySem.Heap.get?_push_ne
def xO:=@Nat.zero_add
def xP:=@Nat.pow_le_pow_right
def xQ:=@Int.zero_add
def xR:=@PySem.F.slot_list_extend
def xS:=@PySem.F.type_list_extend
def xT:=@PyProof.Rows.slot_tuple_getitem
def xU:=@Array.length_toList
def xV:=@PySem.mem_of_lookup
def xW:=@PySem.W.looks_mroIn
def xX:=@PySem.Heap.SameBut.update
def xY:=@List.flatMap_append
def xZ:=@PySem.W.any_some
def x0:=@List.getElem?_replicate
def Xa:=@if_false
def Xb:=@Prod.ext
def Xc:=@PySem.wpAny_getItem_str_slice
def Xd:=@Nat.le_add_right
def Xe:=@decide_eq_false_iff_not
def Xf:=@List.length_tail
def Xg:=@PySem.wpAny_field
def Xh:=@PySem.tupleKind_room_in1
def Xi:=@List.getElem?_tail
def Xj:=@Int.emod_lt_of_pos
def Xk:=@Nat.two_pow_pos
def Xl:=@List.any_cons
def Xm:=@Or.inr
def Xn:=@List.mem_iff_getElem?
def Xo:=@PySem.wpAny_newObj_type
def Xp:=@Nat.lt_trichotomy
def Xq:=@PySem.codeAny_call_builtin
def Xr:=@List.mem_erase_of_ne
def Xs:=@List.getLast?_append
def Xu:=@Nat.mod_two_eq_zero_or_one
def Xv:=@if_true
def Xw:=@PySem.wpAny_call_entry
def Xx:=@List.filterMap_cons
def Xy:=@PySem.Heap.get?_update_ne
def Xz:=@PySem.F.plain_extend_loop
def XA:=@Prod.mk.injEq
def XB:=@Int.emod_nonneg
def XC:=@List.filter_map
def XD:=@PySem.wpAny_Call_Name_kw
def XE:=@PySem.call_meets
def XF:=@Option.isSome_some
def XG:=@PySem.wpAny_callSpecial?_slot
def XH:=@List.pairwise_singleton
def XI:=@List.take_sublist
def XJ:=@PySem.Calls.callWith_builtin
def XM:=@Nat.lt_trans
def XR:=@Nat.lt_succ_of_lt
def XS:=@PySem.wpAny_pyIter_list
def XT:=@PyProof.Rows.bitAnd_m1
def XU:=@PySem.wpAny_nextOf_list_item
def XV:=@PySem.F.slot_dict_get
def XW:=@Nat.lt_succ_self
def XX:=@Nat.lt_of_not_le
def XY:=@PyProof.Rows.boot_tuple
def XZ:=@List.all_cons
def X0:=@Nat.eq_of_testBit_eq
def X1:=@PySem.wpAny_execs_nil
def X2:=@PySem.SeqAt.EqAt.same
def X3:=@Option.map_some
def X4:=@PySem.post_val_or_str
def X5:=@PySem.F.slot_zip_next
def X6:=@PySem.wpAny_updateSeq
def X7:=@List.all_append
def X8:=@PySem.W.plainGet_of
def X9:=@PySem.W.looks_clsIn
def kc:=@List.getElem_of_mem
def ke:=@List.filter_eq_self
def kf:=@List.filter_sublist
def kg:=@List.mem_map_of_mem
def kh:=@Nat.le_of_eq
def ki:=@List.map_map
def kj:=@PySem.Calls.spliced_cons
def km:=@PySem.wpAny_call
def kn:=@PySem.W.callWith_K
def ko:=@List.pairwise_cons
def kq:=@Option.isSome_none
def kx:=@PySem.Calls.spliced_nil
def ky:=@PySem.slot_list_getitem
def kz:=@Nat.le_succ_of_le
def kA:=@Int.one_mul
def kB:=@decide_eq_true_eq
def kC:=@Bool.or_false
def kD:=@PySem.wpAny_attempt
def kE:=@List.sum_cons
def kF:=@List.map_tail
def kG:=@Nat.min_le_right
def kH:=@List.length_drop
def kI:=@List.cons_append
def kJ:=@PySem.wpAny_askSetting
def kK:=@Nat.min_eq_right
def kL:=@PySem.wpAny_pyIter_zip
def kM:=@List.ext_getElem
def kN:=@PySem.Heap.size_update
def kO:=@List.cons_ne_nil
def kP:=@List.mem_reverse
def kQ:=@List.mem_flatten
def kR:=@PySem.codeAny_mono
def kS:=@List.all_map
def kT:=@PySem.Txt.slice_le
def kU:=@Nat.sub_self
def kW:=@List.of_mem_zip
def kX:=@List.forIn_cons
def kY:=@Nat.min_eq_left
def kZ:=@Nat.le_max_left
def k7:=@Nat.testBit_xor
def k8:=@Nat.and_le_left
def k9:=@List.forIn_nil
def Ka:=@decide_false
def Kb:=@Nat.sub_zero
def Kc:=@List.any_map
namespace L2
open PySem PySem.Spec PyProof.Rows
noncomputable def q8(s:Stmt)(j:Nat):Stmt:=match s with
 | .ClassDef _ _ _ body _ _ _ _ _ _ _=>body.getD j (.Pass ⟨0,0,0,0⟩)
 | _=>.Pass ⟨0,0,0,0⟩
noncomputable def qaH(s:Stmt):Arguments:=match s with
 | .FunctionDef _ a _ _ _ _ _ _ _ _=>a
 | _=>{ posonlyargs:=[],args:=[],vararg:=none,kwonlyargs:=[],kw_defaults:=[],kwarg:=none,defaults:=[] }
noncomputable def qaf(s:Stmt):List Stmt:=match s with
 | .FunctionDef _ _ b _ _ _ _ _ _ _=>b
 | _=>[]
noncomputable def qh(s:Stmt):Scope:=match s with
 | .FunctionDef _ _ _ _ _ _ sc _ _ _=>sc
 | _=>{ kind:=.function,names:=[],isGenerator:=false,isCoroutine:=false }
end L2
namespace K42
open PySem L2 PyProof.Rows
noncomputable def top(i:Nat):Stmt:=PySem.Challenge.pw_onceroad_k42_whole_papers_of_webs.main.body.getD i (.Pass ⟨0,0,0,0⟩)
noncomputable abbrev qah:Stmt:=top 42
noncomputable abbrev qaZ:Stmt:=top 47
noncomputable abbrev qat:Stmt:=top 48
noncomputable abbrev jx:Stmt:=top 49
noncomputable abbrev zu:Stmt:=top 50
noncomputable abbrev qau:Stmt:=q8 (top 46) 0
noncomputable abbrev qa0:Stmt:=top 51
noncomputable abbrev zw:Stmt:=q8 (top 46) 1
noncomputable abbrev jF:Stmt:=q8 (top 46) 4
noncomputable abbrev jG:Stmt:=q8 (top 46) 6
noncomputable abbrev zx:Stmt:=q8 (top 46) 7
noncomputable abbrev jp:Stmt:=q8 (top 46) 8
noncomputable abbrev qav:Stmt:=q8 (top 46) 9
noncomputable abbrev jw:Stmt:=q8 (top 46) 12
noncomputable abbrev zy:Stmt:=q8 (top 46) 10
noncomputable abbrev jW:Stmt:=top 52
noncomputable abbrev qaw:Stmt:=q8 (top 46) 2
noncomputable abbrev zT:Stmt:=top 12
noncomputable abbrev za:Stmt:=q8 (top 46) 5
noncomputable abbrev zc:Stmt:=top 13
noncomputable abbrev jX:Stmt:=q8 (top 17) 6
noncomputable abbrev qT:Stmt:=q8 (top 17) 9
noncomputable abbrev jf:Stmt:=q8 (top 17) 10
noncomputable abbrev jI:Stmt:=q8 (top 17) 11
noncomputable abbrev qK:Stmt:=q8 (top 17) 8
noncomputable abbrev jg:Stmt:=q8 (top 17) 7
noncomputable abbrev zd:Stmt:=q8 (top 17) 5
noncomputable abbrev ze:Stmt:=q8 (top 17) 0
noncomputable abbrev zA:Stmt:=q8 (top 17) 1
noncomputable abbrev jk:Stmt:=q8 (top 17) 2
noncomputable abbrev j3:Stmt:=top 14
noncomputable abbrev ji:Stmt:=top 20
noncomputable abbrev qbq:Stmt:=top 19
noncomputable abbrev qX:Stmt:=top 21
noncomputable abbrev qax:Stmt:=top 22
noncomputable abbrev qa4:Stmt:=top 23
noncomputable abbrev jJ:Stmt:=top 26
noncomputable abbrev qay:Stmt:=top 25
noncomputable abbrev qbt:Stmt:=top 54
noncomputable abbrev qa6:Stmt:=top 55
noncomputable abbrev qbu:Stmt:=top 56
noncomputable abbrev qbv:Stmt:=top 59
noncomputable abbrev qak:Stmt:=top 57
noncomputable abbrev qbw:Stmt:=top 58
noncomputable abbrev qbx:Stmt:=top 60
noncomputable abbrev qby:Stmt:=top 61
noncomputable abbrev qa7:Stmt:=top 64
noncomputable abbrev zh:Stmt:=top 63
noncomputable abbrev jq:Stmt:=q8 (top 46) 13
noncomputable abbrev qal:Stmt:=top 15
noncomputable abbrev jK:Stmt:=top 34
noncomputable abbrev j4:Stmt:=top 35
noncomputable abbrev qa9:Stmt:=top 36
noncomputable abbrev qcs:Stmt:=top 28
noncomputable abbrev zH:Stmt:=top 29
noncomputable abbrev qct:Stmt:=top 30
noncomputable abbrev qd4:Stmt:=top 31
noncomputable abbrev jL:Stmt:=top 32
noncomputable abbrev qaB:Stmt:=top 37
noncomputable abbrev qcu:Stmt:=top 38
noncomputable abbrev qbB:Stmt:=top 39
noncomputable abbrev qba:Stmt:=top 62
noncomputable abbrev qbg:Stmt:=top 68
noncomputable abbrev qaC:Stmt:=top 66
noncomputable abbrev zf:Stmt:=top 65
noncomputable abbrev zi:Stmt:=top 67
noncomputable abbrev qam:Stmt:=top 69
noncomputable abbrev qc8:Stmt:=top 70
end K42
namespace Hd
open PySem PySem.W PySem.Calls PyProof.Rows
variable{p:Program}{α:Type}
noncomputable def qf8(c:String->Option Builtin)(p:Program)(w:World)(a:Nat)(b:Option Value):Nat->SharedT->Thread->Option SharedT
 | 0,_,_=>none
 | n+1,s,t=>match through t with
  | true=>some s
  | false=>match stepOk a b t with
   | false=>none
   | true=>match stepT (denote c) p w s t with
    | some (s',t')=>qf8 c p w a b n s' t'
    | none=>none
theorem qfM{e:String->Option Builtin}{w:World}{a:Nat}{b:Option Value}:∀{n:Nat} {s d:SharedT} {t:Thread},qf8 e p w a b n s t=some d->topRun e p w a b n s.abs t=some d.abs
 | 0,_,_,_,h=>by cases h
 | n+1,s,d,t,h=>by
  unfold qf8 at h;unfold topRun
  cases f:through t with
  | true=>rw[f] at h;cases h;rfl
  | false =>
   rw[f] at h
   cases g:stepOk a b t with
   | false=>rw[g] at h;cases h
   | true =>
    rw[g] at h
    cases c:stepT (denote e) p w s t with
    | none=>rw[c] at h;cases h
    | some r=>obtain⟨i,j⟩:=r;rw[c] at h;rw[stepT_spec c];show qfM h
noncomputable def qdy:List Obj->Nat->BT->BT
 | [],_,t=>t
 | o::r,n,t=>qdy r (n+1) (t.ins n o)
noncomputable def qfe(P:Params)(a:OsState):SharedT:=⟨qdy (boot_heap P).objs.toList 0 .nil,(boot_heap P).objs.size,(boot_heap P).life,Array.mk [],boot_drawn,boot_toks,a⟩
theorem boot_abs(P:Params):absHeap (qdy (boot_heap P).objs.toList 0 .nil) (boot_heap P).objs.size (boot_heap P).life=boot_heap P:=by kernel_rfl
noncomputable def qfr(p q:Program)(Xt:Shared->Bool){α:Type}(Yf:Shared->α)(N:Nat)(w:World)(a:OsState):=match (boot_heap w.params).isNs mainGlobals&&(Array.mk []:Array GenState).size==0 with
 | true=>(qf8 treeTable p w (boot_heap w.params).objs.size ((boot_heap w.params).nsMap mainGlobals "__annotations__") N (qfe w.params a) (topStub p)).bind fun s=>match staticsOk (importedModules p.main.body) (boot_heap w.params) s.abs.heap&&namesBound p s.abs.heap&&gensDone s.abs&&laidKept (boot_heap w.params) s.abs.heap with
   | true=>some (openSeen q [] (importedModules p.main.body) Xt true s.abs,Yf s.abs)
   | false=>none
 | false=>none
noncomputable def lookS(p:Program)(N:Nat)(w:World)(a:OsState):Option Shared:=match (boot_heap w.params).isNs mainGlobals&&(Array.mk []:Array GenState).size==0 with
 | true=>(qf8 treeTable p w (boot_heap w.params).objs.size ((boot_heap w.params).nsMap mainGlobals "__annotations__") N (qfe w.params a) (topStub p)).bind fun s=>match staticsOk (importedModules p.main.body) (boot_heap w.params) s.abs.heap&&namesBound p s.abs.heap&&gensDone s.abs&&laidKept (boot_heap w.params) s.abs.heap with
   | true=>some s.abs
   | false=>none
 | false=>none
theorem lookT_map(p q:Program)(Xt:Shared->Bool)(Yf:Shared->α)(N:Nat)(w:World)(a:OsState):qfr p q Xt Yf N w a=(lookS p N w a).map fun s=>(openSeen q [] (importedModules p.main.body) Xt true s,Yf s):=by
 unfold qfr lookS
 cases (boot_heap w.params).isNs mainGlobals&&(Array.mk []:Array GenState).size==0 with
 | false=>rfl
 | true =>
  dsimp only
  cases qf8 treeTable p w (boot_heap w.params).objs.size ((boot_heap w.params).nsMap mainGlobals "__annotations__") N (qfe w.params a) (topStub p) with
  | none=>rfl
  | some s =>
   show(match _ with | true=>_ | false=>_)=Option.map _ (match _ with | true=>_ | false=>_);cases staticsOk (importedModules p.main.body) (boot_heap w.params) s.abs.heap&&namesBound p s.abs.heap&&gensDone s.abs&&laidKept (boot_heap w.params) s.abs.heap<;>rfl
theorem packs{b A B C D E Y:Type}{o:Option b}{f:b->A×B×C×D×E}{g:b->Y}{x:A×B×C×D×E}{y:Y}(h1:o.map (fun s=>((f s).1,(f s).2.1,(f s).2.2.1,(f s).2.2.2.1))=some (x.1,x.2.1,x.2.2.1,x.2.2.2.1))(h:o.map (fun s=>(f s).2.2.2.2)=some x.2.2.2.2)(c:o.map g=some y):o.map (fun s=>(f s,g s))=some (x,y):=by
 cases o with
 | none=>cases c
 | some s =>
  have a:=ym h1;have d:=ym h;have e:=ym c;have i:=congrArg Prod.fst a;have j:=congrArg (fun z=>z.2.1) a;have l:=congrArg (fun z=>z.2.2.1) a;have m:=congrArg (fun z=>z.2.2.2) a;show congrArg some (Xb (Xb i (Xb j (Xb l (Xb m d)))) e)
theorem left_of{q:Program}{Xt:Shared->Bool}{Yf:Shared->α}{Ya:World->α}{N:Nat}(e:opening p=plainProg p.main.scope.names)(n:Nat.ble 600 N=true)(f:∀ s,fenceModules? p s=some s)
  (h:∀ w a,qfr p q Xt Yf N w a=some (openGood q [],Ya w)):LeftO p q [] Xt Yf Ya N:=fun w=>by
 obtain⟨⟨m,l,d,k,a⟩,i,j⟩:=yn.mp (boot_open e n f w);obtain⟨rfl,rfl,rfl,rfl⟩:m=boot_heap w.params/\l=Array.mk []/\d=boot_drawn/\k=boot_toks:=by simpa using j
 have b:=h w a;unfold qfr at b;unfold openEnds;rw[i];show(topFrom treeTable p w N _).map _=_;unfold topFrom;dsimp only;split at b
 .rename_i z
  rw[z];obtain⟨s,o,c⟩:=Option.bind_eq_some_iff.mp b;have r:=qfM o
  have g:(qfe w.params a).abs=⟨boot_heap w.params,Array.mk [],boot_drawn,boot_toks,a⟩:=by
   unfold qfe SharedT.abs;dsimp only;rw[boot_abs]
  rw[g] at r;dsimp only;rw[r];split at c
  .rename_i z2
   show((match staticsOk (importedModules p.main.body) (boot_heap w.params) s.abs.heap&&namesBound p s.abs.heap&&gensDone s.abs&&laidKept (boot_heap w.params) s.abs.heap with | true=>some s.abs | false=>none):Option Shared).map _=_;rw[z2];show c
  .cases c
 .cases b
end Hd
namespace K42
open PySem L2 PyProof.Rows PySem.W
noncomputable abbrev NN:Nat:=20000
noncomputable def Q:Program:=view PySem.Challenge.pw_onceroad_k42_whole_papers_of_webs [0,2,3,4,5,6,7,8,9,10,12,13,14,15,17,19,20,21,22,23,25,26,28,29,30,31,32,34,35,36,37,38,39,41,42,44,45,46,47,48,49,50,51,52,54,55,56,57,58,59,60,61,62,63,64,65,66,67,68,69,70]
noncomputable def en(P:Params)(t:Tok)(v:Value)(k:Str):DictEntry:=⟨PyData.keyHash P k,.str k t,v⟩
noncomputable def cO(t a b r:Nat)(x y z v:Value)(e u:Nat)(q n:Str):Obj:=⟨.type "code",none,.fields #[.str n t,.str q (t+1),.str "/claim/cut.py" (t+2),.int a 0,.int b 0,.int 0 0,.int 0 0,.int 3 0,.ref r,.bool true,.int 181 0,x,y,z,v,.ref e,.int u 0,.int a 0,.str "/claim/cut.py" (u+1)],#[]⟩
noncomputable def cE(t b a r:Nat)(x y z v:Value)(e u:Nat)(n:Str):Obj:=cO t b a r x y z v e u n n
noncomputable def fO(k c:Nat)(s:Stmt)(m q n:Str):Obj:=⟨.type "function",none,.func (fnOf n q (qaH s) (qaf s) (qh s) .none .none .none (.str m k) none (.ref c) .none),#[]⟩
noncomputable def fE(k c:Nat)(s:Stmt)(m n:Str):Obj:=fO k c s m n n
noncomputable def Kf(P:Params):Frag:=
 (nat_lit 2,(⟨.none,none,.dict #[] 0,#[]⟩:Obj)) ::
 (nat_lit 3,(⟨(.type "dict"),none,.dict #[en P 165 (.str "law_onceroad_k42_whole_papers_of_webs" 973) "__name__",en P 166 .none "__doc__",en P 167 .none "__package__",en P 168 (.builtin "__main__.__loader__#opaque") "__loader__",en P 169 .none "__spec__",en P 170 (.ref 6) "__annotations__",en P 171 (.ref 4) "__builtins__",en P 173 (.str "/claim/cut.py" 172) "__file__",en P 174 .none "__cached__",en P 193 (.ref 21) "_wall",en P 221 (.ref 38) "OnceError",en P 246 (.ref 58) "NoName",en P 271 (.ref 77) "Twice",en P 296 (.ref 96) "NoPlace",en P 321 (.ref 115) "NoTie",en P 346 (.ref 134) "TooMany",en P 371 (.ref 153) "NoPairs",en P 396 (.ref 172) "NoRow",en P 421 (.ref 191) "NoBar",en P 433 (.ref 200) "are_pairs",en P 443 (.ref 207) "partners_in",en P 449 (.ref 212) "told_pairs",en P 455 (.ref 217) "singles",en P 585 (.ref 305) "Forest",en P 597 (.ref 316) "is_row",en P 607 (.ref 323) "are_unlike_places",en P 613 (.ref 328) "goes_by_turns",en P 625 (.ref 335) "can_turn",en P 631 (.ref 340) "turned",en P 640 (.ref 347) "greatest",en P 651 (.ref 354) "greatest_from",en P 663 (.ref 361) "sorts",en P 669 (.ref 366) "word_for",en P 676 (.ref 373) "loose",en P 683 (.ref 380) "held",en P 689 (.ref 385) "places_with",en P 699 (.ref 392) "pieces_beside",en P 705 (.ref 397) "odd_pieces",en P 713 (.ref 404) "lack_of",en P 720 (.ref 411) "paper_of",en P 728 (.ref 418) "shows",en P 736 (.ref 425) "is_bar",en P 740 (.int 6 739) "LONGEST_NAME",en P 746 (.ref 430) "is_name",en P 750 (.int 14 749) "MOST_PLACES",en P 752 (.int 30 751) "MOST_TIES",en P 914 (.ref 555) "Web",en P 922 (.ref 566) "has_bit",en P 930 (.ref 573) "is_place",en P 939 (.ref 580) "are_two_places",en P 948 (.ref 587) "numbers_of",en P 960 (.ref 594) "near_of",en P 972 (.ref 601) "piece_around",en P 982 (.ref 608) "_law_cell",en P 989 (.ref 615) "_law_purse",en P 999 (.ref 622) "_law_take",en P 1005 (.ref 627) "_law_names",en P 1019 (.ref 634) "_law_ties",en P 1027 (.ref 641) "_law_many",en P 1038 (.ref 648) "_law_made",en P 1049 (.ref 655) "_law_bits",en P 1064 (.ref 662) "_law_table",en P 1070 (.ref 667) "_law_pieces",en P 1076 (.ref 672) "_law_room",en P 1089 (.ref 679) "_law_are_pairs",en P 1095 (.ref 684) "_law_lack",en P 1101 (.ref 689) "_law_rising",en P 1107 (.ref 694) "_law_bar",en P 1113 (.ref 699) "_law_right",en P 1119 (.ref 704) "law"] 70,#[]⟩:Obj)) ::
 (nat_lit 199,cE 424 50 2 194 (.ref 195) .none (.ref 196) (.ref 197) 198 431 "are_pairs") ::
 (nat_lit 200,fE 422 199 zT "onceroad.pairs" "are_pairs") ::
 (nat_lit 206,cE 434 60 2 201 (.ref 202) .none (.ref 203) (.ref 204) 205 441 "partners_in") ::
 (nat_lit 207,fE 422 206 zc "onceroad.pairs" "partners_in") ::
 (nat_lit 211,cE 444 68 2 208 (.ref 209) .none .none .none 210 447 "told_pairs") ::
 (nat_lit 212,fE 422 211 j3 "onceroad.pairs" "told_pairs") ::
 (nat_lit 216,cE 450 71 2 213 (.ref 214) .none .none .none 215 453 "singles") ::
 (nat_lit 217,fE 422 216 qal "onceroad.pairs" "singles") ::
 (nat_lit 230,cO 470 77 3 225 (.ref 226) .none (.ref 227) (.ref 228) 229 476 "Forest.__init__" "__init__") ::
 (nat_lit 231,fO 456 230 ze "onceroad.forests" "Forest.__init__" "__init__") ::
 (nat_lit 237,cO 479 88 1 232 (.ref 233) .none (.ref 234) (.ref 235) 236 483 "Forest.row" "row") ::
 (nat_lit 238,fO 456 237 zA "onceroad.forests" "Forest.row" "row") ::
 (nat_lit 242,cO 486 91 1 239 (.ref 240) .none .none .none 241 489 "Forest.reached" "reached") ::
 (nat_lit 243,fO 456 242 jk "onceroad.forests" "Forest.reached" "reached") ::
 (nat_lit 263,cO 507 102 1 258 (.ref 259) .none (.ref 260) (.ref 261) 262 512 "Forest.grow" "grow") ::
 (nat_lit 264,fO 456 263 zd "onceroad.forests" "Forest.grow" "grow") ::
 (nat_lit 270,cO 515 110 3 265 (.ref 266) .none (.ref 267) (.ref 268) 269 521 "Forest.reach" "reach") ::
 (nat_lit 271,fO 456 270 jX "onceroad.forests" "Forest.reach" "reach") ::
 (nat_lit 277,cO 524 114 2 272 (.ref 273) .none (.ref 274) (.ref 275) 276 531 "Forest.look_around" "look_around") ::
 (nat_lit 278,fO 456 277 jg "onceroad.forests" "Forest.look_around" "look_around") ::
 (nat_lit 282,cO 534 125 3 279 (.ref 280) .none .none .none 281 537 "Forest.bring_together" "bring_together") ::
 (nat_lit 283,fO 456 282 qK "onceroad.forests" "Forest.bring_together" "bring_together") ::
 (nat_lit 289,cO 540 136 2 284 (.ref 285) .none (.ref 286) (.ref 287) 288 547 "Forest.bases_down_from" "bases_down_from") ::
 (nat_lit 290,fO 456 289 qT "onceroad.forests" "Forest.bases_down_from" "bases_down_from") ::
 (nat_lit 296,cO 550 143 4 291 (.ref 292) .none (.ref 293) (.ref 294) 295 561 "Forest.reach_round" "reach_round") ::
 (nat_lit 297,fO 456 296 jf "onceroad.forests" "Forest.reach_round" "reach_round") ::
 (nat_lit 301,cO 564 152 3 298 (.ref 299) .none .none .none 300 567 "Forest.fold" "fold") ::
 (nat_lit 302,fO 456 301 jI "onceroad.forests" "Forest.fold" "fold") ::
 (nat_lit 304,(⟨(.type "dict"),none,.dict #[en P 465 (.str "onceroad.forests" 456) "__module__",en P 469 (.int 75 468) "__firstlineno__",en P 478 (.ref 231) "__init__",en P 485 (.ref 238) "row",en P 491 (.ref 243) "reached",en P 499 (.ref 250) "row_to",en P 506 (.ref 257) "folds",en P 514 (.ref 264) "grow",en P 523 (.ref 271) "reach",en P 533 (.ref 278) "look_around",en P 539 (.ref 283) "bring_together",en P 549 (.ref 290) "bases_down_from",en P 563 (.ref 297) "reach_round",en P 569 (.ref 302) "fold",en P 578 (.ref 303) "__static_attributes__",en P 580 (.ref 306) "__dict__",en P 582 (.ref 307) "__weakref__",en P 583 .none "__doc__"] 4,#[]⟩:Obj)) ::
 (nat_lit 305,(⟨(.type "type"),none,.cls { name:="Forest",bases:=[(.type "object")],mro:=[(.ref 305),(.type "object")],ns:=304,qualname:="Forest",hasDict:=true,slotNames:=[],subclasses:=[],abstract:=false,collection:=none,hasDel:=false },#[none,none,(some (.str "Forest" 458)),(some (.str "Forest" 466)),(some (.builtin "object.__new__")),(some (.bool true))]⟩:Obj)) ::
 (nat_lit 315,cE 588 158 3 310 (.ref 311) .none (.ref 312) (.ref 313) 314 595 "is_row") ::
 (nat_lit 316,fE 586 315 qbq "onceroad.rows" "is_row") ::
 (nat_lit 322,cE 598 163 2 317 (.ref 318) .none (.ref 319) (.ref 320) 321 605 "are_unlike_places") ::
 (nat_lit 323,fE 586 322 ji "onceroad.rows" "are_unlike_places") ::
 (nat_lit 327,cE 608 172 3 324 (.ref 325) .none .none .none 326 611 "goes_by_turns") ::
 (nat_lit 328,fE 586 327 qX "onceroad.rows" "goes_by_turns") ::
 (nat_lit 334,cE 614 178 3 329 (.ref 330) .none (.ref 331) (.ref 332) 333 623 "can_turn") ::
 (nat_lit 335,fE 586 334 qax "onceroad.rows" "can_turn") ::
 (nat_lit 339,cE 626 185 3 336 (.ref 337) .none .none .none 338 629 "turned") ::
 (nat_lit 340,fE 586 339 qa4 "onceroad.rows" "turned") ::
 (nat_lit 346,cE 634 192 1 341 (.ref 342) .none (.ref 343) (.ref 344) 345 638 "greatest") ::
 (nat_lit 347,fE 632 346 qay "onceroad.greatest" "greatest") ::
 (nat_lit 353,cE 641 194 2 348 (.ref 349) .none (.ref 350) (.ref 351) 352 649 "greatest_from") ::
 (nat_lit 354,fE 632 353 jJ "onceroad.greatest" "greatest_from") ::
 (nat_lit 360,cE 654 204 1 355 (.ref 356) .none (.ref 357) (.ref 358) 359 661 "sorts") ::
 (nat_lit 361,fE 652 360 qcs "onceroad.sorts" "sorts") ::
 (nat_lit 365,cE 664 210 3 362 (.ref 363) .none .none .none 364 667 "word_for") ::
 (nat_lit 366,fE 652 365 zH "onceroad.sorts" "word_for") ::
 (nat_lit 372,cE 670 214 1 367 (.ref 368) .none (.ref 369) (.ref 370) 371 674 "loose") ::
 (nat_lit 373,fE 652 372 qct "onceroad.sorts" "loose") ::
 (nat_lit 379,cE 677 216 1 374 (.ref 375) .none (.ref 376) (.ref 377) 378 681 "held") ::
 (nat_lit 380,fE 652 379 qd4 "onceroad.sorts" "held") ::
 (nat_lit 384,cE 684 218 2 381 (.ref 382) .none .none .none 383 687 "places_with") ::
 (nat_lit 385,fE 652 384 jL "onceroad.sorts" "places_with") ::
 (nat_lit 391,cE 692 222 2 386 (.ref 387) .none (.ref 388) (.ref 389) 390 697 "pieces_beside") ::
 (nat_lit 392,fE 690 391 jK "onceroad.bars" "pieces_beside") ::
 (nat_lit 396,cE 700 226 2 393 (.ref 394) .none .none .none 395 703 "odd_pieces") ::
 (nat_lit 397,fE 690 396 j4 "onceroad.bars" "odd_pieces") ::
 (nat_lit 403,cE 706 228 2 398 (.ref 399) .none (.ref 400) (.ref 401) 402 711 "lack_of") ::
 (nat_lit 404,fE 690 403 qa9 "onceroad.bars" "lack_of") ::
 (nat_lit 410,cE 714 230 1 405 (.ref 406) .none (.ref 407) (.ref 408) 409 718 "paper_of") ::
 (nat_lit 411,fE 690 410 qaB "onceroad.bars" "paper_of") ::
 (nat_lit 417,cE 721 232 2 412 (.ref 413) .none (.ref 414) (.ref 415) 416 726 "shows") ::
 (nat_lit 418,fE 690 417 qcu "onceroad.bars" "shows") ::
 (nat_lit 424,cE 729 238 2 419 (.ref 420) .none (.ref 421) (.ref 422) 423 734 "is_bar") ::
 (nat_lit 425,fE 690 424 qbB "onceroad.bars" "is_bar") ::
 (nat_lit 429,cE 741 242 1 426 (.ref 427) .none .none .none 428 744 "is_name") ::
 (nat_lit 430,fE 737 429 qah "onceroad.names" "is_name") ::
 (nat_lit 443,cO 765 251 3 438 (.ref 439) .none (.ref 440) (.ref 441) 442 771 "Web.__init__" "__init__") ::
 (nat_lit 444,fO 747 443 qau "onceroad.webs" "Web.__init__" "__init__") ::
 (nat_lit 450,cO 774 256 1 445 (.ref 446) .none (.ref 447) (.ref 448) 449 778 "Web.places" "places") ::
 (nat_lit 451,fO 747 450 zw "onceroad.webs" "Web.places" "places") ::
 (nat_lit 457,cO 781 259 1 452 (.ref 453) .none (.ref 454) (.ref 455) 456 788 "Web.ties" "ties") ::
 (nat_lit 458,fO 747 457 qaw "onceroad.webs" "Web.ties" "ties") ::
 (nat_lit 471,cO 798 270 2 466 (.ref 467) .none (.ref 468) (.ref 469) 470 803 "Web.has_place" "has_place") ::
 (nat_lit 472,fO 747 471 jF "onceroad.webs" "Web.has_place" "has_place") ::
 (nat_lit 478,cO 806 273 2 473 (.ref 474) .none (.ref 475) (.ref 476) 477 811 "Web.has_tie" "has_tie") ::
 (nat_lit 479,fO 747 478 za "onceroad.webs" "Web.has_tie" "has_tie") ::
 (nat_lit 485,cO 814 276 2 480 (.ref 481) .none (.ref 482) (.ref 483) 484 819 "Web.number_of" "number_of") ::
 (nat_lit 486,fO 747 485 jG "onceroad.webs" "Web.number_of" "number_of") ::
 (nat_lit 492,cO 822 281 2 487 (.ref 488) .none (.ref 489) (.ref 490) 491 827 "Web.beside" "beside") ::
 (nat_lit 493,fO 747 492 zx "onceroad.webs" "Web.beside" "beside") ::
 (nat_lit 499,cO 830 284 2 494 (.ref 495) .none (.ref 496) (.ref 497) 498 835 "Web.bits_beside" "bits_beside") ::
 (nat_lit 500,fO 747 499 jp "onceroad.webs" "Web.bits_beside" "bits_beside") ::
 (nat_lit 506,cO 838 287 3 501 (.ref 502) .none (.ref 503) (.ref 504) 505 845 "Web.tied" "tied") ::
 (nat_lit 507,fO 747 506 qav "onceroad.webs" "Web.tied" "tied") ::
 (nat_lit 513,cO 848 291 1 508 (.ref 509) .none (.ref 510) (.ref 511) 512 856 "Web.pieces" "pieces") ::
 (nat_lit 514,fO 747 513 zy "onceroad.webs" "Web.pieces" "pieces") ::
 (nat_lit 525,cO 866 304 2 522 (.ref 523) .none .none .none 524 869 "Web.names_in" "names_in") ::
 (nat_lit 526,fO 747 525 jw "onceroad.webs" "Web.names_in" "names_in") ::
 (nat_lit 530,cO 872 307 2 527 (.ref 528) .none .none .none 529 875 "Web.without" "without") ::
 (nat_lit 531,fO 747 530 jq "onceroad.webs" "Web.without" "without") ::
 (nat_lit 554,(⟨(.type "dict"),none,.dict #[en P 760 (.str "onceroad.webs" 747) "__module__",en P 764 (.int 249 763) "__firstlineno__",en P 773 (.ref 444) "__init__",en P 780 (.ref 451) "places",en P 790 (.ref 458) "ties",en P 797 (.ref 465) "how_many",en P 805 (.ref 472) "has_place",en P 813 (.ref 479) "has_tie",en P 821 (.ref 486) "number_of",en P 829 (.ref 493) "beside",en P 837 (.ref 500) "bits_beside",en P 847 (.ref 507) "tied",en P 858 (.ref 514) "pieces",en P 865 (.ref 521) "told",en P 871 (.ref 526) "names_in",en P 877 (.ref 531) "without",en P 885 (.ref 538) "with_place",en P 894 (.ref 545) "with_tie",en P 903 (.ref 552) "without_tie",en P 907 (.ref 553) "__static_attributes__",en P 909 (.ref 556) "__dict__",en P 911 (.ref 557) "__weakref__",en P 912 .none "__doc__"] 4,#[]⟩:Obj)) ::
 (nat_lit 555,(⟨(.type "type"),none,.cls { name:="Web",bases:=[(.type "object")],mro:=[(.ref 555),(.type "object")],ns:=554,qualname:="Web",hasDict:=true,slotNames:=[],subclasses:=[],abstract:=false,collection:=none,hasDel:=false },#[none,none,(some (.str "Web" 753)),(some (.str "Web" 761)),(some (.builtin "object.__new__")),(some (.bool true))]⟩:Obj)) ::
 (nat_lit 565,cE 915 325 2 560 (.ref 561) .none (.ref 562) (.ref 563) 564 920 "has_bit") ::
 (nat_lit 566,fE 747 565 qaZ "onceroad.webs" "has_bit") ::
 (nat_lit 572,cE 923 327 2 567 (.ref 568) .none (.ref 569) (.ref 570) 571 928 "is_place") ::
 (nat_lit 573,fE 747 572 qat "onceroad.webs" "is_place") ::
 (nat_lit 579,cE 931 329 2 574 (.ref 575) .none (.ref 576) (.ref 577) 578 937 "are_two_places") ::
 (nat_lit 580,fE 747 579 jx "onceroad.webs" "are_two_places") ::
 (nat_lit 586,cE 940 334 1 581 (.ref 582) .none (.ref 583) (.ref 584) 585 946 "numbers_of") ::
 (nat_lit 587,fE 747 586 zu "onceroad.webs" "numbers_of") ::
 (nat_lit 593,cE 949 347 2 588 (.ref 589) .none (.ref 590) (.ref 591) 592 958 "near_of") ::
 (nat_lit 594,fE 747 593 qa0 "onceroad.webs" "near_of") ::
 (nat_lit 600,cE 961 363 2 595 (.ref 596) .none (.ref 597) (.ref 598) 599 970 "piece_around") ::
 (nat_lit 601,fE 747 600 jW "onceroad.webs" "piece_around") ::
 (nat_lit 607,cE 975 373 2 602 (.ref 603) .none (.ref 604) (.ref 605) 606 980 "_law_cell") ::
 (nat_lit 608,fE 973 607 qbt "law_onceroad_k42_whole_papers_of_webs" "_law_cell") ::
 (nat_lit 614,cE 983 377 1 609 (.ref 610) .none (.ref 611) (.ref 612) 613 987 "_law_purse") ::
 (nat_lit 615,fE 973 614 qa6 "law_onceroad_k42_whole_papers_of_webs" "_law_purse") ::
 (nat_lit 621,cE 990 379 2 616 (.ref 617) .none (.ref 618) (.ref 619) 620 997 "_law_take") ::
 (nat_lit 622,fE 973 621 qbu "law_onceroad_k42_whole_papers_of_webs" "_law_take") ::
 (nat_lit 626,cE 1000 389 2 623 (.ref 624) .none .none .none 625 1003 "_law_names") ::
 (nat_lit 627,fE 973 626 qak "law_onceroad_k42_whole_papers_of_webs" "_law_names") ::
 (nat_lit 633,cE 1006 407 2 628 (.ref 629) .none (.ref 630) (.ref 631) 632 1017 "_law_ties") ::
 (nat_lit 634,fE 973 633 qbw "law_onceroad_k42_whole_papers_of_webs" "_law_ties") ::
 (nat_lit 640,cE 1020 419 2 635 (.ref 636) .none (.ref 637) (.ref 638) 639 1025 "_law_many") ::
 (nat_lit 641,fE 973 640 qbv "law_onceroad_k42_whole_papers_of_webs" "_law_many") ::
 (nat_lit 647,cE 1028 421 2 642 (.ref 643) .none (.ref 644) (.ref 645) 646 1036 "_law_made") ::
 (nat_lit 648,fE 973 647 qbx "law_onceroad_k42_whole_papers_of_webs" "_law_made") ::
 (nat_lit 654,cE 1039 426 2 649 (.ref 650) .none (.ref 651) (.ref 652) 653 1047 "_law_bits") ::
 (nat_lit 655,fE 973 654 qby "law_onceroad_k42_whole_papers_of_webs" "_law_bits") ::
 (nat_lit 661,cE 1050 432 2 656 (.ref 657) .none (.ref 658) (.ref 659) 660 1062 "_law_table") ::
 (nat_lit 662,fE 973 661 qba "law_onceroad_k42_whole_papers_of_webs" "_law_table") ::
 (nat_lit 666,cE 1065 446 3 663 (.ref 664) .none .none .none 665 1068 "_law_pieces") ::
 (nat_lit 667,fE 973 666 zh "law_onceroad_k42_whole_papers_of_webs" "_law_pieces") ::
 (nat_lit 671,cE 1071 459 2 668 (.ref 669) .none .none .none 670 1074 "_law_room") ::
 (nat_lit 672,fE 973 671 qa7 "law_onceroad_k42_whole_papers_of_webs" "_law_room") ::
 (nat_lit 678,cE 1077 461 3 673 (.ref 674) .none (.ref 675) (.ref 676) 677 1087 "_law_are_pairs") ::
 (nat_lit 679,fE 973 678 zf "law_onceroad_k42_whole_papers_of_webs" "_law_are_pairs") ::
 (nat_lit 683,cE 1090 474 3 680 (.ref 681) .none .none .none 682 1093 "_law_lack") ::
 (nat_lit 684,fE 973 683 qaC "law_onceroad_k42_whole_papers_of_webs" "_law_lack") ::
 (nat_lit 688,cE 1096 479 2 685 (.ref 686) .none .none .none 687 1099 "_law_rising") ::
 (nat_lit 689,fE 973 688 zi "law_onceroad_k42_whole_papers_of_webs" "_law_rising") ::
 (nat_lit 693,cE 1102 482 3 690 (.ref 691) .none .none .none 692 1105 "_law_bar") ::
 (nat_lit 694,fE 973 693 qbg "law_onceroad_k42_whole_papers_of_webs" "_law_bar") ::
 (nat_lit 698,cE 1108 487 4 695 (.ref 696) .none .none .none 697 1111 "_law_right") ::
 (nat_lit 699,fE 973 698 qam "law_onceroad_k42_whole_papers_of_webs" "_law_right") ::
 (nat_lit 703,cE 1114 496 1 700 (.ref 701) .none .none .none 702 1117 "law") ::
 (nat_lit 704,fE 973 703 qc8 "law_onceroad_k42_whole_papers_of_webs" "law") ::
 []
noncomputable def ks:LX:=[2,3,199,200,206,207,211,212,216,217,230,231,237,238,242,243,263,264,270,271,277,278,282,283,289,290,296,297,301,302,304,305,315,316,322,323,327,328,334,335,339,340,346,347,353,354,360,361,365,366,372,373,379,380,384,385,391,392,396,397,403,404,410,411,417,418,424,425,429,430,443,444,450,451,457,458,471,472,478,479,485,486,492,493,499,500,506,507,513,514,525,526,530,531,554,555,565,566,572,573,579,580,586,587,593,594,600,601,607,608,614,615,621,622,626,627,633,634,640,641,647,648,654,655,661,662,666,667,671,672,678,679,683,684,688,689,693,694,698,699,703,704]
theorem ks_eq:∀ P,ks=(Kf P).map (·.1):=fun P=>by kernel_rfl
noncomputable abbrev Hk:Hook:=kHook Kf ks ks_eq
noncomputable abbrev Xt(s:Shared):Bool:=xlAt Q [] s&&recOk [] s
noncomputable abbrev sn(s:Shared):=openSeen Q [] (importedModules PySem.Challenge.pw_onceroad_k42_whole_papers_of_webs.main.body) Xt true s
noncomputable def runA(w:World)(a:OsState):=(Hd.lookS PySem.Challenge.pw_onceroad_k42_whole_papers_of_webs NN w a).map fun s=>((sn s).1,(sn s).2.1,(sn s).2.2.1,(sn s).2.2.2.1)
noncomputable def runB(w:World)(a:OsState):=(Hd.lookS PySem.Challenge.pw_onceroad_k42_whole_papers_of_webs NN w a).map fun s=>(sn s).2.2.2.2
noncomputable def runC(w:World)(a:OsState):=(Hd.lookS PySem.Challenge.pw_onceroad_k42_whole_papers_of_webs NN w a).map fun s=>ks.map s.heap.get?
noncomputable def gdA(_:World)(_:OsState):=some ((openGood Q []).1,(openGood Q []).2.1,(openGood Q []).2.2.1,(openGood Q []).2.2.2.1)
noncomputable def gdB(_:World)(_:OsState):=some (openGood Q []).2.2.2.2
noncomputable def gdC(w:World)(_:OsState):=some ((Kf w.params).map fun p=>some p.2)
noncomputable def tag{a:Type}(f g:World->OsState->a):Bool:=true
theorem tag1:(tag runA gdA&&(tag runB gdB&&tag runC runC))=true:=by k_qdec
theorem hA1(w:World)(a:OsState):runA w a=gdA w a:=by
 rw[PySem.W.Fast.te1447832142256123425,PySem.W.Fast.te17966688527167819663]
 kernel_rfl
theorem hB1(w:World)(a:OsState):runB w a=gdB w a:=by
 rw[PySem.W.Fast.te8841896136727874314,PySem.W.Fast.te9584106204395278712]
 kernel_rfl
theorem hC1(w:World)(a:OsState):runC w a=gdC w a:=by
 rw[PySem.W.Fast.te9711137236364379803]
 kernel_rfl
theorem hl:LeftO PySem.Challenge.pw_onceroad_k42_whole_papers_of_webs Q [] Xt (Hook.obs Hk) (Hook.val Hk) NN:=Hd.left_of (by kernel_rfl) (by decide) (fun s=>by kernel_rfl) fun w a=>(Hd.lookT_map ..).trans (Hd.packs (hA1 w a) (hB1 w a) (hC1 w a))
end K42
namespace L2
open PySem PySem.Spec PyProof.Rows
variable{A:Around}{C a b dx it:Addr}{CX:CXT}{D:Ends}{E:Value->Shared->Prop}{H:Hp}{M:Model}{N ps:LS}{P:Program}{X:Cx}{base h:Heap}{body:List Stmt}{c e tg:Expr}{ch fp:LX}{d':Drawn}{es:List Expr}{f:Value->Value->Sem Value}{g:TG}{g':Array GenState}{i j n t':Nat}{kindOf:Str->Option NameKind}{kw:List (Str×Value)}{lo:Int}{mA mg:Str->Option Value}{o:HO}{op op':CmpOp}{outer:List Env}{p pos:Pos}{pins:List (Addr×Obj)}{pl:Sem Bool}{qual x:Str}{r r':R2}{s s':Shared}{sc scope:Scope}{t te:TE}{ta:TA}{tb:TS}{tc:TT}{u:Value}{us:List Value}{v y:V}{vs xs:List V}{w:World}{α:Type}{σ:St}
noncomputable abbrev Key:=Sum Int Str
noncomputable def qda:Key->Value->Bool
 | .inl k,v=>Value.isInt k v
 | .inr x,v=>Value.isStrOf x v
noncomputable def keyH(w:World):Key->Int
 | .inl k=>hashInt k
 | .inr x=>hashStr w x
theorem je:∀{k:Key} {v:Value},qda k v=true->(∃ i t,k=Sum.inl i/\v=Value.int i t)\/(∃ x t,k=Sum.inr x/\v=Value.str x t)
 | .inl i,v,h=>by
  obtain⟨t,e⟩:=Value.isInt_shape (k:=i) (v:=v) h;show .inl ⟨i,t,rfl,e⟩
 | .inr x,v,h=>by
  obtain⟨t,e⟩:=Value.isStrOf_shape (x:=x) (v:=v) h;show .inr ⟨x,t,rfl,e⟩
theorem keyIs_int(i:Int)(t:Tok):qda (.inl i) (.int i t)=true:=by simp[qda,Value.isInt]
theorem keyIs_str(x:Str)(t:Tok):qda (.inr x) (.str x t)=true:=by simp[qda,Value.isStrOf]
theorem key_ll(a b:Int):decide ((Sum.inl a:Key)=Sum.inl b)=(a==b):=by
 by_cases e:a=b
 .subst e;simp
 .have h:¬ (Sum.inl a:Key)=Sum.inl b:=fun q=>e (Sum.inl.inj q);rw[yl h];show(YV.mpr e).symm
theorem key_rr(a b:Str):decide ((Sum.inr a:Key)=Sum.inr b)=decide (a=b):=by
 by_cases e:a=b
 .subst e;simp
 .have h:¬ (Sum.inr a:Key)=Sum.inr b:=fun q=>e (xk q);rw[yl h,yl e]
theorem key_lr(a:Int)(b:Str):decide ((Sum.inl a:Key)=Sum.inr b)=false:=yl (fun q=>nomatch q)
theorem key_rl(a:Str)(b:Int):decide ((Sum.inr a:Key)=Sum.inl b)=false:=yl (fun q=>nomatch q)
noncomputable def jr(prog:Program)(w:World):PySem.KeyKind prog w Key where
 is:=qda
 hash:=keyH w
 inj:=fun v a b d c=>by
  rcases je d with⟨i,t,rfl,rfl⟩ | ⟨x,t,rfl,rfl⟩
  .rcases je c with⟨j,u,rfl,e⟩ | ⟨y,u,rfl,e⟩
   .injection e with e1 _;rw[e1]
   .show nomatch e
  .rcases je c with⟨j,u,rfl,e⟩ | ⟨y,u,rfl,e⟩
   .show nomatch e
   .injection e with e1 _;rw[e1]
 byValue:=fun k v h=>by
  rcases je h with⟨i,t,rfl,rfl⟩ | ⟨x,t,rfl,rfl⟩<;>rfl
 pyHash:=fun hv h=>by
  rcases je hv with⟨i,t,rfl,rfl⟩ | ⟨x,t,rfl,rfl⟩
  .show wpAny_pyHash_int h
  .show wpAny_pyHash_str h
 eqBool:=fun f hv h=>by
  rcases je f with⟨i,t,rfl,rfl⟩ | ⟨x,t,rfl,rfl⟩
  .rcases je hv with⟨j,u,rfl,rfl⟩ | ⟨y,u,rfl,rfl⟩
   .rw [key_ll] at h;show wpAny_eqBool_int h
   .rw [key_lr] at h;show SeqAt.EqAt.int_str i t y u _ _ _ _ h
  .rcases je hv with⟨j,u,rfl,rfl⟩ | ⟨y,u,rfl,rfl⟩
   .rw [key_rl] at h;show SeqAt.EqAt.str_int x t j u _ _ _ _ h
   .rw [key_rr] at h;show wpAny_eqBool_str h
 «strs»:=fun k x t v h=>by
  rcases je h with⟨i,u,rfl,e⟩ | ⟨y,u,rfl,e⟩
  .show nomatch e
  .injection e with e1 _
   subst e1;cases v<;>rfl
theorem mixKind_int(prog:Program)(w:World)(i:Int)(t:Tok):(jr prog w).is (.inl i) (.int i t)=true:=keyIs_int i t
theorem mixKind_str(prog:Program)(w:World)(x:Str)(t:Tok):(jr prog w).is (.inr x) (.str x t)=true:=keyIs_str x t
inductive V where
 | non | bl (b:Bool) | int (i:Int) | str (x:Str) | byt (b:Array UInt8) | flt (b:UInt64) | ref (a:Addr) | ty (n:String)
 deriving DecidableEq
def RelV:V->Value->Prop
 | .non,u=>u=Value.none
 | .bl b,u=>u=Value.bool b
 | .int i,u=>∃ t,u=Value.int i t
 | .str x,u=>∃ t,u=Value.str x t
 | .byt b,u=>∃ t,u=Value.bytes b t
 | .flt b,u=>∃ t,u=Value.float b t
 | .ref a,u=>u=Value.ref a
 | .ty n,u=>u=Value.type n
abbrev Vals:List V->List Value->Prop:=Paired RelV
theorem Vals.length(r:Vals xs us):xs.length=us.length:=Paired.length r
theorem Vals.get:∀{xs:List V} {us:List Value} {i:Nat} {x:V},Vals xs us->xs[i]?=some x->∃ u,us[i]?=some u/\RelV x u
 | _,_,_,_,.nil,e=>by simp at e
 | _,_,0,_,.cons r _,e=>by simp at e;subst e;show⟨_,rfl,r⟩
 | _,_,i+1,x,.cons _ t,e=>by
  obtain⟨u,h1,a⟩:=Vals.get (i:=i) (x:=x) t (by simpa using e);show⟨u,by simpa using h1,a⟩
theorem Vals.set{x:V}(r:RelV x u):∀{xs:List V} {us:List Value} (i:Nat),Vals xs us->Vals (xs.set i x) (us.set i u)
 | _,_,_,.nil=>.nil
 | _,_,0,.cons _ t=>.cons r t
 | _,_,i+1,.cons q t=>.cons q (Vals.set r i t)
theorem Vals.append:∀{xs ys:List V} {us a:List Value},Vals xs us->Vals ys a->Vals (xs++ys) (us++a)
 | _,_,_,_,.nil,s=>s
 | _,_,_,_,.cons r t,s=>.cons r (Vals.append t s)
theorem Vals.take:∀{xs:List V} {us:List Value} (n:Nat),Vals xs us->Vals (xs.take n) (us.take n)
 | _,_,0,_=>.nil
 | _,_,_+1,.nil=>.nil
 | _,_,n+1,.cons r t=>.cons r (Vals.take n t)
theorem Vals.drop:∀{xs:List V} {us:List Value} (n:Nat),Vals xs us->Vals (xs.drop n) (us.drop n)
 | _,_,0,r=>r
 | _,_,_+1,.nil=>.nil
 | _,_,n+1,.cons _ t=>Vals.drop n t
def RelO:Option V->Option Value->Prop
 | some v,some u=>RelV v u
 | none,none=>True
 | _,_=>False
def KV{a:Type}:List (a×V)->List (a×Value)->Prop:=Paired fun(p:a×V) (q:a×Value)=>p.1=q.1/\RelV p.2 q.2
noncomputable def kV:Key->V
 | .inl i=>.int i
 | .inr x=>.str x
inductive HO where
 /-- a list -/
 | lst (xs:List V)
 /-- a tuple (never changes) -/
 | tup (xs:List V)
 /-- a dict whose keys are ints and texts;one whose keys are tuples of ints and texts (the empty one is both) -/
 | dK (kvs:List (Key×V)) | dT (kvs:List (List Key×V))
 /-- a set of ints: its members,its size -/
 | set (S:Int->Bool) (n:Nat)
 /-- an instance of the class at C,its dict at dx,its attributes -/
 | ins (C dx:Addr) (fs:List (Str×V))
 /-- the dict of the instance at x -/
 | own (x:Addr)
 /-- the dict of an exception -/
 | xd (fs:List (Str×V))
 /-- a bound method,f of x -/
 | met (f x:Addr)
 /-- a range object lo,lo+1,.. below hi -/
 | rng (lo hi:Int)
 /-- a thing that is known to the object (the script;a dict while a loop walks it): read,never written while it is so -/
 | frz (o:Obj) (u:HO)
 /-- a code object's table -/
 | tbl (ps:Array Value)
 /-- any other thing,by what is true of its one object (a def of one's own: SetO a S n:=HO.ext fun h=>..) -/
 | ext (φ:Heap->Prop)
noncomputable abbrev Hp:=Addr->Option HO
noncomputable def upd(H:Hp)(a:Addr)(o:HO):Hp:=fun b=>if b=a then some o else H b
theorem qb:upd H a o a=some o:=by unfold upd;rw[yG rfl]
theorem qf(h:b≠a):upd H a o b=H b:=by unfold upd;rw[yA h]
theorem zJ{u:HO}(h:H a=some o)(h':H b=some u)(d:o≠u):a≠b:=by
 intro e;subst e;rw[h] at h';show d (ym h')
theorem qJ(h:H a=some o)(h':H b=none):a≠b:=by
 intro e;subst e;rw[h] at h';cases h'
section
variable(P:Program)(w:World)
def ObjOk(H:Hp)(h:Heap)(a:Addr):HO->Prop
 | .lst xs=>xs.length<=sizeLine/\∃(b:List Value) (n:Nat),Vals xs b/\h.get? a=some { cls:=.type "list",data:=.seq b.toArray n }
 | .tup xs=>xs.length<=sizeLine/\∃ b:List Value,Vals xs b/\IsTup h a b.toArray
 | .dK kvs=>kvs.length<=sizeLine/\(a==sysModules)=false/\∃ vs,KV kvs vs/\h.DictOf (jr P w) a vs
 | .dT kvs=>kvs.length<=sizeLine/\(a==sysModules)=false/\∃ xs:List (List Key×Addr×Value),
   Paired (fun(p:List Key×V) (q:List Key×Addr×Value)=>p.1=q.1/\H q.2.1=some (.tup (p.1.map kV))/\RelV p.2 q.2.2) kvs xs /\
   ∃ o es ep,h.get? a=some o/\o.ExactDict/\o.data=.dict es ep/\es.toList=xs.map (entryOfKey (tupleKind (jr P w)))/\(xs.map (·.1)).Nodup
 | .set S n=>h.SetOf (intKind P w) a S n
 | .ins C dx fs=>H dx=some (.own a)/\fs.length<=1000/\dx≠a/\h.get? a=some (PySem.W.instObj C dx) /\
   ∃ mA,h.Ns1 dx mA/\(∀ f,RelO (fs.lookup f) (mA f))/\PySem.Within mA (fs.map (·.1))
 | .own _=>∃ o,h.get? a=some o
 | .xd fs=>∃ mA,h.Ns1 a mA/\∀ f,RelO (fs.lookup f) (mA f)
 | .rng lo hi=>∃ t u v,h.get? a=some { cls:=.type "range",data:=.fields #[.int lo t,.int hi u,.int 1 v] }
 | .frz o u=>h.get? a=some o/\ObjOk H h a u
 | .tbl ps=>h.get? a=some { cls:=.none,data:=.fields ps }
 | .met f x=>h.get? a=some (PySem.W.methodObj (.ref f) (.ref x))
 | .ext φ=>φ h/\(∃ o,h.get? a=some o)/\∀ h1 c:Heap,φ h1->(∀ o,h1.get? a=some o->c.get? a=some o)->φ c
def HOk(H:Hp)(h:Heap):Prop:=∀ a o,H a=some o->ObjOk P w H h a o
end
section
variable{P:Program}{w:World}{H H':Hp}{h h':Heap}{a:Addr}{o:HO}
theorem ObjOk.lt(x:ObjOk P w H h a o):a<h.objs.size:=by
 cases o with
 | lst xs=>obtain⟨_,_,_,_,e⟩:=x;show yQ e
 | tup xs=>obtain⟨_,_,_,p⟩:=x;show p.lt
 | dK kvs=>obtain⟨_,_,_,_,o,_,_,e,_⟩:=x;show yQ e
 | dT kvs=>obtain⟨_,_,_,_,o,_,_,e,_⟩:=x;show yQ e
 | set S n=>obtain⟨o,_,_,_,e,_⟩:=x;show yQ e
 | ins C dx fs=>obtain⟨_,_,_,e,_⟩:=x;show yQ e
 | own y=>obtain⟨_,e⟩:=x;show yQ e
 | xd fs=>obtain⟨_,⟨_,_,_,e,_⟩,_⟩:=x;show yQ e
 | rng lo hi=>obtain⟨_,_,_,e⟩:=x;show yQ e
 | frz ob u=>obtain⟨e,_⟩:=x;show yQ e
 | tbl ps=>show yQ (show h.get? a=some _ from x)
 | met f y=>show yQ (show h.get? a=some _ from x)
 | ext φ=>obtain⟨_,⟨_,e⟩,_⟩:=x;show yQ e
theorem Paired.mapP{d:Type}{F G:α->d->Prop}:∀{l₁:List α} {c:List d},Paired F l₁ c->(∀ a b,F a b->G a b)->Paired G l₁ c
 | _,_,.nil,_=>.nil
 | _,_,.cons r t,f=>.cons (f _ _ r) (Paired.mapP t f)
theorem ObjOk.stay(x:ObjOk P w H h a o)(k:∀ b u,(b=a\/H b=some (.own a))->h.get? b=some u->h'.get? b=some u)
  (l:∀ b,H b=some (.own a)->H' b=some (.own a)) (m:∀ b xs,H b=some (.tup xs)->H' b=some (.tup xs)):ObjOk P w H' h' a o:=by
 induction o with
 | lst xs=>obtain⟨z,i,n,r,e⟩:=x;show⟨z,i,n,r,k _ _ (.inl rfl) e⟩
 | tup xs=>obtain⟨z,i,r,g,e,c⟩:=x;show⟨z,i,r,g,k _ _ (.inl rfl) e,c⟩
 | dK kvs=>obtain⟨z,y,vs,r,g,es,ep,e,c⟩:=x;show⟨z,y,vs,r,g,es,ep,k _ _ (.inl rfl) e,c⟩
 | dT kvs =>
  obtain⟨z,y,xs,r,g,es,ep,e,c⟩:=x;show⟨z,y,xs,Paired.mapP r fun p q z=>⟨z.1,m _ _ z.2.1,z.2.2⟩,g,es,ep,k _ _ (.inl rfl) e,c⟩
 | set S n=>obtain⟨g,es,ep,t,e,c⟩:=x;show⟨g,es,ep,t,k _ _ (.inl rfl) e,c⟩
 | ins C dx fs =>
  obtain⟨d,z,ne,e,mA,⟨od,es,ep,j,c⟩,r⟩:=x;show⟨l _ d,z,ne,k _ _ (.inl rfl) e,mA,⟨od,es,ep,k _ _ (.inr d) j,c⟩,r⟩
 | own y=>obtain⟨g,e⟩:=x;show⟨g,k _ _ (.inl rfl) e⟩
 | xd fs=>obtain⟨mA,⟨od,es,ep,e,c⟩,r⟩:=x;show⟨mA,⟨od,es,ep,k _ _ (.inl rfl) e,c⟩,r⟩
 | rng lo hi=>obtain⟨t,u,v,e⟩:=x;show⟨t,u,v,k _ _ (.inl rfl) e⟩
 | frz g u ih=>obtain⟨e,q⟩:=x;show⟨k _ _ (.inl rfl) e,ih q⟩
 | tbl ps =>
  have e:h.get? a=some { cls:=.none,data:=.fields ps }:=x;show h'.get? a=some { cls:=.none,data:=.fields ps };show k a _ (.inl rfl) e
 | met f y =>
  have e:h.get? a=some (PySem.W.methodObj (.ref f) (.ref y)):=x;show h'.get? a=some (PySem.W.methodObj (.ref f) (.ref y));show k a _ (.inl rfl) e
 | ext φ=>obtain⟨p,⟨o,e⟩,st⟩:=x;show⟨st _ _ p fun o q=>k _ _ (.inl rfl) q,⟨o,k _ _ (.inl rfl) e⟩,st⟩
theorem HOk.lt(x:HOk P w H h)(e:H a=some o):a<h.objs.size:=(x a o e).lt
theorem HOk.fresh(x:HOk P w H h)(e:h.objs.size<=a):H a=none:=by
 cases q:H a with
 | none=>rfl
 | some u=>show absurd (yj (x.lt q) e) (YC _)
theorem HOk.kept(x:HOk P w H h)(k:∀ b u,h.get? b=some u->h'.get? b=some u):HOk P w H h':=fun a o e =>
 (x a o e).stay (fun b u _ q=>k b u q) (fun _ q=>q) fun _ _ q=>q
theorem HOk.laid(x:HOk P w H h)(k:∀ b u,h.get? b=some u->h'.get? b=some u)(g:h.objs.size<=a)(new:ObjOk P w (upd H a o) h' a o):HOk P w (upd H a o) h':=fun b u e=>by
 have f:=x.fresh g;by_cases d:b=a
 .subst d;rw[qb] at e;cases e;show new
 .rw [qf d] at e;show(x b u e).stay (fun c v _ q=>k c v q) (fun c q=>by rw[qf (qJ q f)];show q) fun c xs q=>by rw[qf (qJ q f)];show q
end
def Rd(H:Hp)(a:Addr)(u:HO):Prop:=H a=some u\/∃ o,H a=some (.frz o u)
theorem Rd.ok{u:HO}(r:Rd H a u)(x:HOk P w H h):ObjOk P w H h a u:=by
 rcases r with r | ⟨o,r⟩
 .show x a u r
 .obtain⟨_,q⟩:=x a _ r;show q
def Mut:Option HO->Prop
 | some (.lst _)=>True
 | some (.dK _)=>True
 | some (.dT _)=>True
 | some (.set _ _)=>True
 | some (.ins _ _ _)=>True
 | some (.ext _)=>True
 | _=>False
section
variable{P:Program}{w:World}{H:Hp}{h h':Heap}{x e:Addr}{o':HO}
theorem HOk.write(ok:HOk P w H h)(i:Mut (H x))(l:e=x\/H e=some (.own x))(k:∀ b u,b≠e->h.get? b=some u->h'.get? b=some u)(j:∃ u,h'.get? e=some u)
  (new:ObjOk P w (upd H x o') h' x o'):HOk P w (upd H x o') h':=fun b u q=>by
 have d:∀ c y,H c=some (.own y)->c≠x:=fun c y r z=>by subst z;rw[r] at i;show i
 have f:∀ c xs,H c=some (.tup xs)->c≠x:=fun c xs r z=>by subst z;rw[r] at i;show i
 by_cases g:b=x
 .subst g;rw[qb] at q;cases q;show new
 .rw [qf g] at q;by_cases a:b=e
  .have m:H b=some (.own x):=by
    rcases l with z | z
    .show absurd (a.trans z) g
    .rw [a];show z
   rw[q] at m;cases m;obtain⟨v,hv⟩:=j;show⟨v,by rw[a];show hv⟩
  .show(ok b u q).stay (fun c v hc r=>k c v ?_ r) (fun c r=>by rw[qf (d c b r)];show r) fun c xs r=>by rw[qf (f c xs r)];show r
   rcases hc with rfl | hc
   .show a
   .rintro rfl;rcases l with z | z
    .show d c b hc z
    .rw [hc] at z;cases z;show g rfl
end
structure Un(fs ex:LX)(H H':Hp)(h h':Heap):Prop where
 keep:∀ b o,h.get? b=some o->H b=none->b∉fs->b∉ex->h'.get? b=some o
 slot:∀ b o,h.get? b=some o->H b=none->b∈fs->b∉ex->∃ sl,h'.get? b=some { o with slots:=sl }
 free:∀ b o,h.get? b=some o->H b=none->b∉ex->H' b=none
 there:∀ b o,h.get? b=some o->b∉ex->∃ o',h'.get? b=some o'
 tups:∀ b xs,H b=some (.tup xs)->H' b=some (.tup xs)
 frzs:∀ b o u,H b=some (.frz o u)->H' b=some (.frz o u)
 tbls:∀ b ps,H b=some (.tbl ps)->∃ more,H' b=some (.tbl (ps++more))
section
variable{fs fs' ex ex':LX}{H H1 H2:Hp}{h h1 h2 h':Heap}{a x e:Addr}{o:HO}
theorem Un.any(u:Un fs ex H H1 h h1){a:Obj}(q:h.get? b=some a)(n:H b=none)(d:b∉ex):∃ e,h1.get? b=some { a with slots:=e }:=by
 by_cases c:b∈fs
 .show u.slot b a q n c d
 .show⟨a.slots,u.keep b a q n c d⟩
theorem Un.kept(k:∀ b u,h.get? b=some u->h'.get? b=some u):Un fs ex H H h h':=
 ⟨fun b a q _ _ _=>k b a q,fun b a q _ _ _=>⟨a.slots,k b a q⟩,fun _ _ _ n _=>n,fun b a q _=>⟨a,k b a q⟩,fun _ _ q=>q,fun _ _ _ q=>q,fun _ ps q=>⟨#[],by rw[q];simp⟩⟩
theorem Un.refl:Un fs ex H H h h:=Un.kept fun _ _ q=>q
theorem Un.laid(k:∀ b u,h.get? b=some u->h'.get? b=some u)(d:h.objs.size<=a)(c:H a=none):Un fs ex H (upd H a o) h h' where
 keep:=fun b u q _ _ _=>k b u q
 slot:=fun b u q _ _ _=>⟨u.slots,k b u q⟩
 free:=fun b u q n _=>by rw[qf (yL (yj (yQ q) d))];show n
 there:=fun b u q _=>⟨u,k b u q⟩
 tups:=fun b xs q=>by rw[qf (qJ q c)];show q
 frzs:=fun b u xs q=>by rw[qf (qJ q c)];show q
 tbls:=fun b ps q=>⟨#[],by rw[qf (qJ q c),q];simp⟩
theorem Un.write(c:Mut (H x))(j:e=x\/H e=some (.own x))(k:∀ b u,b≠e->h.get? b=some u->h'.get? b=some u)(d:∃ u,h'.get? e=some u):Un fs ex H (upd H x o) h h':=by
 have i:∀ b,H b=none->b≠x:=fun b n z=>by subst z;rw[n] at c;show c
 have g:∀ b,H b=none->b≠e:=fun b n z=>by
  subst z;rcases j with r | r
  .show i b n r
  .rw [n] at r;cases r
 have f:∀ b u,H b=some u->¬ Mut (some u)->b≠x:=fun b u q l z=>by subst z;rw[q] at c;show l c
 show⟨fun b u q n _ _=>k b u (g b n) q,fun b u q n _ _=>⟨u.slots,k b u (g b n) q⟩,fun b u q n _=>by rw[qf (i b n)];show n,fun b u q _=>?_,
  fun b xs q=>by rw[qf (f b _ q fun z=>z)];show q,fun b u xs q=>by rw[qf (f b _ q fun z=>z)];show q,fun b ps q=>⟨#[],by rw[qf (f b _ q fun z=>z),q];simp⟩⟩
 by_cases a:b=e
 .subst a;show d
 .show⟨u,k b u a q⟩
end
noncomputable def trk(h:Heap)(H:Hp):LX:=(List.range h.objs.size).filter fun a=>(H a).isSome
noncomputable def qfg(h:Heap)(H:Hp):Heap:=PySem.W.hideAll h (trk h H)
theorem hidT_size(h:Heap)(H:Hp):(qfg h H).objs.size=h.objs.size:=PySem.W.hideAll_size _ _
theorem hidT_get{o:Obj}(e:h.get? b=some o)(n:H b=none):(qfg h H).get? b=some o:=
 PySem.W.hideAll_get _ e fun a=>by
  have q:(H b).isSome=true:=(yp.mp a).2;rw[n] at q;simp at q
theorem of_hidT{o:Obj}(e:(qfg h H).get? b=some o):h.get? b=some o/\H b=none:=by
 have a:h.get? b=some o:=PySem.W.of_hideAll (trk h H) e;show⟨a,?_⟩
 cases q:H b with
 | none=>rfl
 | some x =>
  have c:b∈trk h H:=yp.mpr ⟨Ym.mpr (yQ a),by simp[q]⟩;have z:(qfg h H).get? b=none:=PySem.W.hideAll_none (trk h H) c;rw[z] at e;cases e
noncomputable def allNews(g h:Heap)(L:Addr):List (Addr×Obj):=(List.range h.objs.size).filterMap fun a=>if a=L\/(g.get? a).isSome=true then none else(h.get? a).map fun o=>(a,o)
noncomputable def qen(g h:Heap)(L d:Addr):List (Addr×Obj):=(allNews g h L).filter fun p=>decide (p.1≠d)
structure Mod(K:yg)(mg:Str->Option Value)(base:Heap):Prop where
 kin:K.In base
 glob:base.Ns mainGlobals mg
 blt:∃ mb,base.Ns builtinsNs mb/\∀ x:Str,x≠"__name__"->mb x=bootBuiltins x
 nolimit:base.NoLimit
structure Cx where
 prog:Program
 w:World
 K:yg
 mg:Str->Option Value
 base:Heap
 A:Around
 N:LS
 s₀:Shared
 H₀:Hp
 env:Env
 outer:List Env
 stack:List Env
 ex:LX
 fn:Str->Bool
 calm:Bool
 pn:List (Addr×Obj)
 xe:Value->Shared->Prop
noncomputable def frs(l:List Env):LX:=l.filterMap (·.frame)
noncomputable abbrev Cx.fs(X:Cx):LX:=frs X.outer
def Vis(sc:Scope)(x:Str):Prop:=sc.names.lookup x=some .local\/sc.names.lookup x=some .cell\/sc.names.lookup x=some .free
def Loc(sc:Scope)(x:Str):Prop:=sc.names.lookup x=some .local\/sc.names.lookup x=some .cell
def Look(env:Env)(h:Heap)(m:Str->Option Value)(x:Str)(u:Value):Prop:=
 (env.kindOf x=some .local/\m x=some u)\/((env.kindOf x=some .cell\/env.kindOf x=some .free)/\∃ c,env.cells.lookup x=some c/\h.IsCell c (some u))
structure Cx.Ok(X:Cx):Prop where
 mod:Mod X.K X.mg X.base
 kind:X.env.scope.kind=.function
 glob:X.env.globals=mainGlobals
 blt:X.env.builtins=builtinsNs
 above:X.s₀.heap.objs.size<=X.env.locals
 inj:∀ x y c,X.env.cells.lookup x=some c->X.env.cells.lookup y=some c->x=y
 has:∀ x,(X.env.kindOf x=some .cell\/X.env.kindOf x=some .free)->∃ c,X.env.cells.lookup x=some c
 cab:∀ x c,X.fn x=true->X.env.cells.lookup x=some c->X.s₀.heap.objs.size<=c
 hd:X.calm=true->X.A.handled=none
 frames:X.A.frames=some X.stack
 stk:X.stack=X.outer\/(X.stack=X.env::X.outer/\X.env.frame=some X.env.locals)
 exf:∀ b∈X.ex,b≠X.env.locals/\∀ x c,X.env.cells.lookup x=some c->c≠b
 bs:∀ b o,X.base.get? b=some o->X.s₀.heap.get? b=some o/\X.H₀ b=none
 bsz:X.base.objs.size<=X.s₀.heap.objs.size
 noex:∀ b o,X.base.get? b=some o->b∉X.ex
 exfs:∀ b∈X.ex,b∉X.fs
 funs:X.s₀.heap.FunFrames X.base X.outer
 frf:∀ b∈X.fs,X.H₀ b=none
structure Inv(X:Cx)(pins:List (Addr×Obj))(σ:List (Option V))(H:Hp)(s:Shared):Prop where
 ok:X.Ok
 os:s.os=X.s₀.os
 bare:AllBare s.gens
 base:Un X.fs X.ex X.H₀ H X.s₀.heap s.heap
 loc:∃ m,s.heap.Ns X.env.locals m/\∀(i:Nat) (x:Str) (v:V),X.N[i]?=some x->σ[i]?=some (some v)->Vis X.env.scope x->∃ u,RelV v u/\Look X.env s.heap m x u
 cell:∀ x c,X.env.cells.lookup x=some c->∃ v,s.heap.IsCell c v
 free:H X.env.locals=none
 freeC:∀ x c,X.env.cells.lookup x=some c->H c=none
 pin:∀ p∈X.pn++pins,s.heap.get? p.1=some p.2/\H p.1=none/\p.1≠X.env.locals/\p.1∉X.fs/\∀ v,p.2.data≠.cell v
 hok:HOk X.prog X.w H s.heap
 len:σ.length=X.N.length
section
variable{X:Cx}{pins:List (Addr×Obj)}{σ:List (Option V)}{H H':Hp}{s:Shared}{h':Heap}
theorem Cx.Ok.nofr(ok:X.Ok){o:Obj}(e:X.base.get? b=some o):b∉X.fs:=fun a=>by
 have:=(ok.funs.mem a).1;rw[e] at this;cases this
theorem Inv.bs(I:Inv X pins σ H s):∀ b o,X.base.get? b=some o->s.heap.get? b=some o/\H b=none:=fun b o e =>
 ⟨I.base.keep b o (I.ok.bs b o e).1 (I.ok.bs b o e).2 (I.ok.nofr e) (I.ok.noex b o e),I.base.free b o (I.ok.bs b o e).1 (I.ok.bs b o e).2 (I.ok.noex b o e)⟩
theorem Inv.bk(I:Inv X pins σ H s):∀ b o,X.base.get? b=some o->s.heap.get? b=some o:=fun b o e=>(I.bs b o e).1
theorem Inv.mod(I:Inv X pins σ H s):Mod X.K X.mg X.base:=I.ok.mod
theorem Inv.kIn(I:Inv X pins σ H s):X.K.In s.heap:=I.ok.mod.kin.keeps I.bk
theorem Inv.lt(I:Inv X pins σ H s):X.env.locals<s.heap.objs.size:=let ⟨_,hn,_⟩:=I.loc;hn.lt
theorem Inv.sz(I:Inv X pins σ H s):X.s₀.heap.objs.size<=s.heap.objs.size:=yi I.ok.above (yW I.lt)
theorem Inv.nofs(I:Inv X pins σ H s)(h:s.heap.objs.size<=a):a∉X.fs:=fun b=>by
 obtain⟨_,o,c,_⟩:=I.ok.funs.mem b;show absurd (yj (yQ c) (yi I.sz h)) (YC _)
theorem Inv.cne(I:Inv X pins σ H s):∀ x c,X.env.cells.lookup x=some c->c≠X.env.locals:=fun x c e z=>by
 obtain⟨v,o,f,d⟩:=I.cell x c e;obtain⟨m,⟨g,es,ep,b,a,_⟩,_⟩:=I.loc;rw[z,b] at f;cases f;rw[a] at d;cases d
theorem Inv.funs(I:Inv X pins σ H s):s.heap.FunFrames X.base X.outer:=by
 have all:∀(l:List Env),(∀ b∈frs l,b∈X.fs)->X.s₀.heap.FunFrames X.base l->s.heap.FunFrames X.base l:=by
  intro l
  induction l with
  | nil=>intro _ _;trivial
  | cons env r ih =>
   intro f hl;obtain⟨h,⟨L,o,d,i,j,g⟩,m⟩:=hl;have a:L∈X.fs:=f L (by unfold frs;rw[Xx,d];show yO);obtain⟨n,e⟩:=I.base.slot L o j (I.ok.frf L a) a fun z=>I.ok.exfs L z a;show⟨h,⟨L,_,d,i,e,g⟩,ih (fun b c=>f b (by unfold frs;rw[Xx,d];show yz _ c)) m⟩
 show all X.outer (fun _ c=>c) I.ok.funs
theorem Inv.stack(I:Inv X pins σ H s):s.heap.FunFrames X.base X.stack:=by
 rcases I.ok.stk with e | ⟨e,hf⟩
 .rw [e];show I.funs
 .rw [e];obtain⟨m,a,_⟩:=I.loc;show .cons (by rw[I.ok.kind];decide) hf a ?_ I.funs;show Heap.get?_none_of_le (yi I.ok.bsz I.ok.above)
theorem Inv.stkSub(I:Inv X pins σ H s):∀ b∈frs X.stack,b∈X.env.locals::X.fs:=fun b a=>by
 rcases I.ok.stk with e | ⟨e,hf⟩
 .rw [e] at a;show yz _ a
 .rw [e] at a;unfold frs at a;rw[Xx,hf] at a;show a
theorem Inv.stkFree(I:Inv X pins σ H s):∀ b∈frs X.stack,H b=none:=fun b hb=>by
 rcases yy.mp (I.stkSub b hb) with e | hb
 .rw [e];show I.free
 .obtain⟨_,o,a,_⟩:=I.ok.funs.mem hb;show I.base.free b o a (I.ok.frf b hb) fun z=>I.ok.exfs b z hb
theorem Inv.step(I:Inv X pins σ H s)
  (f:∀ b∈ch,(b∈X.ex\/X.s₀.heap.objs.size<=b)/\b≠X.env.locals/\(∀ x c,X.env.cells.lookup x=some c->c≠b)/\∀ p∈X.pn++pins,p.1≠b)
  (keep:∀ b o,b≠X.env.locals->b∉X.fs->b∉ch->s.heap.get? b=some o->H b=none->h'.get? b=some o)
  (t:∀ b o,b≠X.env.locals->b∈X.fs->b∉ch->s.heap.get? b=some o->H b=none->∃ N,h'.get? b=some { o with slots:=N }) (free:∀ b o,b∉ch->s.heap.get? b=some o->H b=none->H' b=none)
  (A:∀ b o,b∉ch->s.heap.get? b=some o->∃ G,h'.get? b=some G)
  (K:∀ b xs,H b=some (.tup xs)->H' b=some (.tup xs)) (D:∀ b o u,H b=some (.frz o u)->H' b=some (.frz o u)) (J:∀ b ps,H b=some (.tbl ps)->∃ E,H' b=some (.tbl (ps++E)))
  (ns:∀ m,s.heap.Ns X.env.locals m->h'.Ns X.env.locals m) (M:HOk X.prog X.w H' h') (T:AllBare g') :
  Inv X pins σ H' { s with heap:=h',gens:=g',drawn:=d',toks:=t' }:=by
 have F:∀ b o,X.s₀.heap.get? b=some o->b≠X.env.locals:=fun b o e=>yL (yj (yQ e) I.ok.above)
 have j:∀ b o,X.s₀.heap.get? b=some o->b∉X.ex->b∉ch:=fun b o e a y=>by
  rcases(f b y).1 with z | z
  .show a z
  .show absurd (yj (yQ e) z) (YC _)
 have cellK:∀ x c,X.env.cells.lookup x=some c->∀ v,s.heap.IsCell c v->h'.IsCell c v:=fun x c e v ⟨o,B,L⟩=>by
  have g:c∉ch:=fun z=>(f c z).2.2.1 x c e rfl;by_cases hc:c∈X.fs
  .obtain⟨N,q⟩:=t c o (I.cne x c e) hc g B (I.freeC x c e);show⟨_,q,L⟩
  .show⟨o,keep c o (I.cne x c e) hc g B (I.freeC x c e),L⟩
 show⟨I.ok,I.os,T,⟨fun b o e n y a=>?_,fun b o e n y a=>?_,fun b o e n a=>?_,fun b o e a=>?_,fun b xs e=>K b xs (I.base.tups b xs e),fun b o xs e=>D b o xs (I.base.frzs b o xs e),fun b ps e=>?_⟩,?_,fun x c e=>?_,?_,fun x c e=>?_,fun p P=>?_,M,I.len⟩
 .show keep b o (F b o e) y (j b o e a) (I.base.keep b o e n y a) (I.base.free b o e n a)
 .obtain⟨N,h⟩:=I.base.slot b o e n y a;obtain⟨O,C⟩:=t b _ (F b o e) y (j b o e a) h (I.base.free b o e n a);show⟨O,C⟩
 .obtain⟨G,h⟩:=I.base.there b o e a;show free b G (j b o e a) h (I.base.free b o e n a)
 .obtain⟨G,h⟩:=I.base.there b o e a;show A b G (j b o e a) h
 .obtain⟨W,h⟩:=I.base.tbls b ps e;obtain⟨Y,C⟩:=J b _ h;show⟨W++Y,by rw[C,Array.append_assoc]⟩
 .obtain⟨m,U,hl⟩:=I.loc;show⟨m,ns m U,fun i x v h C S=>?_⟩;obtain⟨u,r,l⟩:=hl i x v h C S;show⟨u,r,?_⟩;rcases l with l | ⟨k,c,e,z⟩
  .show .inl l
  .show .inr ⟨k,c,e,cellK x c e _ z⟩
 .obtain⟨v,z⟩:=I.cell x c e;show⟨v,cellK x c e v z⟩
 .obtain⟨m,⟨o,_,_,B,_⟩,_⟩:=I.loc;show free _ o (fun z=>(f _ z).2.1 rfl) B I.free
 .obtain⟨v,o,B,L⟩:=I.cell x c e;show free c o (fun z=>(f c z).2.2.1 x c e rfl) B (I.freeC x c e)
 .obtain⟨e,n,ne,R,d⟩:=I.pin p P;have g:p.1∉ch:=fun z=>(f p.1 z).2.2.2 p P rfl;show⟨keep p.1 p.2 ne R g e n,free p.1 p.2 g e n,ne,R,d⟩
theorem Inv.un(I:Inv X pins σ H s)(u:Un X.fs [] H H' s.heap h')(g:HOk X.prog X.w H' h'):Inv X pins σ H' { s with heap:=h',toks:=t' }:=by
 obtain⟨m,⟨o,es,ep,h,r⟩,_⟩:=id I.loc;obtain⟨q,i⟩:=u.any h I.free (by simp)
 show I.step (g':=s.gens) (d':=s.drawn) (ch:=[]) (fun _ z=>nomatch z) (fun b o _ f _ e n=>u.keep b o e n f (by simp)) (fun b o _ f _ e n=>u.slot b o e n f (by simp)) (fun b o _ e n=>u.free b o e n (by simp)) (fun b o _ e=>u.there b o e (by simp)) u.tups u.frzs u.tbls (fun l j=>by
  obtain⟨p,d,c,a,r'⟩:=j;rw[h] at a;cases a;show⟨_,d,c,i,r'⟩) g I.bare
theorem Inv.call(I:Inv X pins σ H s)(u:Un (frs X.stack) ch H H' s.heap h')(i:HOk X.prog X.w H' h')(q:AllBare g')
  (a:∀ b∈ch,(b∈X.ex\/X.s₀.heap.objs.size<=b)/\b≠X.env.locals/\(∀ x c,X.env.cells.lookup x=some c->c≠b)/\∀ p∈X.pn++pins,p.1≠b) :
  Inv X pins σ H' { s with heap:=h',gens:=g',drawn:=d',toks:=t' }:=by
 obtain⟨m,⟨o,es,ep,j,r⟩,_⟩:=id I.loc;obtain⟨A,h⟩:=u.any j I.free fun z=>(a _ z).2.1 rfl
 show I.step (ch:=ch) a (fun b o h l hc e n=>u.keep b o e n (fun z=>(yy.mp (I.stkSub b z)).elim h l) hc) (fun b o _ _ hc e n=>u.any e n hc) (fun b o hc e n=>u.free b o e n hc) (fun b o hc e=>u.there b o e hc) u.tups u.frzs u.tbls (fun v t=>by
  obtain⟨y,g,f,d,r'⟩:=t;rw[j] at d;cases d;show⟨_,g,f,h,r'⟩) i q
theorem Inv.turned(I:Inv X pins σ H s)(k:∀ b o,b≠it->s.heap.get? b=some o->h'.get? b=some o)(j:H it=none)(d:it≠X.env.locals)
  (h1:it∈X.ex\/X.s₀.heap.objs.size<=it) (f:∀ x c,X.env.cells.lookup x=some c->c≠it) (g:∀ p∈X.pn++pins,p.1≠it):Inv X pins σ H { s with heap:=h',toks:=t' }:=by
 have a:∀ b u,H b=some u->b≠it:=fun b u e z=>by rw[z,j] at e;cases e
 show I.step (g':=s.gens) (d':=s.drawn) (ch:=[it]) (fun b h=>?_) (fun b o _ _ hc e _=>k b o (fun z=>hc (by simp[z])) e) (fun b o _ _ hc e _=>⟨o.slots,k b o (fun z=>hc (by simp[z])) e⟩) (fun _ _ _ _ n=>n)
  (fun b o hc e=>⟨o,k b o (fun z=>hc (by simp[z])) e⟩) (fun _ _ e=>e) (fun _ _ _ e=>e) (fun b ps e=>⟨#[],by rw[e];simp⟩) (fun m i=>?_) (fun b u e=>?_) I.bare
 .have e:b=it:=by simpa using h
  subst e;show⟨h1,d,f,g⟩
 .obtain⟨o,es,ep,l,r⟩:=i;show⟨o,es,ep,k _ o (Yo d) l,r⟩
 .show(I.hok b u e).stay (fun c v hc q=>k c v ?_ q) (fun _ q=>q) fun _ _ q=>q;rcases hc with z | z
  .rw [z];show a b u e
  .show a c _ z
theorem Inv.tok(I:Inv X pins σ H s)(t:Nat):Inv X pins σ H { s with toks:=t }:=I.un (h':=s.heap) (t':=t) Un.refl I.hok
theorem Inv.kept(I:Inv X pins σ H s)(k:∀ b u,s.heap.get? b=some u->h'.get? b=some u):Inv X pins σ H { s with heap:=h',toks:=t' }:=I.un (Un.kept k) (I.hok.kept k)
theorem Inv.laid(I:Inv X pins σ H s)(k:∀ b u,s.heap.get? b=some u->h'.get? b=some u)(c:s.heap.objs.size<=a)(new:ObjOk X.prog X.w (upd H a o) h' a o) :
  Inv X pins σ (upd H a o) { s with heap:=h',toks:=t' }:=I.un (Un.laid k c (I.hok.fresh c)) (I.hok.laid k c new)
theorem Inv.write{x e:Addr}(I:Inv X pins σ H s)(d:Mut (H x))(c:e=x\/H e=some (.own x))(k:∀ b u,b≠e->s.heap.get? b=some u->h'.get? b=some u)(a:∃ u,h'.get? e=some u)
  (new:ObjOk X.prog X.w (upd H x o) h' x o):Inv X pins σ (upd H x o) { s with heap:=h',toks:=t' }:=I.un (Un.write d c k a) (I.hok.write d c k a new)
theorem Inv.weak{a:List (Option V)}(I:Inv X pins σ H s)(hl:a.length=σ.length)(w:∀(i:Nat) v,a[i]?=some (some v)->σ[i]?=some (some v)):Inv X pins a H s:=
 ⟨I.ok,I.os,I.bare,I.base,let ⟨m,hn,hl'⟩:=I.loc;⟨m,hn,fun i x v b c d=>hl' i x v b (w i v c) d⟩,I.cell,I.free,I.freeC,I.pin,I.hok,hl.trans I.len⟩
theorem Inv.pins_of{pins':List (Addr×Obj)}(I:Inv X pins σ H s)(h:∀ p∈pins',s.heap.get? p.1=some p.2/\H p.1=none/\p.1≠X.env.locals/\p.1∉X.fs/\∀ v,p.2.data≠.cell v):Inv X pins' σ H s:=
 ⟨I.ok,I.os,I.bare,I.base,I.loc,I.cell,I.free,I.freeC,fun p a=>(yC.mp a).elim (fun z=>I.pin p (yU _ z)) (h p),I.hok,I.len⟩
theorem qdz(e:N.Nodup)(a:N[i]?=some x)(b:N[j]?=some x):i=j:=by
 obtain⟨h1,c⟩:=yc.mp a;obtain⟨f,d⟩:=yc.mp b;show(List.getElem_inj e).mp (c.trans d.symm)
theorem qcx{Q:Unit->Shared->Prop}(I:Inv X pins σ H s)(hN:X.N.Nodup)(P:X.N[i]?=some x)(t:Loc X.env.scope x)(r:RelV v u)
  (h:∀ s',Inv X pins (σ.set i (some v)) H s'->(∃ a,Heap.SameBut a s.heap s'.heap/\(a=X.env.locals\/X.env.cells.lookup x=some a))->Q () s') (hf:X.fn x=true\/X.env.scope.names.lookup x=some .local:=by first | show .inl rfl | show .inr rfl | assumption):wpAny M A (storeName X.env x u) Q E s:=by
 obtain⟨m,Y,hl⟩:=id I.loc;have O:(X.env.scope.kind==.class||(X.env.scope.kind==.module&&X.env.locals != X.env.globals))=false:=by rw[I.ok.kind];rfl
 have D:i<σ.length:=by rw[I.len];show(yc.mp P).1
 have cne:=I.cne
 have l:∀{a:Addr} {h':Heap},(∃ o,s.heap.get? a=some o/\H a=none)->Heap.SameBut a s.heap h'->HOk X.prog X.w H h':=fun{a h'} ha f b ob e=>by
  obtain⟨_,_,B⟩:=ha;show(I.hok b ob e).stay (fun c U hc q=>(f.2 c ?_).trans q) (fun _ q=>q) fun _ _ q=>q;rintro rfl;rcases hc with rfl | hc
  .rw [B] at e;cases e
  .rw [B] at hc;cases hc
 rcases t with hk | hk
 .show wpAny_storeName_local hk Y (fun h' Z f=>?_) O;obtain⟨oL,_,_,aa,_⟩:=id Y;show h _ ⟨I.ok,I.os,I.bare,⟨fun b o e n F t=>?_,fun b o e n F t=>?_,I.base.free,fun b o e t=>?_,I.base.tups,I.base.frzs,I.base.tbls⟩,⟨_,Z,fun j y v' g C W=>?_⟩,fun y c e=>?_,I.free,I.freeC,fun p hp=>?_,l ⟨oL,aa,I.free⟩ f,by simpa using I.len⟩ ⟨_,f,.inl rfl⟩
  .show(f.2 b (yL (yj (yQ e) I.ok.above))).trans (I.base.keep b o e n F t)
  .obtain⟨sl,g⟩:=I.base.slot b o e n F t;show⟨sl,(f.2 b (yL (yj (yQ e) I.ok.above))).trans g⟩
  .obtain⟨o',g⟩:=I.base.there b o e t;show⟨o',(f.2 b (yL (yj (yQ e) I.ok.above))).trans g⟩
  .by_cases J:j=i
   .subst J;rw[P] at g;cases g;rw[List.getElem?_set_self D] at C;cases C;show⟨u,r,.inl ⟨hk,by simp⟩⟩
   .rw [xJ (Yo J)] at C;obtain⟨u',r',q⟩:=hl j y v' g C W;show⟨u',r',?_⟩;rcases q with⟨k,e⟩ | ⟨k,c,e,z⟩
    .show .inl ⟨k,?_⟩;have:y≠x:=fun e=>J (qdz hN g (e ▸ P));simp[this,e]
    .show .inr ⟨k,c,e,z.sameBut f (cne y c e)⟩
  .obtain⟨U,z⟩:=I.cell y c e;show⟨U,z.sameBut f (cne y c e)⟩
  .obtain⟨e,n,ne,nf,d⟩:=I.pin p hp;show⟨(f.2 p.1 ne).trans e,n,ne,nf,d⟩
 .have G:X.fn x=true:=by
   rcases hf with z | z
   .show z
   .rw [z] at hk;cases hk
  obtain⟨c,hc⟩:=I.ok.has x (.inl hk);obtain⟨U,z⟩:=I.cell x c hc;show wpAny_storeName_cell I.ok.kind hk hc z (fun h' K f=>?_);obtain⟨oc,R,S⟩:=id z;show h { s with heap:=h' } ⟨I.ok,I.os,I.bare,⟨fun b o e n F t=>?_,fun b o e n F t=>?_,I.base.free,fun b o e t=>?_,I.base.tups,I.base.frzs,I.base.tbls⟩,⟨m,Y.sameBut f (Yo (cne x c hc)),fun j y v' g C W=>?_⟩,fun y T e=>?_,I.free,I.freeC,fun p hp=>?_,l ⟨oc,R,I.freeC x c hc⟩ f,by simpa using I.len⟩ ⟨c,f,.inr hc⟩
  .show(f.2 b (yL (yj (yQ e) (I.ok.cab x c G hc)))).trans (I.base.keep b o e n F t)
  .obtain⟨sl,g⟩:=I.base.slot b o e n F t;show⟨sl,(f.2 b (yL (yj (yQ e) (I.ok.cab x c G hc)))).trans g⟩
  .obtain⟨o',g⟩:=I.base.there b o e t;show⟨o',(f.2 b (yL (yj (yQ e) (I.ok.cab x c G hc)))).trans g⟩
  .by_cases J:j=i
   .subst J;rw[P] at g;cases g;rw[List.getElem?_set_self D] at C;cases C;show⟨u,r,.inr ⟨.inl hk,c,hc,K⟩⟩
   .rw [xJ (Yo J)] at C;obtain⟨u',r',q⟩:=hl j y v' g C W;show⟨u',r',?_⟩;rcases q with q | ⟨k,T,e,z'⟩
    .show .inl q
    .show .inr ⟨k,T,e,z'.sameBut f ?_⟩;rintro rfl;show J (qdz hN g (I.ok.inj _ _ _ e hc ▸ P))
  .by_cases L:T=c
   .subst L;show⟨_,K⟩
   .obtain⟨w2,z2⟩:=I.cell y T e;show⟨w2,z2.sameBut f L⟩
  .obtain⟨e,n,ne,nf,d⟩:=I.pin p hp;show⟨(f.2 p.1 ?_).trans e,n,ne,nf,d⟩;intro q;rw[q,R] at e;have q':oc=p.2:=ym e;show d U (by rw[<- q'];show S)
theorem qdA{Q:Unit->Shared->Prop}(I:Inv X pins σ H s)(b:X.N.Nodup)(d:X.N[i]?=some x)(e:Loc X.env.scope x)(r:RelV v u)
  (h:∀ s',Inv X pins (σ.set i (some v)) H s'->Q () s') (c:X.fn x=true\/X.env.scope.names.lookup x=some .local:=by first | show .inl rfl | show .inr rfl | assumption):wpAny M A (storeName X.env x u) Q E s:=
 qcx I b d e r (fun s' a _=>h s' a) c
theorem Inv.call'(I:Inv X pins σ H s)(g:s'.os=s.os)(u:Un (frs X.stack) ch H H' s.heap s'.heap)(d:HOk X.prog X.w H' s'.heap)(f:AllBare s'.gens)
  (a:∀ b∈ch,(b∈X.ex\/X.s₀.heap.objs.size<=b)/\b≠X.env.locals/\(∀ x c,X.env.cells.lookup x=some c->c≠b)/\∀ p∈X.pn++pins,p.1≠b):Inv X pins σ H' s':=by
 obtain⟨h',g',d',t',h⟩:=s';have e:h=s.os:=g;subst e;show I.call (g':=g') (t':=t') (d':=d') u d f a
end
abbrev XK:=Value->Option Addr->Hp->Prop
noncomputable abbrev St:=List (Option V)
abbrev VK:=V->Hp->Prop
abbrev TE:=St->Hp->VK->Prop
abbrev TT:=St->Hp->(Bool->Hp->Prop)->Prop
abbrev TA:=St->Hp->(List V->Hp->Prop)->Prop
structure Ends where
 nx:St->Hp->Prop
 rt:VK
 bk:St->Hp->Prop:=fun _ _=>False
 ct:St->Hp->Prop:=fun _ _=>False
abbrev TS:=Ends->St->Hp->Prop
def EP(X:Cx)(pins:List (Addr×Obj))(σ:St)(Q:VK)(u:Value)(s':Shared):Prop:=∃ v H',Inv X pins σ H' s'/\RelV v u/\Q v H'
def TP(X:Cx)(pins:List (Addr×Obj))(σ:St)(Q:Bool->Hp->Prop)(b:Bool)(s':Shared):Prop:=∃ H',Inv X pins σ H' s'/\Q b H'
def AP(X:Cx)(pins:List (Addr×Obj))(σ:St)(Q:List V->Hp->Prop)(us:List Value)(s':Shared):Prop:=∃ vs H',Inv X pins σ H' s'/\Vals vs us/\Q vs H'
def SP(X:Cx)(pins:List (Addr×Obj))(D:Ends)(f:Flow)(s':Shared):Prop:=
 match f with
 | .next=>∃ a H',Inv X pins a H' s'/\D.nx a H'
 | .brk=>∃ a H',Inv X pins a H' s'/\D.bk a H'
 | .cont=>∃ a H',Inv X pins a H' s'/\D.ct a H'
 | .ret u=>∃ v a H',Inv X pins a H' s'/\RelV v u/\D.rt v H'
def PE(X:Cx)(e:Expr)(t:TE):Prop:=
 ∀(pins:List (Addr×Obj)) (s:Shared) (σ:St) (H:Hp) (Q:VK),Inv X pins σ H s->t σ H Q->wpAny (model X.prog X.w) X.A (eval e X.env) (EP X pins σ Q) X.xe s
def PT(X:Cx)(e:Expr)(t:TT):Prop:=
 ∀(pins:List (Addr×Obj)) (s:Shared) (σ:St) (H:Hp) (Q:Bool->Hp->Prop),Inv X pins σ H s->t σ H Q->wpAny (model X.prog X.w) X.A (isTrue e X.env (eval e X.env)) (TP X pins σ Q) X.xe s
def PW(X:Cx)(e:Expr)(t:TT):Prop:=
 ∀(a:Sem Value) (pins:List (Addr×Obj)) (s:Shared) (σ:St) (H:Hp) (Q:Bool->Hp->Prop),Inv X pins σ H s->t σ H Q->wpAny (model X.prog X.w) X.A (isTrue e X.env a) (TP X pins σ Q) X.xe s
theorem PW.pt{t:TT}(h:PW X e t):PT X e t:=h _
def PA(X:Cx)(es:List Expr)(t:TA):Prop:=
 ∀(pos:Pos) (pins:List (Addr×Obj)) (s:Shared) (σ:St) (H:Hp) (Q:List V->Hp->Prop),Inv X pins σ H s->t σ H Q->wpAny (model X.prog X.w) X.A (spliced (backTo pos (starEach es X.env))) (AP X pins σ Q) X.xe s
def PS(X:Cx)(st:Stmt)(t:TS):Prop:=
 ∀(pins:List (Addr×Obj)) (s:Shared) (σ:St) (H:Hp) (D:Ends),Inv X pins σ H s->t D σ H->wpAny (model X.prog X.w) X.A (exec st X.env) (SP X pins D) X.xe s
def PSs(X:Cx)(st:List Stmt)(t:TS):Prop:=
 ∀(pins:List (Addr×Obj)) (s:Shared) (σ:St) (H:Hp) (D:Ends),Inv X pins σ H s->t D σ H->wpAny (model X.prog X.w) X.A (execs st X.env) (SP X pins D) X.xe s
theorem thn{t:Sem α}{Q b:α->Shared->Prop}(h:wpAny M A t Q E s)(c:∀ a s,Q a s->b a s):wpAny M A t b E s:=Y3 h c fun _ _ x=>x
section
variable{X:Cx}
def qgJ(i:Nat):TE:=fun σ H Q=>∃ v,σ[i]?=some (some v)/\Q v H
def tC(v:V):TE:=fun _ H Q=>Q v H
theorem pe_var(g:X.N[i]?=some x)(hv:Vis X.env.scope x)(f:(x==("__debug__":Str))=false:=by decide)(d:(x==("__classdict__":Str))=false:=by decide):PE X (.Name x pos) (qgJ i):=by
 intro pins s σ H Q I h;obtain⟨v,e,h⟩:=h;obtain⟨m,n,hl⟩:=I.loc;obtain⟨u,r,l⟩:=hl i x v g e hv;have b:EP X pins σ Q u s:=⟨v,H,I,r,h⟩;rcases l with⟨hk,j⟩ | ⟨hk,c,hc,a⟩
 .show wpAny_Name (wpAny_loadName_local I.ok.kind hk n j b) f
 .rcases hk with hk | hk
  .show wpAny_Name (wpAny_loadName_cell I.ok.kind hk hc a b) f
  .show wpAny_Name (wpAny_loadName_free I.ok.kind hk hc a b d) f
theorem qg{i j pos}:PE X (.Constant (.int i) j pos) (tC (.int i)):=fun _ _ _ H _ I h=>wpAny_Constant_int ⟨.int i,H,I.tok _,⟨_,rfl⟩,h⟩
theorem js{b j pos}:PE X (.Constant (.bool b) j pos) (tC (.bl b)):=fun _ _ _ H _ I h=>Constant_bool ⟨.bl b,H,I,rfl,h⟩
theorem qaF{j pos}:PE X (.Constant .none j pos) (tC .non):=fun _ _ _ H _ I h=>Constant_none ⟨.non,H,I,rfl,h⟩
theorem qaM{x j pos}:PE X (.Constant (.str x) j pos) (tC (.str x)):=fun _ _ _ H _ I h=>Calls.Constant_str ⟨.str x,H,I.tok _,⟨_,rfl⟩,h⟩
def Gl(X:Cx)(x:Str):Prop:=X.env.kindOf x=some .globalImplicit
theorem qdb{Q:Value->Shared->Prop}(I:Inv X pins σ H s)(b:Gl X x)(c:X.mg x=some u)(h:Q u s)
  (a:(x==("__debug__":Str))=false:=by decide):wpAny (model X.prog X.w) X.A (eval (.Name x pos) X.env) Q E s:=
 Calls.Name_function_global I.ok.kind b (Calls.loadGlobal_global (by rw[I.ok.glob];show I.mod.glob.keeps I.bk) c h) a
theorem qaN{Q:Value->Shared->Prop}(I:Inv X pins σ H s)(c:Gl X x)(d:X.mg x=none)(hv:bootBuiltins x=some u)(h:Q u s)
  (e:x≠"__name__":=by decide) (b:(x==("__debug__":Str))=false:=by decide):wpAny (model X.prog X.w) X.A (eval (.Name x pos) X.env) Q E s:=by
 obtain⟨f,h1,a⟩:=I.mod.blt;show Calls.Name_function_global I.ok.kind c (Calls.loadGlobal_builtin (by rw[I.ok.glob];show I.mod.glob.keeps I.bk) d (by rw[I.ok.blt];show h1.keeps I.bk) ((a x e).trans hv) h) b
theorem pe_glob(b:Gl X x)(c:X.mg x=some u)(r:RelV v u)(a:(x==("__debug__":Str))=false:=by decide):PE X (.Name x pos) (tC v):=
 fun _ _ _ H _ I h=>qdb I b c ⟨v,H,I,r,h⟩ a
theorem jz(b:Gl X x)(c:X.mg x=none)(hv:bootBuiltins x=some u)(r:RelV v u)(d:x≠"__name__":=by decide)(a:(x==("__debug__":Str))=false:=by decide):PE X (.Name x pos) (tC v):=
 fun _ _ _ H _ I h=>qaN I b c hv ⟨v,H,I,r,h⟩ d a
variable{a b:Expr}{ta tb:TE}{pos:Pos}
def tB(t:TE):TT:=fun σ H Q=>t σ H fun x a=>∃ c,x=.bl c/\Q c a
theorem qU(h:PE X e t)(f:∀ a,isTrue e X.env a=(do let v <- a;standAt e.pos;holding [v] (truthy v)):=by intro _;rfl):PT X e (tB t):=by
 intro pins s σ H Q I hw;show isTrue_plain (thn (h pins s σ H _ I hw) fun v j ⟨x,b,c,i,g⟩=>?_) (f _);obtain⟨d,rfl,q⟩:=g;cases i;show xK ⟨b,c,q⟩
variable{tA tB':TT}{qen:List Expr}
def qgT(t u:TT):TT:=fun σ H Q=>t σ H fun c a=>if c=true then u σ a Q else Q false a
def tOr(t u:TT):TT:=fun σ H Q=>t σ H fun c a=>if c=true then Q true a else u σ a Q
def qgU(t:TT):TT:=fun σ H Q=>t σ H fun c a=>Q (!c) a
theorem qbC(b:PT X a tA):PW X (.BoolOp .And [a] pos) tA:=by
 intro f pins s σ H Q I h;show isTrue_and (thn (b pins s σ H Q I h) fun c d e=>?_)
 cases c with
 | true=>show isTrue_and_nil e
 | false=>show e
theorem zE(b:PT X a tA):PW X (.BoolOp .Or [a] pos) tA:=by
 intro f pins s σ H Q I h;show isTrue_or (thn (b pins s σ H Q I h) fun c d e=>?_)
 cases c with
 | false=>show isTrue_or_nil e
 | true=>show e
theorem qbD(g:PT X a tA)(i:PW X (.BoolOp .And (b::qen) pos) tB'):PW X (.BoolOp .And (a::b::qen) pos) (qgT tA tB'):=by
 intro l pins s σ H Q I h;show isTrue_and (thn (g pins s σ H _ I h) fun c j ⟨d,e,f⟩=>?_)
 cases c with
 | true=>show i l pins j σ d Q e f
 | false=>show⟨d,e,f⟩
theorem zK(g:PT X a tA)(i:PW X (.BoolOp .Or (b::qen) pos) tB'):PW X (.BoolOp .Or (a::b::qen) pos) (tOr tA tB'):=by
 intro l pins s σ H Q I h;show isTrue_or (thn (g pins s σ H _ I h) fun c j ⟨d,e,f⟩=>?_)
 cases c with
 | true=>show⟨d,e,f⟩
 | false=>show i l pins j σ d Q e f
theorem qZ(d:PT X a tA):PT X (.UnaryOp .Not a pos) (qgU tA):=by
 intro pins s σ H Q I h;show isTrue_not (d pins s σ H (fun c b=>Q (!c) b) I h)
def qf9(ta tb:TE):TE:=fun σ H Q=>ta σ H fun x a=>∃ c,x=.bl c/\if c=true then tb σ a Q else Q (.bl false) a
def tOrV(ta tb:TE):TE:=fun σ H Q=>ta σ H fun x a=>∃ c,x=.bl c/\if c=true then Q (.bl true) a else tb σ a Q
def tNotV(ta:TE):TE:=fun σ H Q=>ta σ H fun x a=>∃ c,x=.bl c/\Q (.bl (!c)) a
theorem qb0{op}(h:PE X a t):PE X (.BoolOp op [a] pos) t:=fun pins s σ H Q I hw=>BoolOp_one (h pins s σ H Q I hw)
theorem qb1(g:PE X a ta)(i:PE X (.BoolOp .And (b::qen) pos) tb):PE X (.BoolOp .And (a::b::qen) pos) (qf9 ta tb):=by
 intro pins s σ H Q I h;show BoolOp_and (thn (g pins s σ H _ I h) fun v l ⟨x,e,f,j,d⟩=>?_);obtain⟨c,rfl,d⟩:=d;cases j;show xK ?_
 cases c with
 | true=>show i pins l σ e Q f d
 | false=>show⟨.bl false,e,f,rfl,d⟩
def tIf(t:TT)(ta tb:TE):TE:=fun σ H Q=>t σ H fun c a=>if c=true then ta σ a Q else tb σ a Q
theorem qdB(hc:PT X c tA)(j:PE X a ta)(l:PE X b tb):PE X (.IfExp c a b pos) (tIf tA ta tb):=by
 intro pins s σ H Q I h;show wpAny_IfExp (thn (hc pins s σ H _ I h) fun d i ⟨e,f,g⟩=>?_)
 cases d with
 | true=>show j pins i σ e Q f g
 | false=>show l pins i σ e Q f g
end
def SqL(K:yg)(H:Hp)(a:Addr)(xs:List V):Prop:=
 Rd H a (.lst xs) \/
  ∃(o:Obj) (b:Array Value) (n:Nat),K.lookup a=some o/\o.cls=.type "list"/\o.dict=none/\o.data=.seq b n/\b.size<=sizeLine/\Vals xs b.toList
def SqT(K:yg)(H:Hp)(a:Addr)(xs:List V):Prop:=
 Rd H a (.tup xs) \/
  ∃(o:Obj) (b:Array Value) (n:Nat),K.lookup a=some o/\o.cls=.type "tuple"/\o.data=.seq b n/\b.size<=sizeLine/\Vals xs b.toList
noncomputable def absV:Value->Option V
 | .none=>some .non
 | .bool b=>some (.bl b)
 | .int i _=>some (.int i)
 | .str x _=>some (.str x)
 | .bytes b _=>some (.byt b)
 | .float b _=>some (.flt b)
 | .ref a=>some (.ref a)
 | .type n=>some (.ty n)
 | _=>none
theorem RelV.abs{x:V}(r:RelV x u):absV u=some x:=by
 cases x with
 | non=>cases r;rfl
 | bl _=>cases r;rfl
 | int _=>obtain⟨t,rfl⟩:=r;rfl
 | str _=>obtain⟨t,rfl⟩:=r;rfl
 | byt _=>obtain⟨t,rfl⟩:=r;rfl
 | flt _=>obtain⟨t,rfl⟩:=r;rfl
 | ref _=>cases r;rfl
 | ty _=>cases r;rfl
theorem RelV.inj{x:V}(r:RelV x u)(q:RelV y u):x=y:=ym (r.abs.symm.trans q.abs)
theorem Vals.inj:∀{xs ys:List V} {us:List Value},Vals xs us->Vals ys us->xs=ys
 | _,_,_,.nil,.nil=>rfl
 | _,_,_,.cons r t,.cons r' t'=>by rw[r.inj r',Vals.inj t t']
section
variable{X:Cx}{pins:List (Addr×Obj)}{σ:St}{H:Hp}{s:Shared}{a:Addr}{xs ys:List V}
theorem SqL.of{K:yg}(h:H a=some (.lst xs)):SqL K H a xs:=.inl (.inl h)
theorem SqT.of{K:yg}(h:H a=some (.tup xs)):SqT K H a xs:=.inl (.inl h)
theorem Inv.list(I:Inv X pins σ H s)(h:SqL X.K H a xs):∃ b:List Value,Vals xs b/\PlainL s.heap a b.toArray/\xs.length<=sizeLine:=by
 rcases h with h | ⟨o,b,n,hk,hc,hd,hs,hz,r⟩
 .obtain⟨z,b,n,r,e⟩:=h.ok I.hok;show⟨b,r,⟨_,n,e,rfl,rfl,rfl⟩,z⟩
 .show⟨b.toList,r,⟨o,n,I.kIn a o hk,hc,hd,by simpa using hs⟩,?_⟩;have e:=r.length;simp only[xU] at e;lk
theorem Inv.tuple(I:Inv X pins σ H s)(h:SqT X.K H a xs):∃ b:List Value,Vals xs b/\IsTup s.heap a b.toArray/\xs.length<=sizeLine:=by
 rcases h with h | ⟨o,b,n,hk,hc,hs,hz,r⟩
 .obtain⟨z,b,r,p⟩:=h.ok I.hok;show⟨b,r,p,z⟩
 .show⟨b.toList,r,⟨o,I.kIn a o hk,hc,n,by simpa using hs⟩,?_⟩;have e:=r.length;simp only[xU] at e;lk
theorem Inv.list_inj(I:Inv X pins σ H s)(h:SqL X.K H a xs)(h':SqL X.K H a ys):xs=ys:=by
 obtain⟨b,r,⟨o,n,e,_,_,d⟩,_⟩:=I.list h;obtain⟨its',r',⟨g,f,c,_,_,d'⟩,_⟩:=I.list h';rw[e] at c;cases c;rw[d] at d'
 injection d' with d1 _
 have:b=its':=by simpa using congrArg Array.toList d1
 subst this;show r.inj r'
theorem Inv.tuple_inj(I:Inv X pins σ H s)(h:SqT X.K H a xs)(h':SqT X.K H a ys):xs=ys:=by
 obtain⟨b,r,⟨o,e,_,n,d⟩,_⟩:=I.tuple h;obtain⟨its',r',⟨g,c,_,f,d'⟩,_⟩:=I.tuple h';rw[e] at c;cases c;rw[d] at d'
 injection d' with d1 _
 have:b=its':=by simpa using congrArg Array.toList d1
 subst this;show r.inj r'
end
noncomputable abbrev Cx.wish(X:Cx)(E:Value->Shared->Prop):Cx:={ X with xe:=E }
noncomputable abbrev Cx.nox(X:Cx):Cx:=X.wish fun _ _=>False
theorem Cx.Ok.wish(ok:X.Ok)(E:Value->Shared->Prop):(X.wish E).Ok:=
 ⟨ok.mod,ok.kind,ok.glob,ok.blt,ok.above,ok.inj,ok.has,ok.cab,ok.hd,ok.frames,ok.stk,ok.exf,ok.bs,ok.bsz,ok.noex,ok.exfs,ok.funs,ok.frf⟩
theorem Cx.Ok.unwish(ok:(X.wish E).Ok):X.Ok:=
 ⟨ok.mod,ok.kind,ok.glob,ok.blt,ok.above,ok.inj,ok.has,ok.cab,ok.hd,ok.frames,ok.stk,ok.exf,ok.bs,ok.bsz,ok.noex,ok.exfs,ok.funs,ok.frf⟩
section
variable{X:Cx}{pins:List (Addr×Obj)}{σ:St}{H:Hp}{s:Shared}{E:Value->Shared->Prop}
theorem Inv.wish(I:Inv X pins σ H s)(E:Value->Shared->Prop):Inv (X.wish E) pins σ H s:=⟨I.ok.wish E,I.os,I.bare,I.base,I.loc,I.cell,I.free,I.freeC,I.pin,I.hok,I.len⟩
theorem Inv.unwish(I:Inv (X.wish E) pins σ H s):Inv X pins σ H s:=⟨I.ok.unwish,I.os,I.bare,I.base,I.loc,I.cell,I.free,I.freeC,I.pin,I.hok,I.len⟩
theorem SP.unwish{f:Flow}(h:SP (X.wish E) pins D f s'):SP X pins D f s':=by
 cases f with
 | next=>obtain⟨a,H',I,q⟩:=h;show⟨a,H',I.unwish,q⟩
 | brk=>obtain⟨a,H',I,q⟩:=h;show⟨a,H',I.unwish,q⟩
 | cont=>obtain⟨a,H',I,q⟩:=h;show⟨a,H',I.unwish,q⟩
 | ret u=>obtain⟨v,a,H',I,r,q⟩:=h;show⟨v,a,H',I.unwish,r,q⟩
theorem PSs.nox{st:List Stmt}{t:TS}(h:PSs X.nox st t):PSs X st t:=fun pins s σ H D I hw =>
 Y3 (h pins s σ H D (I.wish _) hw) (fun _ _ q=>q.unwish) fun _ _ z=>False.elim z
end
section
variable{X:Cx}{st:Stmt}{qen:List Stmt}{t u:TS}{e:Expr}{te:TE}{pos:Pos}
def qga:TS:=fun D σ H=>D.nx σ H
def qgK(t u:TS):TS:=fun D σ H=>t { D with nx:=u D } σ H
theorem qy:PSs X [] qga:=fun _ _ σ H _ I h=>X1 ⟨σ,H,I,h⟩
theorem qc(h1:PS X st t)(c:PSs X qen u):PSs X (st::qen) (qgK t u):=by
 intro pins s σ H D I h;show wpAny_execs_cons (thn (h1 pins s σ H { D with nx:=u D } I h) fun f d q=>?_)
 cases f with
 | next =>
  obtain⟨a,H',b,q⟩:=q;show c pins d a H' D b q
 | ret v=>show q
 | brk=>show q
 | cont=>show q
theorem qe(h1:PS X st t):PSs X [st] t:=by
 intro pins s σ H D I h;show wpAny_execs_cons (thn (h1 pins s σ H D I h) fun f a q=>?_)
 cases f with
 | next=>show X1 q
 | ret v=>show q
 | brk=>show q
 | cont=>show q
theorem Inv.quiet(I:Inv X pins σ H s):interactive X.env=false:=by simp[interactive,I.ok.kind]
def qgb(te:TE):TS:=fun D σ H=>te σ H fun _ a=>D.nx σ a
theorem qN(c:PE X e te)(d:swapsWith e none pos.line X.env=pure false:=by rfl):PS X (.Expr e pos) (qgb te):=by
 intro pins s σ H D I h;show wpAny_Expr_any (thn (c pins s σ H _ I h) fun v i ⟨x,a,b,g,f⟩=>⟨σ,a,b,f⟩) I.quiet d
def qgV(te:TE):TS:=fun D σ H=>te σ H D.rt
theorem qm(c:PE X e te):PS X (.Return (some e) pos) (qgV te):=by
 intro pins s σ H D I h;show wpAny_Return_some (thn (c pins s σ H _ I h) fun v g ⟨x,a,b,f,d⟩=>⟨x,σ,a,b,f,d⟩)
def qgc:TS:=fun D _ H=>D.rt .non H
theorem ps_retN:PS X (.Return none pos) qgc:=fun _ _ σ H _ I h=>wpAny_Return_none ⟨.non,σ,H,I,rfl,h⟩
def qgW(c:TT)(t u:TS):TS:=fun D σ H=>c σ H fun b a=>if b=true then t D σ a else u D σ a
theorem qP{a b:List Stmt}(hc:PT X c tc)(j:PSs X a t)(l:PSs X b u):PS X (.If c a b pos) (qgW tc t u):=by
 intro pins s σ H D I h;show wpAny_If (thn (hc pins s σ H _ I h) fun d i ⟨e,f,g⟩=>?_)
 cases d with
 | true=>show j pins i σ e D f g
 | false=>show l pins i σ e D f g
def tNever:TS:=fun _ _ _=>False
theorem jo:PS X st tNever:=fun _ _ _ _ _ _ h=>h.elim
end
abbrev TG:=V->St->Hp->(St->Hp->Prop)->Prop
abbrev TGs:=List V->St->Hp->(St->Hp->Prop)->Prop
def PG(X:Cx)(a:Expr)(t:TG):Prop:=
 ∀(pins:List (Addr×Obj)) (s:Shared) (σ:St) (H:Hp) (v:V) (u:Value) (Q:St->Hp->Prop),Inv X pins σ H s->RelV v u->t v σ H Q ->
  wpAny (model X.prog X.w) X.A (assign a X.env u) (fun _ s'=>∃ b H',Inv X pins b H' s'/\Q b H') X.xe s
def PGs(X:Cx)(b:List Expr)(t:TGs):Prop:=
 ∀(pins:List (Addr×Obj)) (s:Shared) (σ:St) (H:Hp) (vs:List V) (us:List Value) (Q:St->Hp->Prop),Inv X pins σ H s->Vals vs us->t vs σ H Q ->
  wpAny (model X.prog X.w) X.A (assignInOrder ((assignEach b X.env).map (·.2)) us) (fun _ s'=>∃ a H',Inv X pins a H' s'/\Q a H') X.xe s
abbrev qgd:=V->V->V->Hp->(Hp->Prop)->Prop
def qgL(X:Cx)(t:qgd):Prop:=
 ∀(pins:List (Addr×Obj)) (s:Shared) (σ:St) (H:Hp) (o i v:V) (b a u:Value) (Q:Hp->Prop),Inv X pins σ H s->RelV o b->RelV i a->RelV v u->t o i v H Q ->
  wpAny (model X.prog X.w) X.A (setItem b a u) (fun _ s'=>∃ H',Inv X pins σ H' s'/\Q H') X.xe s
section
variable{X:Cx}{pos:Pos}
def qcc(i:Nat):TG:=fun v σ H Q=>Q (σ.set i (some v)) H
theorem qo(b:X.N.Nodup)(d:X.N[i]?=some x)(e:Loc X.env.scope x)(c:X.fn x=true\/X.env.scope.names.lookup x=some .local:=by first | show .inl rfl | show .inr rfl | assumption):PG X (.Name x pos) (qcc i):=by
 intro pins s σ H v u Q I r h;show wpAny_assign_Name (qdA I b d e r (fun s' a=>⟨_,H,a,h⟩) c)
def qgX:TGs:=fun vs σ H Q=>vs=[]/\Q σ H
def qfN(t:TG)(u:TGs):TGs:=fun vs σ H Q=>∃ v r,vs=v::r/\t v σ H fun a H'=>u r a H' Q
theorem qaG:PGs X [] qgX:=by
 intro pins s σ H vs us Q I r h;obtain⟨e,h⟩:=h;subst e;cases r;show assignInOrder_nil ⟨σ,H,I,h⟩
theorem jl{t:TG}{u:TGs}(h1:PG X e t)(f:PGs X es u)
  (g:(assignEach (e::es) X.env).map (·.2)=assign e X.env::(assignEach es X.env).map (·.2):=by rfl):PGs X (e::es) (qfN t u):=by
 intro pins s σ H vs us Q I r h;obtain⟨v,l,d,h⟩:=h;subst d
 cases r with
 | cons r rr =>
  rw[g];show assignInOrder_cons (thn (h1 pins s σ H _ _ _ I r h) fun _ j ⟨a,b,c,i⟩=>?_);show f pins j a b _ _ Q c rr i
def qgB(K:yg)(n:Nat)(t:TGs):TG:=fun v σ H Q=>∃ a xs,v=.ref a/\SqT K H a xs/\xs.length=n/\t xs σ H Q
theorem qbE{k:Nat}{t:TGs}(hc:X.calm=true)(h:PGs X es t)
  (i:(assignEach es X.env).length=n:=by rfl) (c:(assignEach es X.env).findIdx? (·.1)=none:=by rfl):PG X (.Tuple es k pos) (qgB X.K n t):=by
 intro pins s σ H v u Q I r hw;obtain⟨a,xs,g,j,hl,hw⟩:=hw;subst g;cases r;obtain⟨p,d,l,hz⟩:=I.tuple j;show assign_Tuple_tuple (I.ok.hd hc) l (by simp[i,<- hl,d.length]) c fun h' m=>?_;have f:Inv X pins σ H { s with heap:=h' }:=I.kept (t':=s.toks) fun b o e=>m b o (yL (yQ e)) e;show h pins _ σ H xs _ Q f (by simpa using d) hw
def qgY(to d:TE)(t:qgd):TG:=fun v σ H Q=>to σ H fun o a=>d σ a fun i b=>t o i v b fun c=>Q σ c
theorem jN{o i:Expr}{to c:TE}{t:qgd}(p:PE X o to)(n:PE X i c)(q:qgL X t)
  (m:∀ v,assign (.Subscript o i pos) X.env v=(do
   let a <- holding [v] (eval o X.env);let b <- holding [v,a] (eval i X.env)
   standAt pos
   holding [v,a,b] (setItem a b v)
   release [v,a,b] []):=by intro _;rfl):PG X (.Subscript o i pos) (qgY to c t):=by
 intro pins s σ H v u Q I r h;rw[m];show yr (Yv (thn (p pins s σ H _ I h) fun a D ⟨x,d,g,B,w⟩=>?_));show yr (Yv (thn (n pins D σ d _ g w) fun b E ⟨y,e,j,C,z⟩=>?_));show yr (wpAny_standAt (yr (Yv (thn (q pins E σ e x y v a b u _ j B C r z) fun _ F ⟨f,l,A⟩=>?_))));show wpAny_release ⟨σ,f,l,A⟩
def qf3(te:TE)(g:TG):TS:=fun D σ H=>te σ H fun x a=>g x σ a D.nx
theorem jC(c:PE X e te)(d:PG X tg g)(f:swapsWithSole [tg] e pos.line X.env=pure false:=by rfl)(hw:swappedStores [tg] e X.env=pure none:=by rfl)
  (h1:(assignEach [tg] X.env).map (·.2)=[assign tg X.env]:=by rfl):PS X (.Assign [tg] e pos) (qf3 te g):=by
 intro pins s σ H D I h;show wpAny_Assign_stores (thn (c pins s σ H _ I h) fun v l ⟨x,a,b,j,i⟩=>?_) f hw;rw[h1];show thn (d pins l σ a x v _ b j i) fun _ m q=>q
theorem qk{a:Pos}(f:X.N.Nodup)(l:X.N[i]?=some x)(n:Loc X.env.scope x)(g:PE X e te)(m:swapsWith e (some (.Name x a)) pos.line X.env=pure false:=by rfl)(j:X.fn x=true\/X.env.scope.names.lookup x=some .local:=by first | show .inl rfl | show .inr rfl | assumption) :
  PS X (.Assign [.Name x a] e pos) (qf3 te (qcc i)):=by
 intro pins s σ H D I h;show wpAny_Assign_Name (thn (g pins s σ H _ I h) fun v q ⟨y,b,c,p,o⟩=>?_) m;show qdA c f l n p (fun r d=>⟨_,b,d,o⟩) j
end
section
variable{X:Cx}{pos:Pos}
def tWhile(c:TT)(tb:TS):TS:=fun D σ H=>∃ W:Nat->St->Hp->Prop,(∃ m,W m σ H)/\∀ m σ H,W m σ H ->
 c σ H fun b d=>if b=true then ∃ N:St->Hp->Prop,(∀ a H',N a H'->∃ e,e<m/\W e a H')/\tb { D with nx:=N,ct:=N,bk:=D.nx } σ d else D.nx σ d
theorem qan(y:PassesOwn (model X.prog X.w) X.A X.env X.xe)(hc:PT X c tc)(B:PSs X body tb):PS X (.While c body [] pos) (tWhile tc tb):=by
 intro pins s σ H D I h;obtain⟨W,⟨C,G⟩,turn⟩:=h;show wpAny_While (codeAny_whileLoop (fun n s'=>∃ g H',Inv X pins g H' s'/\W n g H') ?_ C ⟨σ,H,I,G⟩);rintro n E ⟨d,r,z,J⟩;show xD y (thn (hc pins E d r _ z (turn n d r J)) fun b F ⟨t,u,i⟩=>?_)
 cases b with
 | true =>
  obtain⟨N,x,i⟩:=i;rw[yG rfl];show xD y (thn (B pins F d t _ u i) fun f K j=>?_)
  cases f with
  | next =>
   obtain⟨a,e,l,p⟩:=j;obtain⟨o,m,q⟩:=x a e p;show⟨o,m,a,e,l,q⟩
  | cont =>
   obtain⟨a,e,l,p⟩:=j;obtain⟨o,m,q⟩:=x a e p;show⟨o,m,a,e,l,q⟩
  | brk=>show j
  | ret v=>show j
 | false =>
  rw[yA Ys];show X1 ⟨d,t,u,i⟩
end
structure It where
 go:Nat->Hp->Prop
 yld:Nat->Hp->V->Hp->Prop
 stop:Nat->Hp->Prop
def qc9(X:Cx)(pins:List (Addr×Obj))(H:Hp)(b:Addr):Prop:=
 H b=none/\b≠X.env.locals/\b∉X.fs/\(b∈X.ex\/X.s₀.heap.objs.size<=b)/\(∀ x c,X.env.cells.lookup x=some c->c≠b)/\∀ p∈X.pn++pins,p.1≠b
theorem Inv.fpOk{H':Hp}(I:Inv X pins σ H s)(a:s.heap.objs.size<=b)(d:H' b=none):qc9 X pins H' b:=by
 show⟨d,Yn (yj I.lt a),I.nofs a,.inr (yi I.sz a),fun x c e z=>?_,fun p f z=>?_⟩
 .obtain⟨v,q⟩:=I.cell x c e;show absurd (yj q.lt (by rw[z];show a)) (YC _)
 .show absurd (yj (yQ (I.pin p f).1) (by rw[z];show a)) (YC _)
structure Turn(P:Program)(w:World)(K:yg)(tg:Expr)(J:It)(fp:LX)(it:Addr)(tn:Nat->Heap->Prop):Prop where
 mem:it∈fp
 obj:∀ i h,tn i h->∀ b∈fp,∃ o,h.get? b=some o/\∀ v,o.data≠.cell v
 keep:∀ i h h',tn i h->(∀ b∈fp,∀ o,h.get? b=some o->h'.get? b=some o)->tn i h'
 item:∀(X:Cx),X.prog=P->X.w=w->X.K=K->X.calm=true->∀(i:Nat) (pins:List (Addr×Obj)) (s:Shared) (σ:St) (H:Hp) (E:Value->Shared->Prop),Inv X pins σ H s->(∀ b∈fp,qc9 X pins H b)->tn i s.heap->J.go i H ->
  wpAny (model P w) X.A (pyNext (.ref it)) (fun r s1=>∃ u,r=some u /\
   wpAny (model P w) X.A (letOwnedTupleGo tg (.ref it) u) (fun _ s2=>∃ x H',Inv X pins σ H' s2/\RelV x u/\J.yld i H x H'/\tn (i+1) s2.heap/\∀ b∈fp,H' b=none) E s1) E s
 done:∀(X:Cx),X.prog=P->X.w=w->X.K=K->X.calm=true->∀(i:Nat) (pins:List (Addr×Obj)) (s:Shared) (σ:St) (H:Hp) (E:Value->Shared->Prop),Inv X pins σ H s->(∀ b∈fp,qc9 X pins H b)->tn i s.heap->J.stop i H ->
  wpAny (model P w) X.A (pyNext (.ref it)) (fun r s1=>r=none/\Inv X pins σ H s1) E s
 self:∀(A:Around) (i:Nat) (s:Shared) (Q:Value->Shared->Prop) (E:Value->Shared->Prop),tn i s.heap->Q (.ref it) s->wpAny (model P w) A (pyIter (.ref it)) Q E s
abbrev TI:=St->Hp->(It->Hp->Prop)->Prop
def PIE(X:Cx)(pins:List (Addr×Obj))(σ:St)(tg:Expr)(R:It->Hp->Prop)(a:Value)(c:Shared):Prop:=
 ∃(it:Addr) (fp:LX) (tn:Nat->Heap->Prop) (J:It) (H':Hp),a=.ref it/\Inv X pins σ H' c/\Turn X.prog X.w X.K tg J fp it tn/\tn 0 c.heap/\(∀ b∈fp,qc9 X pins H' b)/\R J H'
def PI(X:Cx)(tg a:Expr)(c:TI):Prop:=
 ∀(pins:List (Addr×Obj)) (s:Shared) (σ:St) (H:Hp) (R:It->Hp->Prop),Inv X pins σ H s->c σ H R ->
  wpAny (model X.prog X.w) X.A (eval a X.env) (fun v b=>wpAny (model X.prog X.w) X.A (pyIter v) (PIE X pins σ tg R) X.xe b) X.xe s
theorem qfO{o:Obj}{n:String}{vs:Array Value}{Q:Unit->Shared->Prop}(d:s.heap.get? it=some o)(hc:o.cls=.type n)(b:o.data=.fields vs)
    (c:["enumerate","zip","dict_itemiterator","dict_reverseitemiterator","odict_iterator","itertools.zip_longest","itertools.pairwise"].contains n=false) (a:Q () s):wpAny M A (letOwnedTupleGo tg (.ref it) u) Q E s:=by
  unfold letOwnedTupleGo;cases tg<;>first
    | show yw a
    | (cases u<;>first
        | show yw a
        | (show yr (wpAny_load d ?_)
           rw[hc,b];show wpAny M A (if (["enumerate","zip","dict_itemiterator","dict_reverseitemiterator","odict_iterator","itertools.zip_longest","itertools.pairwise"].contains n&&vs[0]?==some (rawInt _))=true then _ else _) Q E s;rw[yA (by intro h;rw[c,Bool.false_and] at h;cases h)];show yw a))
noncomputable def Itl(K:yg)(a:Addr):It:=
 ⟨fun i H=>∃ xs x,SqL K H a xs/\xs[i]?=some x,fun i H x H'=>H'=H/\∀ xs,SqL K H a xs->xs[i]?=some x,fun i H=>∃ xs,SqL K H a xs/\xs.length<=i⟩
noncomputable def Itt(K:yg)(a:Addr):It:=
 ⟨fun i H=>∃ xs x,SqT K H a xs/\xs[i]?=some x,fun i H x H'=>H'=H/\∀ xs,SqT K H a xs->xs[i]?=some x,fun i H=>∃ xs,SqT K H a xs/\xs.length<=i⟩
noncomputable def Itr(lo:Int)(n:Nat):It:=⟨fun i _=>i<n,fun i H x H'=>H'=H/\x=.int (lo+i),fun i _=>n<=i⟩
theorem qcy{K:yg}(a it:Addr):Turn P w K tg (Itl K a) [it] it (fun i h=>h.IsListIter it a i) where
 mem:=by simp
 obj:=fun i h st b f=>by
  have e:b=it:=by simpa using f
  subst e;obtain⟨o,e,c,d⟩:=st;show⟨o,e,fun v z=>by rw[d] at z;cases z⟩
 keep:=fun i h h' st k=>st.at fun o e=>k it (by simp) o e
 item:=by
  intro X A hw y hc i pins s σ H E I j st B;subst A hw y;obtain⟨xs,x,l,C⟩:=B;obtain⟨D,F,p,hz⟩:=I.list l;obtain⟨u,M,O⟩:=F.get C;obtain⟨m,n,L,q,r,t⟩:=j it (by simp);show wpAny_pyNext_list_item st p.isList (x:=u) (by simpa using M) fun h' g R=>?_;have G:Inv X pins σ H { s with heap:=h' }:=I.turned (t':=s.toks) (fun b o f e=>(R.2 b f).trans e) m n q r t;obtain⟨o,e,c,d⟩:=id g;show⟨u,rfl,qfO (s:={ s with heap:=h' }) e c d (by decide) ⟨x,H,G,O,⟨rfl,fun ys N=>by rw[I.list_inj N l];show C⟩,g,fun b f=>(j b f).1⟩⟩
 done:=by
  intro X A hw y hc i pins s σ H E I j st B;subst A hw y;obtain⟨xs,l,C⟩:=B;obtain⟨D,F,p,hz⟩:=I.list l;obtain⟨m,n,L,q,r,t⟩:=j it (by simp);have hl:=F.length;show wpAny_pyNext_list_end (I.ok.hd hc) st p.isList (by simp;lk) fun h' J=>⟨rfl,I.turned (t':=s.toks) (fun b o f e=>J b o f e) m n q r t⟩
 self:=fun _ _ _ _ _ st h=>wpAny_pyIter_listiter st h
theorem turn_tuple{K:yg}(a it:Addr):Turn P w K tg (Itt K a) [it] it (fun i h=>h.IsTupleIter it a i) where
 mem:=by simp
 obj:=fun i h st b f=>by
  have e:b=it:=by simpa using f
  subst e;obtain⟨o,e,c,d⟩:=st;show⟨o,e,fun v z=>by rw[d] at z;cases z⟩
 keep:=fun i h h' st k=>st.at fun o e=>k it (by simp) o e
 item:=by
  intro X B hw A hc i pins s σ H E I l st C;subst B hw A;obtain⟨xs,x,m,D⟩:=C;obtain⟨g,F,p,hz⟩:=I.tuple m;obtain⟨u,M,O⟩:=F.get D;obtain⟨n,q,L,r,t,y⟩:=l it (by simp);show wpAny_pyNext_tuple_item st (show s.heap.IsTuple a g.toArray from p) (x:=u) (by simpa using M) fun h' j R=>?_;have G:Inv X pins σ H { s with heap:=h' }:=I.turned (t':=s.toks) (fun b o f e=>(R.2 b f).trans e) n q r t y;obtain⟨o,e,c,d⟩:=id j;show⟨u,rfl,qfO (s:={ s with heap:=h' }) e c d (by decide) ⟨x,H,G,O,⟨rfl,fun ys N=>by rw[I.tuple_inj N m];show D⟩,j,fun b f=>(l b f).1⟩⟩
 done:=by
  intro X B hw A hc i pins s σ H E I l st C;subst B hw A;obtain⟨xs,m,D⟩:=C;obtain⟨g,F,p,hz⟩:=I.tuple m;obtain⟨n,q,L,r,t,y⟩:=l it (by simp);have hl:=F.length;show wpAny_pyNext_tuple_end (I.ok.hd hc) st (show s.heap.IsTuple a g.toArray from p) (by simp;lk) fun h' J=>⟨rfl,I.turned (t':=s.toks) (fun b o f e=>J b o f e) n q r t y⟩
 self:=fun _ _ _ _ _ st h=>wpAny_pyIter_tupleiter st h
theorem turn_range{K:yg}(it:Addr)(lo:Int)(n:Nat):Turn P w K tg (Itr lo n) [it] it (fun i h=>IsRangeIter h it (lo+(i:Nat)*1) ((n:Int)-(i:Nat)) 1) where
 mem:=by simp
 obj:=fun i h st b a=>by
  have e:b=it:=by simpa using a
  subst e
  show⟨_,st,fun v z=>by
   have B:Data.fields _=Data.cell v:=z;cases B⟩
 keep:=fun i h h' st k=>k it (by simp) _ st
 item:=by
  intro X q hw p hc i pins s σ H E I d st r;subst q hw p;obtain⟨f,g,y,j,l,m⟩:=d it (by simp);have W:=Walks.range (prog:=X.prog) (w:=X.w) (I.ok.hd hc) it lo 1 n;show W.item i s _ _ r st fun v h' tk hv c A=>?_;obtain⟨t,rfl⟩:=hv;have u:Inv X pins σ H { s with heap:=h',toks:=tk }:=I.turned (fun b o a e=>A b o (by simpa using a) e) f g j l m;show⟨_,rfl,qfO (s:={ s with heap:=h',toks:=tk }) (n:="range_iterator") c rfl rfl (by decide) ⟨.int (lo+i),H,u,⟨t,?_⟩,⟨rfl,rfl⟩,c,fun b a=>(d b a).1⟩⟩;rw[Int.mul_one]
 done:=by
  intro X q hw p hc i pins s σ H E I d st r;subst q hw p;obtain⟨f,g,y,j,l,m⟩:=d it (by simp);show wpAny_pyNext_range_end (I.ok.hd hc) st (by have:n<=i:=r;lk) fun h' x=>⟨rfl,I.turned (t':=s.toks) (fun b o a e=>x b o a e) f g j l m⟩
 self:=fun _ _ _ _ _ st h=>wpAny_pyIter_rangeiter st h
section
variable{X:Cx}{tg:Expr}
theorem qdC{R:It->Hp->Prop}{a:Int}{t u v:Tok}{tk:Nat}(I:Inv X pins σ H s)(h1:-(2 ^ 62)<=lo)(g:lo<2 ^ 62)(h:-(2 ^ 62)<=a)(i:a<2 ^ 62)
  (q:R (Itr lo (a-lo).toNat) H):wpAny (model X.prog X.w) X.A (pyIter (.ref s.heap.objs.size)) (PIE X pins σ tg R) E { s with heap:=s.heap.push { cls:=.type "range",data:=.fields #[.int lo t,.int a u,.int 1 v] },toks:=tk }:=by
 show wpAny_pyIter_range (IsRange.new ..) (small_one h1 g h i) ?_;have c:Inv X pins σ H { s with heap:=s.heap.push { cls:=.type "range",data:=.fields #[.int lo t,.int a u,.int 1 v] },toks:=tk }:=I.kept fun b o e=>yv _ e;show⟨(s.heap.push { cls:=.type "range",data:=.fields #[.int lo t,.int a u,.int 1 v] }).objs.size,[(s.heap.push { cls:=.type "range",data:=.fields #[.int lo t,.int a u,.int 1 v] }).objs.size],_,_,H,rfl,
  c.kept (t':=tk) fun b o e=>yv _ e,turn_range _ lo (a-lo).toNat,?_,fun b j=>?_,q⟩
 .have d:lo+((0:Nat):Int)*1=lo:=by simp
  have f:(((a-lo).toNat:Nat):Int)-((0:Nat):Int)=Builtin.Range.rangeSize lo a 1:=by rw[rangeSize_one];split<;>lk
  show IsRangeIter _ _ (lo+((0:Nat):Int)*1) ((((a-lo).toNat:Nat):Int)-((0:Nat):Int)) 1;rw[d,f];show yZ _ rfl
 .have e:b=(s.heap.push { cls:=.type "range",data:=.fields #[.int lo t,.int a u,.int 1 v] }).objs.size:=by simpa using j
  subst e;show c.fpOk (yh _) (c.hok.fresh (yh _))
def qge(ta:TA):TI:=fun σ H R=>ta σ H fun vs a=>∃ j:Int,vs=[.int j]/\-(2 ^ 62)<=j/\j<2 ^ 62/\R (Itr 0 j.toNat) a
def qgf(ta:TA):TI:=fun σ H R=>ta σ H fun vs a=>∃ i j:Int,vs=[.int i,.int j]/\(-(2 ^ 62)<=i/\i<2 ^ 62/\-(2 ^ 62)<=j/\j<2 ^ 62)/\R (Itr i (j-i).toNat) a
theorem jt{a:Expr}(f:Gl X "range")(g:X.mg "range"=none)(d:PA X [a] ta)(i:starEach [a] X.env=[(false,eval a X.env)]:=by rfl):PI X tg (.Call (.Name "range" p) [a] [] pos) (qge ta):=by
 intro pins s σ H R I h;show Call_ (qaN I f g boot_range (YE (thn (d pos pins s σ H _ I h) fun us o ⟨vs,n,c,m,b⟩=>?_) i rfl));obtain⟨j,e,b,l,q⟩:=b;subst e
 cases m with
 | cons r rr =>
  cases rr;obtain⟨t,rfl⟩:=r;show call_range_1 (qdC c (by lk) (by lk) b l (by simpa using q))
theorem qbF{a b:Expr}(l:Gl X "range")(m:X.mg "range"=none)(g:PA X [a,b] ta)(n:starEach [a,b] X.env=[(false,eval a X.env),(false,eval b X.env)]:=by rfl)(c:starEach [b] X.env=[(false,eval b X.env)]:=by rfl) :
  PI X tg (.Call (.Name "range" p) [a,b] [] pos) (qgf ta):=by
 intro pins s σ H R I h;show Call_ (qaN I l m boot_range (YE (thn (g pos pins s σ H _ I h) fun us y ⟨vs,x,f,w,d⟩=>?_) (by rw[n,c]) (by rw[c];rfl)));obtain⟨i,j,e,⟨d,o,u,v⟩,q⟩:=d;subst e
 cases w with
 | cons r rr =>
  cases rr with
  | cons r' rr =>
   cases rr;obtain⟨t,rfl⟩:=r;obtain⟨t',rfl⟩:=r';show call_range_2 (qdC f d o u v q)
def qgZ(f:TI)(g:TG)(tb:TS):TS:=fun D σ H=>f σ H fun J d=>∃ W:Nat->Nat->St->Hp->Prop,(∃ m,W 0 m σ d)/\∀ i m σ H,W i m σ H ->
 (J.stop i H/\D.nx σ H)\/(J.go i H/\∃ N:St->Hp->Prop,(∀ a H',N a H'->∃ c,c<m/\W (i+1) c a H')/\∀ x H',J.yld i H x H'->g x σ H' fun b e=>tb { D with nx:=N,ct:=N,bk:=D.nx } b e)
noncomputable def qcz(fp:LX)(h:Heap):List (Addr×Obj):=fp.filterMap fun b=>(h.get? b).map fun o=>(b,o)
theorem qao{o:Obj}(a:b∈fp)(e:h.get? b=some o):(b,o)∈qcz fp h:=List.mem_filterMap.mpr ⟨b,a,by rw[e];rfl⟩
theorem of_pinsAt{p:Addr×Obj}(d:p∈qcz fp h):p.1∈fp/\h.get? p.1=some p.2:=by
 obtain⟨b,c,e⟩:=List.mem_filterMap.mp d
 cases q:h.get? b with
 | none=>rw[q] at e;cases e
 | some o =>
  rw[q] at e;have a:(b,o)=p:=ym e;subst a;show⟨c,q⟩
theorem Inv.pinned(I:Inv X pins σ H s)(i:∀ b∈fp,qc9 X pins H b)(j:∀ b∈fp,∃ o,s.heap.get? b=some o/\∀ v,o.data≠.cell v):Inv X (pins++qcz fp s.heap) σ H s:=
 I.pins_of fun p l=>(yC.mp l).elim (fun z=>I.pin p (yT _ z)) fun z=>by
  obtain⟨c,e⟩:=of_pinsAt z;obtain⟨f,g,h,_⟩:=i p.1 c;obtain⟨o,a,d⟩:=j p.1 c;rw[e] at a;cases a;show⟨e,f,g,h,d⟩
theorem Inv.unpinned{pl:List (Addr×Obj)}(I:Inv X (pins++pl) σ H s):Inv X pins σ H s:=I.pins_of fun p a=>I.pin p (yT _ (yU _ a))
theorem jj{p:Expr}{wi:TI}(E:PassesOwn (model X.prog X.w) X.A X.env X.xe)(hc:X.calm=true)(hi:PI X tg p wi)(hg:PG X tg g)(l:PSs X body tb)
  (hs:∀ x,foldedSetIterable p X.env x=pure x:=by intro _;rfl):PS X (.For tg p body [] pos) (qgZ wi g tb):=by
 intro pins s σ H D I h;show wpAny_For (thn (hi pins s σ H _ I h) fun v s1 h1=>thn h1 fun aa s2 h2=>?_) hs;obtain⟨it,fp,tn,J,H2,e,I2,T,S,f2,W,⟨m0,w0⟩,turn⟩:=h2;subst e;have q:∀{H':Hp},(∀ b∈fp,H' b=none)->∀ b∈fp,qc9 X pins H' b:=fun hn b l=>⟨hn b l,(f2 b l).2⟩;show codeAny_forLoop_any (fun n s'=>∃ i t H',Inv X pins t H' s'/\tn i s'.heap/\(∀ b∈fp,H' b=none)/\W i n t H') ?_ m0 ⟨0,σ,H2,I2,S,fun b l=>(f2 b l).1,w0⟩;rintro n s3 ⟨i,y,L,Z,G,C,w3⟩;rcases turn i n y L w3 with⟨K,qn⟩ | ⟨go,N,hN,step⟩
 .show xD E (thn (T.done X rfl rfl rfl hc i pins s3 y L X.xe Z (q C) G K) fun r s4 ⟨P,I4⟩=>?_);subst P;show X1 ⟨y,L,I4,qn⟩
 .show xD E (thn (T.item X rfl rfl rfl hc i pins s3 y L X.xe Z (q C) G go) fun r s4 ⟨u,P,h4⟩=>?_);subst P;show xD E (thn h4 fun _ s5 ⟨x,Y,I5,r5,y5,B,O⟩=>?_);have M:=I5.pinned (q O) (T.obj _ _ B);show xD E (thn (hg _ s5 y Y x u _ M r5 (step x Y y5)) fun _ s6 ⟨U,H6,I6,q6⟩=>?_);show xD E (thn (l _ s6 U H6 _ I6 q6) fun f R z=>?_)
  have again:∀{a:St} {c:Hp},Inv X (pins++qcz fp s5.heap) a c R->N a c->∃ m,m<n/\∃ i t H',Inv X pins t H' R/\tn i R.heap/\(∀ b∈fp,H' b=none)/\W i m t H':=fun{a c} j F=>by
   obtain⟨m',hm,w7⟩:=hN a c F;show⟨m',hm,i+1,a,c,j.unpinned,T.keep _ _ _ B fun b l o e=>(j.pin (b,o) (yT _ (yT _ (qao l e)))).1,fun b l=>?_,w7⟩;obtain⟨o,e,d⟩:=T.obj _ _ B b l;show(j.pin (b,o) (yT _ (yT _ (qao l e)))).2.1
  cases f with
  | next=>obtain⟨a,c,j,F⟩:=z;show again j F
  | cont=>obtain⟨a,c,j,F⟩:=z;show again j F
  | brk=>obtain⟨a,c,j,z⟩:=z;show⟨a,c,j.unpinned,z⟩
  | ret v=>obtain⟨x7,a,c,j,r7,z⟩:=z;show⟨x7,a,c,j.unpinned,r7,z⟩
end
theorem jc{K:yg}(b:Nat->St->Hp->Prop)(l:b 0 σ H)(hl:∀ i σ H,i<=xs.length->b i σ H->SqL K H a xs)
  (r:∀ i x σ H,xs[i]?=some x->b i σ H->g x σ H fun d h=>tb { D with nx:=b (i+1),ct:=b (i+1),bk:=D.nx } d h) (n:∀ σ H,b xs.length σ H->D.nx σ H) :
  ∃ W:Nat->Nat->St->Hp->Prop,(∃ m,W 0 m σ H)/\∀ i m σ H,W i m σ H ->
   ((Itl K a).stop i H/\D.nx σ H)\/((Itl K a).go i H/\∃ N:St->Hp->Prop,(∀ c H',N c H'->∃ j,j<m/\W (i+1) j c H')/\∀ x H',(Itl K a).yld i H x H'->g x σ H' fun d h=>tb { D with nx:=N,ct:=N,bk:=D.nx } d h):=by
 show⟨fun i m σ H=>m=xs.length-i/\i<=xs.length/\b i σ H,⟨xs.length,by simp,YS _,l⟩,?_⟩;rintro i m σ H ⟨rfl,o,p⟩;have q:=hl i σ H o p;by_cases f:i<xs.length
 .show .inr ⟨⟨xs,xs[i],q,by simp[f]⟩,b (i+1),fun c H' s=>⟨xs.length-(i+1),by lk,rfl,f,s⟩,fun x H' y=>?_⟩;obtain⟨e,y⟩:=y;subst e;show r i x σ _ (y xs q) p
 .have e:i=xs.length:=by lk
  subst e;show .inl ⟨⟨xs,q,yh _⟩,n σ H p⟩
theorem zj(a:Nat->St->Hp->Prop)(j:a 0 σ H)
  (o:∀ i σ H,i<n->a i σ H->g (.int (lo+i)) σ H fun d f=>tb { D with nx:=a (i+1),ct:=a (i+1),bk:=D.nx } d f) (l:∀ σ H,a n σ H->D.nx σ H) :
  ∃ W:Nat->Nat->St->Hp->Prop,(∃ m,W 0 m σ H)/\∀ i m σ H,W i m σ H ->
   ((Itr lo n).stop i H/\D.nx σ H)\/((Itr lo n).go i H/\∃ N:St->Hp->Prop,(∀ c H',N c H'->∃ h,h<m/\W (i+1) h c H')/\∀ x H',(Itr lo n).yld i H x H'->g x σ H' fun d f=>tb { D with nx:=N,ct:=N,bk:=D.nx } d f):=by
 show⟨fun i m σ H=>m=n-i/\i<=n/\a i σ H,⟨n,by simp,YS _,j⟩,?_⟩;rintro i m σ H ⟨rfl,r,p⟩;by_cases b:i<n
 .show .inr ⟨b,a (i+1),fun c H' q=>⟨n-(i+1),by lk,rfl,b,q⟩,fun x H' y=>?_⟩;obtain⟨e,y⟩:=y;subst e y;show o i σ _ b p
 .have e:i=n:=by lk
  subst e;show .inl ⟨yh _,l σ H p⟩
abbrev R2:=V->V->Hp->VK->Prop
def OpR(X:Cx)(f:Value->Value->Sem Value)(r:R2):Prop:=
 ∀(pins:List (Addr×Obj)) (s:Shared) (σ:St) (H:Hp) (x y:V) (v u:Value) (Q:VK),Inv X pins σ H s->RelV x v->RelV y u->r x y H Q ->
  wpAny (model X.prog X.w) X.A (f v u) (EP X pins σ Q) X.xe s
def UnR(X:Cx)(f:Value->Sem Value)(r:V->Hp->VK->Prop):Prop:=
 ∀(pins:List (Addr×Obj)) (s:Shared) (σ:St) (H:Hp) (x:V) (v:Value) (Q:VK),Inv X pins σ H s->RelV x v->r x H Q ->
  wpAny (model X.prog X.w) X.A (f v) (EP X pins σ Q) X.xe s
def qab(X:Cx)(f:Value)(r:List V->Hp->VK->Prop):Prop:=
 ∀(pins:List (Addr×Obj)) (s:Shared) (σ:St) (H:Hp) (xs:List V) (us:List Value) (Q:VK),Inv X pins σ H s->Vals xs us->r xs H Q ->
  wpAny (model X.prog X.w) X.A (call f us) (EP X pins σ Q) X.xe s
def tOp(r:R2)(ta tb:TE):TE:=fun σ H Q=>ta σ H fun x a=>tb σ a fun y b=>r x y b Q
def tUn(r:V->Hp->VK->Prop)(ta:TE):TE:=fun σ H Q=>ta σ H fun x a=>r x a Q
def rI(C:Int->Int->Prop)(g:Int->Int->V):R2:=fun x y H Q=>∃ i j,x=.int i/\y=.int j/\C i j/\Q (g i j) H
def rI0(g:Int->Int->V):R2:=fun x y H Q=>∃ i j,x=.int i/\y=.int j/\Q (g i j) H
def rU(g:Int->V):V->Hp->VK->Prop:=fun x H Q=>∃ i,x=.int i/\Q (g i) H
section
variable{X:Cx}{a b c:Expr}{ta tb tc:TE}{pos:Pos}
theorem qgM(m:PE X a ta)(n:PE X b tb){R:V->V->Hp->Prop}(I:Inv X pins σ H s)
  (h:ta σ H fun x i=>tb σ i fun y c=>R x y c) {Q:Value->Shared->Prop}
  (o:∀ v u g x y c,Inv X pins σ c g->RelV x v->RelV y u->R x y c->wpAny (model X.prog X.w) X.A (f v u) Q X.xe g) :
  wpAny (model X.prog X.w) X.A (eval a X.env) (fun v d=>wpAny (model X.prog X.w) X.A (eval b X.env) (fun u e=>wpAny (model X.prog X.w) X.A (f v u) Q X.xe e) X.xe d) X.xe s:=by
 show thn (m pins s σ H _ I h) fun v z ⟨x,i,j,r,p⟩=>?_;show thn (n pins z σ i _ j p) fun u g ⟨y,c,l,t,q⟩=>?_;show o v u g x y c l r t q
theorem qw{op:Operator}(g:OpR X (binaryOp op) r)(e:PE X a ta)(f:PE X b tb):PE X (.BinOp a op b pos) (tOp r ta tb):=by
 intro pins s σ H Q I h;show wpAny_BinOp (qgM e f I h fun v u l x y c d i j q=>g pins l σ c x y v u Q d i j q)
theorem qaO{op:UnaryOp}{r:V->Hp->VK->Prop}(e:UnR X (unaryOp op) r)(d:PE X a ta):PE X (.UnaryOp op a pos) (tUn r ta):=by
 intro pins s σ H Q I h;show UnaryOp_ (thn (d pins s σ H _ I h) fun v i ⟨x,b,c,g,f⟩=>e pins i σ b x v Q c g f)
theorem opI{C:Int->Int->Prop}{g:Int->Int->Int}
  (a:∀(i j:Int) (t u:Tok) (s:Shared) (Q:Value->Shared->Prop) (E:Value->Shared->Prop),C i j->Q (.int (g i j) s.toks) { s with toks:=s.toks+1 }->wpAny (model X.prog X.w) X.A (f (.int i t) (.int j u)) Q E s) :
  OpR X f (rI C fun i j=>.int (g i j)):=by
 intro pins s σ H x y v u Q I b c h;obtain⟨i,j,rfl,rfl,hc,q⟩:=h;obtain⟨t,rfl⟩:=b;obtain⟨t',rfl⟩:=c;show a i j t t' s _ _ hc ⟨.int (g i j),H,I.tok _,⟨_,rfl⟩,q⟩
theorem qgC{g:Int->Int->Int}
  (a:∀(i j:Int) (t u:Tok) (s:Shared) (Q:Value->Shared->Prop) (E:Value->Shared->Prop),Q (.int (g i j) s.toks) { s with toks:=s.toks+1 }->wpAny (model X.prog X.w) X.A (f (.int i t) (.int j u)) Q E s) :
  OpR X f (rI0 fun i j=>.int (g i j)):=by
 intro pins s σ H x y v u Q I b c h;obtain⟨i,j,rfl,rfl,q⟩:=h;obtain⟨t,rfl⟩:=b;obtain⟨t',rfl⟩:=c;show a i j t t' s _ _ ⟨.int (g i j),H,I.tok _,⟨_,rfl⟩,q⟩
theorem qgD{g:Int->Int->Bool}
  (a:∀(i j:Int) (t u:Tok) (s:Shared) (Q:Value->Shared->Prop) (E:Value->Shared->Prop),Q (.bool (g i j)) s->wpAny (model X.prog X.w) X.A (f (.int i t) (.int j u)) Q E s) :
  OpR X f (rI0 fun i j=>.bl (g i j)):=by
 intro pins s σ H x y v u Q I b c h;obtain⟨i,j,rfl,rfl,q⟩:=h;obtain⟨t,rfl⟩:=b;obtain⟨t',rfl⟩:=c;show a i j t t' s _ _ ⟨.bl (g i j),H,I,rfl,q⟩
def CDiv(i j:Int):Prop:=0<j/\j<1073741824
def qg0(i j:Int):Prop:=0<=j/\j<=1000000/\i.natAbs<2 ^ 64
def CMul(i j:Int):Prop:=(-(2 ^ 64)<i/\i<2 ^ 64)\/(-(2 ^ 64)<j/\j<2 ^ 64)
theorem CMul.ok{i j:Int}(h:CMul i j):IntMulOk i j:=by
 rcases h with⟨h1,a⟩ | ⟨h1,a⟩
 .show .of_left (intBits_le_64 h1 a)
 .show .of_right (intBits_le_64 h1 a)
theorem two_pow_nn(k:Nat):(0:Int)<=2 ^ k:=by
 rw[two_pow_cast];show Int.natCast_nonneg _
theorem op_add:OpR X (binaryOp .Add) (rI0 fun i j=>.int (i+j)):=qgC fun _ _ _ _ _ _ _ q=>add_int q
theorem qbG:OpR X (binaryOp .Sub) (rI0 fun i j=>.int (i-j)):=qgC fun _ _ _ _ _ _ _ q=>sub_int q
theorem op_mul:OpR X (binaryOp .Mult) (rI CMul fun i j=>.int (i*j)):=opI fun _ _ _ _ _ _ _ hc q=>mul_int q hc.ok
theorem qeo:OpR X (binaryOp .FloorDiv) (rI CDiv fun i j=>.int (i / j)):=opI fun i j _ _ _ _ _ hc q=>by
 have h1:(0:Int)<j:=hc.1;have a:j<1073741824:=hc.2;show floordiv_int (by lk) (by rw[Int.fdiv_eq_ediv_of_nonneg i (by lk)];show q) (.inl (PyProof.noPylong_small (by lk)))
theorem zr:OpR X (binaryOp .Mod) (rI (fun _ j=>0<j) fun i j=>.int (i % j)):=opI fun i j _ _ _ _ _ hc q=>by
 have h1:(0:Int)<j:=hc;show mod_int' (by lk) (by rw[Int.fmod_eq_emod_of_nonneg i (by lk)];show q)
theorem op_pow:OpR X (binaryOp .Pow) (rI qg0 fun i j=>.int (i ^ j.toNat)):=opI fun _ _ _ _ _ _ _ hc q=>pow_int_small hc.1 hc.2.1 hc.2.2 q
theorem zY:OpR X (binaryOp .LShift) (rI qg0 fun i j=>.int (i*2 ^ j.toNat)):=opI fun _ _ _ _ _ _ _ hc q=>lshift_int_small hc.1 hc.2.1 hc.2.2 q
theorem qbh:OpR X (binaryOp .RShift) (rI (fun _ j=>0<=j) fun i j=>.int (i / 2 ^ j.toNat)):=opI fun i j _ _ _ _ _ hc q =>
 rshift_int hc (by rw[Int.fdiv_eq_ediv_of_nonneg i (two_pow_nn _)];show q)
theorem zk:OpR X (binaryOp .BitAnd) (rI0 fun i j=>.int (Builtin.bitAnd i j)):=qgC fun _ _ _ _ _ _ _ q=>and_int q
theorem qdc:OpR X (binaryOp .BitOr) (rI0 fun i j=>.int (Builtin.bitOr i j)):=qgC fun _ _ _ _ _ _ _ q=>or_int q
theorem unI{f:Value->Sem Value}{g:Int->Int}
  (a:∀(i:Int) (t:Tok) (s:Shared) (Q:Value->Shared->Prop) (E:Value->Shared->Prop),Q (.int (g i) s.toks) { s with toks:=s.toks+1 }->wpAny (model X.prog X.w) X.A (f (.int i t)) Q E s) :
  UnR X f (rU fun i=>.int (g i)):=by
 intro pins s σ H x v Q I b h;obtain⟨i,rfl,q⟩:=h;obtain⟨t,rfl⟩:=b;show a i t s _ _ ⟨.int (g i),H,I.tok _,⟨_,rfl⟩,q⟩
theorem qaP:UnR X (unaryOp .USub) (rU fun i=>.int (-i)):=unI fun _ _ _ _ _ q=>neg_int q
theorem qcA:UnR X (unaryOp .Invert) (rU fun i=>.int (Builtin.bitNot i)):=unI fun _ _ _ _ _ q=>invert_int q
end
noncomputable def scal:V->V->Bool
 | .non,.non=>true | .non,.int _=>true | .int _,.non=>true | .non,.bl _=>true | .bl _,.non=>true | .non,.str _=>true | .str _,.non=>true
 | .int _,.int _=>true | .bl _,.bl _=>true | .str _,.str _=>true | .byt _,.byt _=>true
 | .int _,.str _=>true | .str _,.int _=>true | .bl _,.str _=>true | .str _,.bl _=>true
 | _,_=>false
def rEq:R2:=fun x y H Q=>scal x y=true/\Q (.bl (decide (x=y))) H
theorem dec_bl{i j:Bool}:decide (V.bl i=V.bl j)=(i==j):=by
 rw[Yr];simp
section
variable{X:Cx}{a b c:Expr}{ta tb tc:TE}{pos:Pos}
theorem qdD{Q:VK}{k k':Bool}(I:Inv X pins σ H s)(q:Q (.bl k) H)(e:k=k'):EP X pins σ Q (.bool k') s:=by
 subst e;show⟨.bl k,H,I,rfl,q⟩
theorem qep:OpR X (compareOp .Lt) (rI0 fun i j=>.bl (decide (i<j))):=qgD fun _ _ _ _ _ _ _ q=>lt_int q
theorem op_le:OpR X (compareOp .LtE) (rI0 fun i j=>.bl (decide (i<=j))):=qgD fun _ _ _ _ _ _ _ q=>le_int q
theorem qfh:OpR X (compareOp .Gt) (rI0 fun i j=>.bl (decide (j<i))):=qgD fun _ _ _ _ _ _ _ q=>gt_int q
theorem op_ge:OpR X (compareOp .GtE) (rI0 fun i j=>.bl (decide (j<=i))):=qgD fun _ _ _ _ _ _ _ q=>ge_int q
theorem op_isN:OpR X (compareOp .Is) (fun x y H Q=>y=.non/\Q (.bl (decide (x=.non))) H):=by
 intro pins s σ H x y v u Q I a b h;obtain⟨rfl,q⟩:=h;cases b;show is_none_gen (qdD I q ?_);cases x<;>first
  | (cases a;rfl)
  | (obtain⟨t,rfl⟩:=a;rfl)
theorem qdd:OpR X (compareOp .IsNot) (fun x y H Q=>y=.non/\Q (.bl (!decide (x=.non))) H):=by
 intro pins s σ H x y v u Q I a b h;obtain⟨rfl,q⟩:=h;cases b;show isnot_none_gen (qdD I q ?_);cases x<;>first
  | (cases a;rfl)
  | (obtain⟨t,rfl⟩:=a;rfl)
theorem qA(b:Expr)(h:op≠.In:=by decide)(d:op≠.NotIn:=by decide):behindInMarks op b=false:=by
 have a:(op==CmpOp.In)=false:=by cases op<;>first | rfl | show absurd rfl h
 have c:(op==CmpOp.NotIn)=false:=by cases op<;>first | rfl | show absurd rfl d
 cases b<;>simp[behindInMarks,a,c]
theorem jD(i:OpR X (compareOp op) r)(e:PE X a ta)(f:PE X b tb)(g:behindInMarks op b=false):PE X (.Compare a [op] [b] pos) (tOp r ta tb):=by
 intro pins s σ H Q I h;show wpAny_Compare1 (qgM e f I h fun v u m x y c d j l q=>i pins m σ c x y v u Q d j l q) g
def qfP(t:TE):TT:=fun σ H Q=>t σ H fun x H'=>∃ k,x=.bl k/\Q k H'
theorem qj(p:OpR X (compareOp op) r)(m:PE X a ta)(n:PE X b tb)(o:behindInMarks op b=false):PT X (.Compare a [op] [b] pos) (qfP (tOp r ta tb)):=by
 intro pins s σ H Q I h
 show wpAny_isTrue_Compare1 (thn (m pins s σ H _ I h) fun v D ⟨x,d,i,A,q⟩=>thn (n pins D σ d _ i q) fun u E ⟨y,f,j,B,t⟩ =>
  thn (p pins E σ f x y v u _ j A B t) fun c F ⟨z,g,l,C,k,e,w⟩=>?_) o
 subst e;cases C;show xK ⟨g,l,w⟩
def qeq(r r':R2)(ta tb tc:TE):TE:=fun σ H Q=>ta σ H fun x b=>tb σ b fun y c=>r x y c fun z a=>∃ k,z=.bl k /\
 (if k=true then tc σ a fun e d=>r' y e d Q else Q (.bl false) a)
theorem pe_chain(C:OpR X (compareOp op) r)(f:OpR X (compareOp op') r')(w:PE X a ta)(A:PE X b tb)(hc:PE X c tc)
  (B:lastMarks [op,op'] [b,c]=false:=by with_unfolding_all rfl):PE X (.Compare a [op,op'] [b,c] pos) (qeq r r' ta tb tc):=by
 intro pins s σ H Q I h
 show Compare_chain (thn (w pins s σ H _ I h) fun v L ⟨x,m,p,G,D⟩=>chain_link (thn (A pins L σ m _ p D) fun u M ⟨y,n,q,l,E⟩ =>
  thn (C pins M σ n x y v u _ q G l E) fun d N ⟨z,g,i,J,k,e,j⟩=>?_)) B
 subst e;cases J;show xK ?_
 cases k with
 | false=>show ite_ff ⟨.bl false,g,i,rfl,j⟩
 | true=>show ite_tt (chain_last (thn (hc pins N σ g _ i j) fun P O ⟨R,o,t,K,F⟩=>f pins O σ o y R u P Q t l K F))
theorem pt_chain(G:OpR X (compareOp op) r)(f:OpR X (compareOp op') r')(D:PE X a ta)(E:PE X b tb)(hc:PE X c tc)
  (F:lastMarks [op,op'] [b,c]=false:=by with_unfolding_all rfl):PT X (.Compare a [op,op'] [b,c] pos) (qfP (qeq r r' ta tb tc)):=by
 intro pins s σ H Q I h
 show isTrue_chain (thn (D pins s σ H _ I h) fun v T ⟨x,m,q,O,K⟩=>test_link (thn (E pins T σ m _ q K) fun u U ⟨y,n,t,l,L⟩ =>
  thn (G pins U σ n x y v u _ t O l L) fun d W ⟨z,g,i,P,k,e,j⟩=>?_)) F
 subst e;cases P;show xK ?_
 cases k with
 | false =>
  obtain⟨k',B,J⟩:=j;cases B;show ite_ff ⟨g,i,J⟩
 | true =>
  show ite_tt (test_last (thn (hc pins W σ g _ i j) fun Z Y ⟨z',o,w,R,M⟩=>thn (f pins Y σ o y z' u Z _ w l R M) fun d' s5 ⟨z2,p,A,S,k2,C,N⟩=>?_));subst C;cases S;show xK ⟨p,A,N⟩
theorem qb2:(sizeLine:Nat)<2 ^ 63:=by rw[YF];decide
theorem op_add_str:OpR X (binaryOp .Add) (fun x y H Q=>∃ i j,x=.str i/\y=.str j/\i.length+j.length<=sizeLine/\Q (.str (i++j)) H):=by
 intro pins s σ H x y v u Q I a b h;obtain⟨i,j,rfl,rfl,hz,q⟩:=h;obtain⟨t,rfl⟩:=a;obtain⟨t',rfl⟩:=b;show add_str (fun t' tk=>⟨.str (i++j),H,I.tok _,⟨_,rfl⟩,q⟩) hz
theorem qbY{x:V}(r:Vals [x] us):∃ u,us=[u]/\RelV x u:=by
 cases r with
 | cons r1 r2=>cases r2;show⟨_,rfl,r1⟩
theorem qfQ{x:V}(r:Vals [x,y] us):∃ u a,us=[u,a]/\RelV x u/\RelV y a:=by
 cases r with
 | cons r1 r2 =>
  cases r2 with
  | cons r3 r4=>cases r4;show⟨_,_,rfl,r1,r3⟩
theorem qcB(hc:X.calm=true):qab X (.builtin "max") (fun xs H Q=>∃ i j,xs=[.int i,.int j]/\Q (.int (if j>i then j else i)) H):=by
 intro pins s σ H xs us Q I r h;obtain⟨i,j,rfl,q⟩:=h;obtain⟨u,b,rfl,⟨t,rfl⟩,⟨t',rfl⟩⟩:=qfQ r;show max_two_ints (I.ok.hd hc) fun h' tk k=>⟨_,H,I.kept k,?_,q⟩;by_cases a:j>i
 .rw [yG a,yG a];show⟨_,rfl⟩
 .rw [yA a,yA a];show⟨_,rfl⟩
end
structure ObjM(h:Heap)(x dx C:Addr)(mA:Str->Option Value):Prop where
 obj:h.get? x=some (PySem.W.instObj C dx)
 ns:h.Ns1 dx mA
 ne:dx≠x
theorem qcC(n:h.Ns1 dx mA):∃ od,h.get? dx=some od/\∀ name,PySem.W.lookIn name od=some (mA name):=by
 obtain⟨o,es,ep,i,d,f,_,g⟩:=n;show⟨o,i,fun name=>?_⟩;have e:=g name;unfold nsFind findBy at e;rw[<- Array.find?_toList] at e;unfold PySem.W.lookIn;rw[d];dsimp only;split
 .rename_i y q
  rw[q] at e;show congrArg some e
 .rename_i q
  rw[q] at e
  have a:es.toList.any (·.refKey)=false:=by
   rw[List.any_eq_false];intro y j;obtain⟨z,t,b⟩:=f y (Array.mem_toList_iff.mp j);simp[DictEntry.refKey,b]
  have c:¬ es.toList.any (·.refKey)=true:=by rw[a];show Ys
  rw[yA c];show congrArg some e
theorem ObjM.look{x:Addr}(I:ObjM h x dx C mA):∃ od,PySem.W.InstAt h x (PySem.W.instObj C dx) C (some od)/\∀ name,PySem.W.lookIn name od=some (mA name):=
 let ⟨od,ho,hl⟩:=qcC I.ns
 ⟨od,⟨I.obj,rfl,rfl,ho⟩,hl⟩
section
variable{prog:Program}{w:World}{A:Around}{E:Value->Shared->Prop}{s:Shared}{K:yg}{x dx C f:Addr}{mA:Str->Option Value}{name:Str}{v:Value}
theorem get_map{a:Bool}{Q:Value->Shared->Prop}(X:K.In s.heap)(I:ObjM s.heap x dx C mA)(d:PySem.W.plainGet K C name=true)(e:PySem.W.hasDictIn K C=true)
  (c:PySem.W.findIn K (.ref C) name=some none) (hv:mA name=some v) (b:PySem.W.handedIn v=true) (h:Q v { s with toks:=s.toks+1 }) :
  wpAny (model prog w) A (getAttr (.ref x) name a) Q E s:=by
 obtain⟨od,J,hl⟩:=I.look;show PySem.W.get_value X J (X8 d).1 (PySem.W.findObj_own e c rfl (by rw[hl,hv])) b h
theorem get_meth{Q:Value×List Value->Shared->Prop}(X:K.In s.heap)(I:ObjM s.heap x dx C mA)(a:PySem.W.plainGet K C name=true)
  (b:PySem.W.findIn K (.ref C) name=some (some (.ref f))) (c:PySem.W.isFn K (.ref f)=true) (hv:mA name=none) (h:Q (.ref f,[.ref x]) s) :
  wpAny (model prog w) A (getMethod (.ref x) name pl) Q E s:=by
 obtain⟨od,J,hl⟩:=I.look;show PySem.W.method_fn X J (X8 a).1 (X8 a).2 b (Yw.mp c) (by show(PySem.W.lookIn name od).map (·.isSome)=some false;rw[hl,hv];rfl) h
theorem set_map{ns:LS}{Q:Unit->Shared->Prop}(X:K.In s.heap)(I:ObjM s.heap x dx C mA)
  (o:PySem.W.findIn K (.ref C) "__setattr__"=some (some (.builtin "object.__setattr__"))) (n:PySem.W.plainOver K C=true) (p:PySem.W.takerIn K C name=some none) (m:PySem.W.hasDictIn K C=true)
  (hw:PySem.Within mA ns) (hsz:ns.length<=sizeLine)
  (h:∀ h',ObjM h' x dx C (fun y=>if y=name then some v else mA y)->Heap.SameBut dx s.heap h'->Q () { s with heap:=h',toks:=s.toks+2 }) :
  wpAny (model prog w) A (setAttr (.ref x) name v) Q E s:=by
 obtain⟨od,J,hl⟩:=I.look;show PySem.W.set_plain X J o (PySem.W.osa_open (s:={ s with toks:=s.toks+1 }) (r:=none) X J n p fun b=>?_);obtain⟨t,hc,f⟩:=xZ m;have q:s.heap.get? x=some ⟨.ref C,some dx,.plain,#[]⟩:=I.obj;show yr (yw (yr (yr (wpAny_loadPart q (yr (PySem.W.Looks.here (s:={ s with toks:=s.toks+1 }) (X9 X hc) ?_))))));rw[f];show yw (a:=some dx) (yr (yw (yr ?_)));show wpAny_nsSet1 (s:={ s with toks:=s.toks+1 }) I.ns fun h' c d=>?_;obtain⟨u,l,j,i,g,e⟩:=c.count (PySem.Within.cons name v hw);show yr (wpAny_lookBehind i (by rw[g];show pastItsLine_dict (yi e (by rw[yF];lk))) ?_);show yw (h _ ⟨(d.2 _ (Yo I.ne)).trans I.obj,c,I.ne⟩ d)
theorem make_map{R:Result->Shared->Prop}{vs:List Value}(X:K.In s.heap)(c:PySem.W.makesIn K C=true)
  (b:PySem.W.findIn K (.ref C) "__init__"=some (some (.ref f))) (a:PySem.W.typeIn K (.ref f)=some (.type "function"))
  (h:codeAny (model prog w) (A.under (.builtin "type.__call__" ⟨.ref C::vs,kw⟩)) (.call (.ref f) ⟨.ref (s.heap.objs.size+1)::vs,kw⟩) (PySem.W.InitBack (s.heap.objs.size+1) R)
   { s with heap:=(s.heap.push PySem.W.emptyDict).push (PySem.W.instObj C s.heap.objs.size) }) :
  codeAny (model prog w) A (.call (.ref C) ⟨vs,kw⟩) R s:=by
 obtain⟨e,g,d,t,i⟩:=s;show PySem.W.make_core (PySem.W.makes_of X c) (xl X b) (fun self=>PySem.W.bind_fn X self a) (.inl rfl) h
end
noncomputable def qI(f:Str)(v:V):List (Str×V)->List (Str×V)
 | []=>[(f,v)]
 | (g,x)::r=>if g=f then(g,v)::r else(g,x)::qI f v r
theorem qD(f g:Str)(v:V):∀ fs:List (Str×V),(qI f v fs).lookup g=if g=f then some v else fs.lookup g
 | []=>by
  show List.lookup g [(f,v)]=_;by_cases h:g=f
  .have a:(g==f)=true:=Yw.mpr h;simp only[List.lookup,a,yG h]
  .have a:(g==f)=false:=YV.mpr h;simp only[List.lookup,a,yA h]
 | (k,x)::r=>by
  have c:=qD f g v r;rw[show qI f v ((k,x)::r)=(if k=f then(k,v)::r else(k,x)::qI f v r) from rfl];by_cases b:k=f
  .rw [yG b];by_cases h:g=k
   .have a:(g==k)=true:=Yw.mpr h;simp only[List.lookup,a,yG (h.trans b)]
   .have a:(g==k)=false:=YV.mpr h;simp only[List.lookup,a,yA (fun e:g=f=>h (e.trans b.symm))]
  .rw [yA b];by_cases h:g=k
   .have a:(g==k)=true:=Yw.mpr h;simp only[List.lookup,a,yA (fun e:g=f=>b (h.symm.trans e))]
   .have a:(g==k)=false:=YV.mpr h;simp only[List.lookup,a];show c
theorem qbH(f:Str)(v:V):∀ fs:List (Str×V),f∈(qI f v fs).map (·.1)/\∀ g,g∈fs.map (·.1)->g∈(qI f v fs).map (·.1)
 | []=>⟨by simp[qI],fun g h=>by simp at h⟩
 | (k,x)::r=>by
  obtain⟨b,c⟩:=qbH f v r;rw[show qI f v ((k,x)::r)=(if k=f then(k,v)::r else(k,x)::qI f v r) from rfl];by_cases a:k=f
  .rw [yG a];subst a;show⟨by simp,fun g h=>by simpa using h⟩
  .rw [yA a];show⟨?_,fun g h=>?_⟩
   .rw [YD];show yz _ b
   .rw [YD] at h ⊢;rcases yy.mp h with e | e
    .show yy.mpr (.inl e)
    .show yz _ (c g e)
theorem jA(f:Str)(v:V):∀ fs:List (Str×V),(qI f v fs).length<=fs.length+1
 | []=>by simp[qI]
 | (k,x)::r=>by
  have b:=jA f v r;rw[show qI f v ((k,x)::r)=(if k=f then(k,v)::r else(k,x)::qI f v r) from rfl];by_cases a:k=f
  .rw [yG a,yF,yF];lk
  .rw [yA a,yF,yF];lk
theorem RelO.some_of{o:Option Value}(r:RelO (some v) o):∃ u,o=some u/\RelV v u:=by
 cases o with
 | none=>show(show False from r).elim
 | some u=>show⟨u,rfl,r⟩
theorem RelO.none_of{o:Option Value}(r:RelO none o):o=none:=by
 cases o with
 | none=>rfl
 | some u=>show(show False from r).elim
theorem qcD(r:RelV v u):PySem.W.handedIn u=true:=by
 cases v with
 | non=>cases (show u=Value.none from r);rfl
 | bl b=>cases (show u=Value.bool b from r);rfl
 | int i=>obtain⟨t,e⟩:=(show ∃ t,u=Value.int i t from r);cases e;rfl
 | str x=>obtain⟨t,e⟩:=(show ∃ t,u=Value.str x t from r);cases e;rfl
 | byt b=>obtain⟨t,e⟩:=(show ∃ t,u=Value.bytes b t from r);cases e;rfl
 | flt b=>obtain⟨t,e⟩:=(show ∃ t,u=Value.float b t from r);cases e;rfl
 | ref a=>cases (show u=Value.ref a from r);rfl
 | ty n=>cases (show u=Value.type n from r);rfl
section
variable{P:Program}{w:World}{H H':Hp}{h h':Heap}{a C dx:Addr}{fs fs':List (Str×V)}
theorem qbb(b:HOk P w H h)(e:H a=some (.ins C dx fs)):∃ mA,ObjM h a dx C mA/\(∀ f,RelO (fs.lookup f) (mA f))/\PySem.Within mA (fs.map (·.1))/\fs.length<=1000/\H dx=some (.own a):=by
 obtain⟨d,z,ne,c,mA,n,r,q⟩:=(show ObjOk P w H h a (.ins C dx fs) from b a _ e);show⟨mA,⟨c,n,ne⟩,r,q,z,d⟩
end
structure Cls(K:yg)(C:Addr):Prop where
 pg:PySem.W.plainGet K C Str.empty=true
 hd:PySem.W.hasDictIn K C=true
 po:PySem.W.plainOver K C=true
 sa:PySem.W.findIn K (.ref C) "__setattr__"=some (some (.builtin "object.__setattr__"))
theorem Cls.get{K:yg}(c:Cls K C)(f:Str):PySem.W.plainGet K C f=true:=c.pg
def NoAttr(K:yg)(C:Addr)(f:Str):Prop:=PySem.W.findIn K (.ref C) f=some none
theorem NoAttr.taker{K:yg}{f:Str}(n:NoAttr K C f):PySem.W.takerIn K C f=some none:=by
 unfold PySem.W.takerIn;rw[show PySem.W.findIn K (.ref C) f=some none from n];rfl
structure Con(K:yg)(C:Addr)(f:Str)(v:V)(u:Value):Prop where
 at_:PySem.W.findIn K (.ref C) f=some (some u)
 rel:RelV v u
 get:PySem.W.specialIn K u "__get__"=some none
 cp:PySem.W.copiedNames.contains f=false
structure Meth(K:yg)(C:Addr)(m:Str)(f:Addr):Prop where
 at_:PySem.W.findIn K (.ref C) m=some (some (.ref f))
 fn:PySem.W.isFn K (.ref f)=true
 kp:PySem.W.keepIn K (.ref f)=true
section
variable{X:Cx}{pins:List (Addr×Obj)}{σ:St}{H:Hp}{s:Shared}{a C dx:Addr}{fs:List (Str×V)}{f:Str}{v:V}{A:Around}{E:Value->Shared->Prop}
theorem getattr_ok{b:Bool}{Q:Value->Shared->Prop}(I:Inv X pins σ H s)(e:H a=some (.ins C dx fs))(c:Cls X.K C)(n:NoAttr X.K C f)(l:fs.lookup f=some v)
  (h:∀ u s',Inv X pins σ H s'->RelV v u->Q u s'):wpAny (model X.prog X.w) A (getAttr (.ref a) f b) Q E s:=by
 obtain⟨mA,O,r,_,_,_⟩:=qbb I.hok e;obtain⟨u,g,d⟩:=RelO.some_of (v:=v) (o:=mA f) (by rw[<- l];show r f);show get_map I.kIn O (c.get f) c.hd n g (qcD d) (h u _ (I.tok _) d)
theorem qb3{m:Str}{g:Addr}{Q:Value×List Value->Shared->Prop}(I:Inv X pins σ H s)(e:H a=some (.ins C dx fs))(c:Cls X.K C)(k:Meth X.K C m g)(l:fs.lookup m=none)
  (h:Q (.ref g,[.ref a]) s):wpAny (model X.prog X.w) A (getMethod (.ref a) m pl) Q E s:=by
 obtain⟨mA,O,r,_,_,_⟩:=qbb I.hok e;have b:mA m=none:=RelO.none_of (by rw[<- l];show r m);show get_meth I.kIn O (c.get m) k.at_ k.fn b h
theorem setattr_ok{Q:Unit->Shared->Prop}(I:Inv X pins σ H s)(e:H a=some (.ins C dx fs))(c:Cls X.K C)(n:NoAttr X.K C f)(hl:fs.length<1000)(t:RelV y u)
  (h:∀ s',Inv X pins σ (upd H a (.ins C dx (qI f y fs))) s'->Q () s'):wpAny (model X.prog X.w) A (setAttr (.ref a) f u) Q E s:=by
 obtain⟨mA,O,r,j,_,i⟩:=qbb I.hok e;have hz:(fs.map (·.1)).length<=sizeLine:=by rw[ya,YF];lk
 show set_map I.kIn O c.sa c.po n.taker c.hd j hz fun h' d v=>h _ ?_;have m:∃ o,h'.get? dx=some o:=let ⟨o,_,_,e',_⟩:=d.ns;⟨o,e'⟩;show I.write (x:=a) (e:=dx) (by rw[e];show Y4) (.inr i) (fun b q l z=>(v.2 b l).trans z) m ?_;show⟨by rw[qf O.ne];show i,?_,O.ne,d.obj,_,d.ns,fun g=>?_,fun g p=>?_⟩
 .have:=jA f y fs;lk
 .show RelO ((qI f y fs).lookup g) (if g=f then some u else mA g);rw[qD];by_cases q:g=f
  .rw [yG q,yG q];show t
  .rw [yA q,yA q];show r g
 .by_cases q:g=f
  .rw [q];show(qbH f y fs).1
  .show(qbH f y fs).2 g (j g fun z=>p ?_);show(if g=f then some u else mA g)=none;rw[yA q];show z
theorem Inv.made(I:Inv X pins σ H s):Inv X pins σ (upd (upd H s.heap.objs.size (.own (s.heap.objs.size+1))) (s.heap.objs.size+1) (.ins C s.heap.objs.size []))
  { s with heap:=(s.heap.push PySem.W.emptyDict).push (PySem.W.instObj C s.heap.objs.size) }:=by
 have c:(s.heap.push PySem.W.emptyDict).get? s.heap.objs.size=some PySem.W.emptyDict:=yZ s.heap rfl
 have f:((s.heap.push PySem.W.emptyDict).push (PySem.W.instObj C s.heap.objs.size)).get? (s.heap.objs.size+1)=some (PySem.W.instObj C s.heap.objs.size):=by
  have:=yZ (s.heap.push PySem.W.emptyDict) (o:=PySem.W.instObj C s.heap.objs.size) rfl
  rwa[xz] at this
 have g:(s.heap.push PySem.W.emptyDict).Ns s.heap.objs.size (fun _=>none):=⟨PySem.W.emptyDict,#[],_,c,rfl,(fun e h=>absurd h (by simp)),fun _=>rfl⟩;have d:=I.laid (a:=s.heap.objs.size) (o:=.own (s.heap.objs.size+1)) (h':=s.heap.push PySem.W.emptyDict) (t':=s.toks) (fun b u q=>yv _ q) (yh _) ⟨_,c⟩;show d.laid (a:=s.heap.objs.size+1) (o:=.ins C s.heap.objs.size []) (t':=s.toks) (fun b u q=>yv _ q) (kh (xz _ _)) ?_;have ne:s.heap.objs.size≠s.heap.objs.size+1:=yL (XW _);show⟨by rw[qf ne,qb],YS _,ne,f,fun _=>none,(Heap.Ns1.of_empty g).at fun o q=>yv _ q,fun _=>Y4,fun y i=>absurd rfl i⟩
theorem attr_of{prog:Program}{env:Env}{f:Str}{Q:Value->Shared->Prop}(b:attributeBase e f env (eval e env)=eval e env)
  (h:wpAny (model prog w) A (eval e env) (fun o a=>wpAny (model prog w) A (getAttr o f true) Q E a) E s):wpAny (model prog w) A (eval (.Attribute e f pos) env) Q E s:=
 Attribute_any_ h (by rw[arm_eval_Attribute,b])
end
section
variable{X:Cx}{o e value:Expr}{f:Str}{pos pos' tpos:Pos}{ta tv:TE}
end
section
variable{X:Cx}{pins:List (Addr×Obj)}{σ:St}{H:Hp}{s:Shared}{A:Around}{E:Value->Shared->Prop}{Q:Value->Shared->Prop}{c:Value}{b:Bool}
inductive TyOf(K:yg)(H:Hp):V->Value->Prop where
 | non:TyOf K H .non (.type "NoneType")
 | bl (x:Bool):TyOf K H (.bl x) (.type "bool")
 | int (i:Int):TyOf K H (.int i) (.type "int")
 | str (x:Str):TyOf K H (.str x) (.type "str")
 | flt (x:UInt64):TyOf K H (.flt x) (.type "float")
 | lst {a:Addr} {xs:List V} (e:H a=some (.lst xs)):TyOf K H (.ref a) (.type "list")
 | frz {a:Addr} {o:Obj} {xs:List V} (e:H a=some (.frz o (.lst xs))):TyOf K H (.ref a) (.type "list")
 | tup {a:Addr} {xs:List V} (e:H a=some (.tup xs)):TyOf K H (.ref a) (.type "tuple")
 | dK {a:Addr} {kvs:List (Key×V)} (e:H a=some (.dK kvs)):TyOf K H (.ref a) (.type "dict")
 | dT {a:Addr} {kvs:List (List Key×V)} (e:H a=some (.dT kvs)):TyOf K H (.ref a) (.type "dict")
 | ins {a C dx:Addr} {fs:List (Str×V)} (e:H a=some (.ins C dx fs)) (cl:Cls K C) (ha:PySem.W.findIn K (.ref C) "__class__"=some (some (.builtin "object.__class__")))
   (hn:PySem.W.specialIn K (.builtin "object.__class__") "__get__"=some (some (.builtin "getset_descriptor.__get__"))) (htk:PySem.W.takesIn K (.builtin "object.__class__")=some true)
   (hm:PySem.W.mroIn K C (.type "object")=some true):TyOf K H (.ref a) (.ref C)
end
structure Room(k:Nat)(A:Around):Prop where
 hd:A.handled=none
 dp:A.depth+3*k+5<recursionLimit
 un:A.units+16*k+200<cLine
 gd:A.guards=some []
theorem Room.mono{k:Nat}(r:Room k A)(h:j<=k):Room j A:=⟨r.hd,by have:=r.dp;lk,by have:=r.un;lk,r.gd⟩
theorem Room.deeper{k:Nat}(r:Room (k+1) A)(env:Env):Room k (A.deeper env):=
 ⟨r.hd,by have:=r.dp;show A.depth+1+3*k+5<_;lk,by have:=r.un;show A.units+3+16*k+200<_;lk,r.gd⟩
theorem make_depth:(A.under (.builtin "type.__call__" ⟨.ref C::us,kw⟩)).depth=A.depth+1:=by
 first | rfl | simp[Around.under,Code.weight,Code.isCreation,Code.isGuard,Code.isCaller,Code.frames,Code.isFrame,guardIds]
theorem make_units:(A.under (.builtin "type.__call__" ⟨.ref C::us,kw⟩)).units=A.units+1:=by
 first | rfl | simp[Around.under,Code.cUnits,Code.frames,Code.isFrame]
theorem make_guards:(A.under (.builtin "type.__call__" ⟨.ref C::us,kw⟩)).guards=A.guards:=by
 first | rfl | simp[Around.under,Code.guards,Code.isGuard,guardIds,pushGuards]
theorem Room.make{k:Nat}(r:Room (k+1) A)(C:Addr)(us:List Value)(kw:List (Str×Value)):Room k (A.under (.builtin "type.__call__" ⟨.ref C::us,kw⟩)):=
 ⟨r.hd,by have:=r.dp;rw[make_depth];lk,by have:=r.un;rw[make_units];lk,by rw[make_guards];show r.gd⟩
theorem Room.depth{k:Nat}(r:Room k A):A.depth<recursionLimit:=by have:=r.dp;lk
def qgE:TA:=fun _ H Q=>Q [] H
def qgg(ta:TE)(c:TA):TA:=fun σ H Q=>ta σ H fun x a=>c σ a fun xs b=>Q (x::xs) b
section
variable{X:Cx}{e:Expr}{es:List Expr}{te:TE}{t:TA}{pos:Pos}
theorem qd:PA X [] qgE:=fun _ _ _ _ H Q I h=>kx ⟨[],H,I,.nil,h⟩
theorem qa(f:PE X e te)(g:PA X es t)(i:starEach (e::es) X.env=(false,eval e X.env)::starEach es X.env:=by rfl):PA X (e::es) (qgg te t):=by
 intro pos pins s σ H Q I h;rw[i];show wpAny _ _ (spliced ((false,eval e X.env)::backTo pos (starEach es X.env))) _ _ s;show kj (thn (f pins s σ H _ I h) fun u o ⟨x,a,c,m,j⟩=>?_);show thn (g pos pins o σ a _ c j) fun us p ⟨xs,b,d,n,l⟩=>⟨x::xs,b,d,.cons m n,l⟩
def qg1(t:TA):TE:=fun σ H Q=>t σ H fun xs a=>xs.length<=sizeLine/\∀ p,a p=none->Q (.ref p) (upd a p (.tup xs))
def qg2(t:TA):TE:=fun σ H Q=>t σ H fun xs a=>xs.length<=sizeLine/\∀ p,a p=none->Q (.ref p) (upd a p (.lst xs))
theorem jO{x1}(h:PA X es t):PE X (.Tuple es x1 pos) (qg1 t):=by
 intro pins s σ H Q I g;show wpAny_Tuple_spliced (thn (h pos pins s σ H _ I g) fun us a ⟨xs,c,d,r,z,q⟩=>⟨by rw[<- r.length];show z,?_⟩);have f:c a.heap.objs.size=none:=d.hok.fresh (yh _);show⟨.ref a.heap.objs.size,upd c a.heap.objs.size (.tup xs),d.laid (t':=a.toks) (fun b u e=>yv _ e) (yh _) ?_,rfl,q _ f⟩;show⟨z,us,r,⟨_,yZ _ rfl,rfl,_,rfl⟩⟩
theorem qW(h:PA X es t):PE X (.List es pos) (qg2 t):=by
 intro pins s σ H Q I g;show wpAny_List_spliced (thn (h pos pins s σ H _ I g) fun us a ⟨xs,c,d,r,z,q⟩=>⟨by rw[<- r.length];show z,?_⟩);have f:c a.heap.objs.size=none:=d.hok.fresh (yh _);show⟨.ref a.heap.objs.size,upd c a.heap.objs.size (.lst xs),d.laid (t':=a.toks) (fun b u e=>yv _ e) (yh _) ?_,rfl,q _ f⟩;show⟨z,us,0,r,yZ _ rfl⟩
end
abbrev Sp:=List V->Hp->VK->XK->Prop
abbrev CXT:=List Env->Hp->Shared->XK->Value->Shared->Prop
structure Env0(P:Program)(w:World)(K:yg)(mg:Str->Option Value)(base:Heap)(A:Around)(outer:List Env)(s:Shared)(H:Hp):Prop where
 frames:A.frames=some outer
 mod:Mod K mg base
 bs:∀ b o,base.get? b=some o->s.heap.get? b=some o/\H b=none
 bsz:base.objs.size<=s.heap.objs.size
 funs:s.heap.FunFrames base outer
 frf:∀ b∈frs outer,H b=none
 hok:HOk P w H s.heap
 bare:AllBare s.gens
def CE(outer:List Env)(P:Program)(w:World)(H:Hp)(s:Shared)(Q:VK)(u:Value)(s':Shared):Prop:=
 ∃ v H',s'.os=s.os/\AllBare s'.gens/\Un (frs outer) [] H H' s.heap s'.heap/\HOk P w H' s'.heap/\RelV v u/\Q v H'
def CR(CX:CXT)(outer:List Env)(P:Program)(w:World)(H:Hp)(s:Shared)(Q:VK)(E:XK)(r:Result)(s':Shared):Prop:=
 match r with
 | .ok (.ret u)=>CE outer P w H s Q u s'
 | .ok _=>False
 | .error e=>CX outer H s E e s'
structure FnOk(P:Program)(w:World)(K:yg)(mg:Str->Option Value)(base:Heap)(CX:CXT)(k:Nat)(f:Addr)(fd:FuncData)(ps:LS)(sp:Sp):Prop where
 len:∀ vs H Q E,sp vs H Q E->vs.length=ps.length
 run:∀(A:Around) (outer:List Env) (s:Shared) (H:Hp) (args:Args) (us:List Value) (vs:List V) (Q:VK) (E:XK),Room k A->Env0 P w K mg base A outer s H->BindsTo s fd args (ps.zip us)->Vals vs us->sp vs H Q E ->
  codeAny (model P w) A (.call (.ref f) args) (CR CX outer P w H s Q E) s
theorem Env0.make{K:yg}(e:Env0 P w K mg base A outer s H)(C:Addr)(us:List Value)(kw:List (Str×Value)) :
  Env0 P w K mg base (A.under (.builtin "type.__call__" ⟨.ref C::us,kw⟩)) outer s H:=⟨by first | show e.frames | (simpa [Around.under,Code.envs,Code.isFrame,pushEnvs] using e.frames),e.mod,e.bs,e.bsz,e.funs,e.frf,e.hok,e.bare⟩
section
variable{X:Cx}{pins:List (Addr×Obj)}{σ:St}{H:Hp}{s s':Shared}
theorem Inv.env0(I:Inv X pins σ H s):Env0 X.prog X.w X.K X.mg X.base X.A X.stack s H:=
 ⟨I.ok.frames,I.ok.mod,I.bs,yi I.ok.bsz I.sz,I.stack,I.stkFree,I.hok,I.bare⟩
theorem Inv.after{Q:VK}(I:Inv X pins σ H s)(h:CE X.stack X.prog X.w H s Q u s'):EP X pins σ Q u s':=by
 obtain⟨v,H',i,a,un,c,r,q⟩:=h;obtain⟨f,g,d,t,e⟩:=s';obtain rfl:e=s.os:=i;show⟨v,H',I.call (h':=f) (g':=g) (d':=d) (t':=t) (ch:=[]) un c a (fun b z=>absurd z (by simp)),r,q⟩
end
def qfR(sp:Sp)(a:List V)(E:XK)(t:TA):TE:=fun σ H Q=>t σ H fun vs b=>sp (vs++a) b Q E
def qer(C:Addr)(m:Str)(sp:Sp)(b:List V)(E:XK)(ta:TE)(t:TA):TE:=fun σ H Q=>ta σ H fun x c=>∃ a dx fs,x=.ref a/\c a=some (.ins C dx fs)/\fs.lookup m=none /\
 t σ c fun vs d=>sp (x::(vs++b)) d Q E
def qfS(C:Addr)(sp:Sp)(b:List V)(E:XK)(t:TA):TE:=fun σ H Q=>t σ H fun vs a=>∀ x dx,a x=none->a dx=none->dx≠x ->
 sp (.ref x::(vs++b)) (upd (upd a dx (.own x)) x (.ins C dx [])) (fun v c=>v=.non/\Q (.ref x) c) E
def Binds(K:yg)(b:FuncData)(ps:LS)(a:List Value):Prop:=
 ∀(s:Shared) (us:List Value),K.In s.heap->(us++a).length=ps.length->BindsTo s b ⟨us,[]⟩ (ps.zip (us++a))
theorem Binds.all{K:yg}{a:FuncData}(h:∀ us:List Value,us.length=ps.length->bindArgs a ⟨us,[]⟩=pure (ps.zip us)):Binds K a ps []:=fun s us _ hl=>by
 rw[Yh] at hl ⊢;show .of_eq (h us hl)
def qbi(CX:CXT)(X:Cx)(E:XK):Prop:=∀(pins:List (Addr×Obj)) (σ:St) (H:Hp) (s:Shared) (e:Value) (s':Shared),Inv X pins σ H s->CX X.stack H s E e s'->X.xe e s'
section
variable{X:Cx}{CX:CXT}{k:Nat}{f C:Addr}{fd:FuncData}{ps:LS}{sp:Sp}{dvs:List V}{ds:List Value}{E:XK}{x m:Str}{p pos apos:Pos}{e o:Expr}{es:List Expr}{ta:TE}{t:TA}
theorem qes{Q:VK}(F:FnOk X.prog X.w X.K X.mg X.base CX k f fd ps sp)(g:Room k X.A)(c:Binds X.K fd ps ds)(d:Vals dvs ds)(i:qbi CX X E)
  (I:Inv X pins σ H s) (r:Vals vs us) (h:sp (vs++dvs) H Q E):wpAny (model X.prog X.w) X.A (call (.ref f) us) (EP X pins σ Q) X.xe s:=by
 have b:Vals (vs++dvs) (us++ds):=r.append d;have hl:(us++ds).length=ps.length:=by rw[<- b.length];show F.len _ _ _ _ h
 show km (kR (F.run X.A X.stack s H ⟨us,[]⟩ (us++ds) (vs++dvs) Q E g I.env0 (c s us I.kIn hl) b h) fun r s' a=>?_)
 cases r with
 | error e=>show i pins σ H s e s' I a
 | ok fl =>
  cases fl with
  | ret u=>show I.after a
  | next=>show False.elim a
  | brk=>show False.elim a
  | cont=>show False.elim a
theorem pe_call(F:FnOk X.prog X.w X.K X.mg X.base CX k f fd ps sp)(o:Room k X.A)(l:Gl X x)(n:X.mg x=some (.ref f))(m:PySem.W.keepIn X.K (.ref f)=true)(g:Binds X.K fd ps ds)(i:Vals dvs ds)(u:qbi CX X E)
  (d:PA X (e::es) t) (a:(x==("__debug__":Str))=false:=by decide) (j:starEach (e::es) X.env=(false,eval e X.env)::starEach es X.env:=by rfl) (b:(backTo pos (starEach es X.env)).any (·.1)=false:=by rfl) :
  PE X (.Call (.Name x p) (e::es) [] pos) (qfR sp dvs E t):=by
 intro pins s σ H Q I h;show XD (qdb I l n ?_ a);show kn (h₀:=X.base) I.ok.mod.kin m (thn (d pos pins s σ H _ I h) fun us y ⟨vs,v,c,r,q⟩=>⟨c.kIn,?_⟩) j b;show qes F o g i u c r q
theorem pe_meth(B:PE X o ta)(c:Cls X.K C)(j:Meth X.K C m f)(F:FnOk X.prog X.w X.K X.mg X.base CX k f fd ps sp)(D:Room k X.A)(y:Binds X.K fd ps ds)(z:Vals dvs ds)(J:qbi CX X E)(v:PA X (e::es) t)
  (d:starEach (e::es) X.env=(false,eval e X.env)::starEach es X.env:=by rfl) (b:(backTo pos (starEach es X.env)).any (·.1)=false:=by rfl)
  (G:eval (.Call (.Attribute o m apos) (e::es) [] pos) X.env=(do
   let ov <- eval o X.env
   standAt apos.atName
   let (f,first) <- holding [ov] (getMethod ov m pl)
   callWith pos f first (backTo pos (starEach (e::es) X.env)) (backToKw pos (keywordEach [] X.env))):=by rfl) :
  PE X (.Call (.Attribute o m apos) (e::es) [] pos) (qer C m sp dvs E ta t):=by
 intro pins s σ H Q I h;show PySem.W.methodCall_KW (pl:=pl) (thn (B pins s σ H _ I h) fun u N ⟨x,n,g,M,a,dx,fs,ex,p,l,q⟩=>?_) G;subst ex;obtain rfl:u=Value.ref a:=M;show qb3 g p c j l ?_;show kn (first:=[.ref a]) (h₀:=X.base) I.ok.mod.kin j.kp (thn (v pos pins N σ n _ g q) fun us P ⟨vs,O,i,r,L⟩=>⟨i.kIn,?_⟩) d b;show qes (us:=.ref a::us) (vs:=.ref a::vs) F D y z J i (.cons rfl r) L
theorem pe_meth0(j:PE X o ta)(c:Cls X.K C)(d:Meth X.K C m f)(F:FnOk X.prog X.w X.K X.mg X.base CX k f fd ps sp)(n:Room k X.A)(g:Binds X.K fd ps ds)(i:Vals dvs ds)(r:qbi CX X E)
  (p:eval (.Call (.Attribute o m apos) [] [] pos) X.env=(do
   let ov <- eval o X.env
   standAt apos.atName
   let (f,first) <- holding [ov] (getMethod ov m pl)
   callWith pos f first (backTo pos (starEach [] X.env)) (backToKw pos (keywordEach [] X.env))):=by rfl) :
  PE X (.Call (.Attribute o m apos) [] [] pos) (qer C m sp dvs E ta qgE):=by
 intro pins s σ H Q I h;show PySem.W.methodCall_KW (pl:=pl) (thn (j pins s σ H _ I h) fun u y ⟨x,v,b,t,a,dx,fs,ex,e,l,q⟩=>?_) p;subst ex;obtain rfl:u=Value.ref a:=t;show qb3 b e c d l ?_;show PySem.W.callWith_K0 (first:=[.ref a]) b.kIn d.kp (qes (us:=[.ref a]) (vs:=[.ref a]) F n g i r b (.cons rfl .nil) q)
structure Mk(K:yg)(C f:Addr):Prop where
 makes:PySem.W.makesIn K C=true
 init:PySem.W.findIn K (.ref C) "__init__"=some (some (.ref f))
 fn:PySem.W.isFn K (.ref f)=true
 kp:PySem.W.keepIn K (.ref C)=true
theorem run_make{Q:VK}(M:Mk X.K C f)(F:FnOk X.prog X.w X.K X.mg X.base CX k f fd ps sp)(n:Room (k+1) X.A)(l:Binds X.K fd ps ds)(m:Vals dvs ds)
  (o:qbi CX X E) (I:Inv X pins σ H s) (r:Vals vs us)
  (h:∀ x dx,H x=none->H dx=none->dx≠x->sp (.ref x::(vs++dvs)) (upd (upd H dx (.own x)) x (.ins C dx [])) (fun v g=>v=.non/\Q (.ref x) g) E) :
  wpAny (model X.prog X.w) X.A (call (.ref C) us) (EP X pins σ Q) X.xe s:=by
 have c:=h (s.heap.objs.size+1) s.heap.objs.size (I.hok.fresh (xL _)) (I.hok.fresh (yh _)) (yL (XW _));have b:=Inv.made (C:=C) I;have d:Vals (V.ref (s.heap.objs.size+1)::(vs++dvs)) (Value.ref (s.heap.objs.size+1)::(us++ds)):=.cons rfl (r.append m)
 have hl:(Value.ref (s.heap.objs.size+1)::us++ds).length=ps.length:=by
  have e:=d.length;rw[F.len _ _ _ _ c] at e;show e.symm
 show km (make_map (f:=f) I.kIn M.makes M.init (Yw.mp M.fn) (kR (F.run _ X.stack _ _ ⟨Value.ref (s.heap.objs.size+1)::us,[]⟩ (Value.ref (s.heap.objs.size+1)::(us++ds)) _ _ E (n.make C us [])
  (b.env0.make C us []) (l _ (Value.ref (s.heap.objs.size+1)::us) b.kIn hl) d c) fun r s' a=>?_))
 cases r with
 | error e=>show o pins σ _ _ e s' b a
 | ok fl =>
  cases fl with
  | ret u =>
   obtain⟨v,H',i,q,j,p⟩:=b.after a;subst j;show⟨q,⟨V.ref (s.heap.objs.size+1),H',i,rfl,p⟩⟩
  | next=>show False.elim a
  | brk=>show False.elim a
  | cont=>show False.elim a
theorem pe_make(M:Mk X.K C f)(F:FnOk X.prog X.w X.K X.mg X.base CX k f fd ps sp)(n:Room (k+1) X.A)(l:Gl X x)(m:X.mg x=some (.ref C))(g:Binds X.K fd ps ds)(i:Vals dvs ds)(o:qbi CX X E)
  (d:PA X (e::es) t) (a:(x==("__debug__":Str))=false:=by decide) (j:starEach (e::es) X.env=(false,eval e X.env)::starEach es X.env:=by rfl) (b:(backTo pos (starEach es X.env)).any (·.1)=false:=by rfl) :
  PE X (.Call (.Name x p) (e::es) [] pos) (qfS C sp dvs E t):=by
 intro pins s σ H Q I h;show XD (qdb I l m ?_ a);show kn (h₀:=X.base) I.ok.mod.kin M.kp (thn (d pos pins s σ H _ I h) fun us v ⟨vs,u,c,r,q⟩=>⟨c.kIn,?_⟩) j b;show run_make M F n g i o c r q
end
section
variable{X:Cx}{CX:CXT}{k:Nat}{f C:Addr}{fd:FuncData}{ps ks:LS}{sp:Sp}{E:XK}{x m:Str}{p pos apos kpos:Pos}{e o:Expr}{es:List Expr}{kws:List Keyword}{te ta:TE}{t tk:TA}{nm:Option Str}
structure KBinds(K:yg)(fd:FuncData)(ps ks:LS)(g:List Value->List Value->List Value)(gV:List V->List V->List V):Prop where
 to:∀(s:Shared) (us ws:List Value),K.In s.heap->(g us ws).length=ps.length->BindsTo s fd ⟨us,ks.zip ws⟩ (ps.zip (g us ws))
 rel:∀{vs:List V} {us:List Value} {zs:List V} {ws:List Value},Vals vs us->Vals zs ws->Vals (gV vs zs) (g us ws)
variable{g:List Value->List Value->List Value}{gV:List V->List V->List V}
end
structure FnScope(N P:LS)(sc:Scope):Prop where
 kind:sc.kind=.function
 co:sc.isCoroutine=false
 gen:sc.isGenerator=false
 nd:N.Nodup
 pre:N.take P.length=P
 par:∀ x∈P,sc.names.lookup x=some .local\/sc.names.lookup x=some .cell
 nofree:∀ y∈sc.names,y.2≠.free
theorem fS{P:LS}(a:sc.kind=.function:=by rfl)(b:sc.isCoroutine=false:=by rfl)(c:sc.isGenerator=false:=by rfl)(d:N.Nodup:=by room)(e:N.take P.length=P:=by rfl)(f:∀ x∈P,sc.names.lookup x=some .local\/sc.names.lookup x=some .cell:=by room)(g:∀ y∈sc.names,y.2≠.free:=by room):FnScope N P sc:=⟨a,b,c,d,e,f,g⟩
theorem qcE:∀{binds:List (Str×Value)} {m:Str->Option Value},(∀ v,(x,v)∉binds)->bindL kindOf binds m x=m x
 | [],_,_=>rfl
 | (n,v)::r,m,h=>by
  unfold bindL;rw[qcE fun w hw=>h w (yz _ hw)];split
  .have:x≠n:=by rintro rfl;show h v yO
   simp[this]
  .rfl
theorem qcF:∀{binds:List (Str×Value)} {m:Str->Option Value},(∀ v,(x,v)∉binds)->bindC kindOf binds m x=m x
 | [],_,_=>rfl
 | (n,v)::r,m,h=>by
  unfold bindC;rw[qcF fun w hw=>h w (yz _ hw)];split
  .rfl
  .have:x≠n:=by rintro rfl;show h v yO
   simp[this]
theorem qcG{v:Value}:∀{P:LS} {vs:List Value} {i:Nat} {m:Str->Option Value},P.Nodup->P[i]?=some x->vs[i]?=some v->kindOf x=some .local ->
  bindL kindOf (P.zip vs) m x=some v
 | [],_,_,_,_,h,_,_=>by simp at h
 | _::_,[],_,_,_,_,h,_=>by simp at h
 | p::P,w::vs,0,m,nd,h1,h2,hk=>by
  simp at h1 h2;subst h1;subst h2;show bindL kindOf ((p,w)::P.zip vs) m p=_;unfold bindL;rw[qcE fun v hv=>(yo.mp nd).1 (kW hv).1,yG hk];simp
 | p::P,w::vs,i+1,m,nd,h1,h2,hk=>by
  show bindL kindOf ((p,w)::P.zip vs) m x=_;unfold bindL;show qcG (i:=i) (yo.mp nd).2 (by simpa using h1) (by simpa using h2) hk
theorem qcH{v:Value}:∀{P:LS} {vs:List Value} {i:Nat} {m:Str->Option Value},P.Nodup->P[i]?=some x->vs[i]?=some v->kindOf x≠some .local ->
  bindC kindOf (P.zip vs) m x=some v
 | [],_,_,_,_,h,_,_=>by simp at h
 | _::_,[],_,_,_,_,h,_=>by simp at h
 | p::P,w::vs,0,m,nd,h1,h2,hk=>by
  simp at h1 h2;subst h1;subst h2;show bindC kindOf ((p,w)::P.zip vs) m p=_;unfold bindC;rw[qcF fun v hv=>(yo.mp nd).1 (kW hv).1,yA hk];simp
 | p::P,w::vs,i+1,m,nd,h1,h2,hk=>by
  show bindC kindOf ((p,w)::P.zip vs) m x=_;unfold bindC;show qcH (i:=i) (yo.mp nd).2 (by simpa using h1) (by simpa using h2) hk
noncomputable def start(N:LS)(vs:List V):St:=vs.map some++List.replicate (N.length-vs.length) none
noncomputable def qf4(CX:CXT)(P:Program)(w:World)(K:yg)(mg:Str->Option Value)(base:Heap)(N:LS)(qual:Str)(scope:Scope)(f:Addr)(b:Value)(A:Around)(outer:List Env)(s:Shared)(H:Hp)(E:XK):Cx where
 prog:=P
 w:=w
 K:=K
 mg:=mg
 base:=base
 A:=A.deeper (envOfC qual scope s.heap.objs.size f b)
 N:=N
 s₀:=s
 H₀:=H
 env:=envOfC qual scope s.heap.objs.size f b
 outer:=outer
 stack:=envOfC qual scope s.heap.objs.size f b::outer
 ex:=[]
 calm:=true
 fn:=fun _=>true
 pn:=[]
 xe:=fun e s'=>wpAny (model P w) (A.deeper (envOfC qual scope s.heap.objs.size f b)) (leaving (envOfC qual scope s.heap.objs.size f b) e) (fun _ a=>CX outer H s E e a) (fun c a=>CX outer H s E c a) s'
theorem qdE(h:sc.names.lookup x=some .cell):∃ c,(cellsFrom n sc.names []).lookup x=some c:=by
 have q:=PySem.W.cellsFrom_some sc.names n [] (.inl h);show xi.mp q
theorem inv_start{K:yg}{f:Addr}{o:Value}{D:Shared}{E:XK}
  (S:FnScope N ps scope) (G:A.handled=none) (g:Env0 P w K mg base A outer s H) (hl:vs.length=ps.length) (r:Vals vs us)
  (x:InCallC s s.heap.objs.size (bindL (envOfC qual scope s.heap.objs.size f o).kindOf (ps.zip us) fun _=>none) (cellsFrom (s.heap.objs.size+1) scope.names []) (bindC (envOfC qual scope s.heap.objs.size f o).kindOf (ps.zip us) fun _=>none) D) :
  Inv (qf4 CX P w K mg base N qual scope f o A outer s H E) [] (start N vs) H D:=by
 have I:ps.length<=N.length:=by have:=congrArg List.length S.pre;rw[yR] at this;lk
 obtain⟨h1,tk,rfl,B⟩:=x.done;have j:∀ b:Addr,b∉(qf4 CX P w K mg base N qual scope f o A outer s H E).ex:=fun b z=>absurd (show b∈([]:LX) from z) (by simp);show⟨⟨g.mod,S.kind,rfl,rfl,yh _,fun y z c h1 d=>?_,fun y hy=>?_,fun y c _ h=>?_,fun _=>G,Around.frames_deeper g.frames,.inr ⟨rfl,rfl⟩,fun b z=>absurd z (j b),g.bs,g.bsz,fun b _ _=>j b,fun b z=>absurd z (j b),g.funs,g.frf⟩,
  rfl,g.bare,Un.kept B,⟨_,x.toInCall.ns,fun i y v h1 d L=>?_⟩,fun y c h=>⟨_,x.cell y c h⟩,g.hok.fresh (yh _),fun y c h=>?_,fun p l=>absurd (show p∈([]:List (Addr×Obj)) from l) (by simp),g.hok.kept B,?_⟩
 .show name_of_addr x.apart (xV h1) (xV d)
 .have hy:scope.names.lookup y=some .cell\/scope.names.lookup y=some .free:=hy;rcases hy with hy | hy
  .show qdE hy
  .show absurd rfl (S.nofree _ (xV hy))
 .show yW (x.above y c (xV h))
 .have t:i<vs.length:=by
   unfold start at d;by_cases t:i<vs.length
   .show t
   .rw [yP (by simpa using t)] at d;rw[x0] at d;split at d<;>cases d
  have F:vs[i]?=some v:=by
   unfold start at d;rw[Yg (by simpa using t),yd] at d
   cases e:vs[i]? with
   | none=>rw[e] at d;cases d
   | some a=>rw[e] at d;cases d;rfl
  obtain⟨u,C,J⟩:=r.get F
  have l:ps[i]?=some y:=by
   rw[<- S.pre,List.getElem?_take_of_lt (by lk)];show h1
  have m:ps.Nodup:=by rw[<- S.pre];show S.nd.sublist (XI _ _)
  show⟨u,J,?_⟩;rcases S.par y (ye l) with k | k
  .show .inl ⟨k,qcG m l C k⟩
  .obtain⟨c,e⟩:=qdE (n:=s.heap.objs.size+1) k;show .inr ⟨.inl k,c,e,?_⟩;have q:=x.cell y c e;rw[qcH m l C (by show scope.names.lookup y≠_;rw[k];decide)] at q;show q
 .show g.hok.fresh (yW (x.above y c (xV h)))
 .unfold start;show _=N.length;rw[yt,ya,YR];lk
theorem fn_of{K:yg}{k:Nat}{f:Addr}{name:Str}{c:Arguments}{O kV j R a ct oc:Value}{M od:Option Addr}
  {F:Array (Option Value)} {sp:Sp} (lk:K.lookup f=some ⟨oc,od,.func (PySem.W.fnOf name qual c body scope O kV j R M a ct),F⟩) (B:PySem.W.codeIn K a qual=true) (S:FnScope N ps scope)
  (z:∀ vs H Q E,sp vs H Q E->vs.length=ps.length)
  (g:∀(A:Around) (outer:List Env) (s:Shared) (H:Hp) (vs:List V) (Q:VK) (E:XK),Room k (A.deeper (envOfC qual scope s.heap.objs.size f a))->sp vs H Q E ->
   ∃ t,PSs (qf4 CX P w K mg base N qual scope f a A outer s H E) body t/\t { nx:=fun _ H'=>Q .non H',rt:=Q } (start N vs) H) :
  FnOk P w K mg base CX (k+1) f (PySem.W.fnOf name qual c body scope O kV j R M a ct) ps sp:=by
 show⟨z,fun A outer s H args us vs Q E C l X r p=>?_⟩;have hl:=z _ _ _ _ p;have L:K.In s.heap:=l.mod.kin.keeps fun b o e=>(l.bs b o e).1;have D:s.heap.NoLimit:=l.mod.nolimit.keeps fun b o e=>(l.bs b o e).1
 have h:∀ y∈ps.zip us,scope.names.lookup y.1=some .local\/(scope.names.lookup y.1=some .cell/\((cellsFrom (s.heap.objs.size+1) scope.names []).lookup y.1).isSome=true):=fun⟨n,v⟩ hy=>by
  rcases S.par n (kW hy).1 with q | q
  .show .inl q
  .show .inr ⟨q,PySem.W.cellsFrom_some _ _ _ (.inl q)⟩
 show codeAny_call_function C.depth (L _ _ lk) rfl S.co S.gen rfl (PySem.W.codeRec_of L B) (X _ _ _ _ ?_);show wpAny_newFunctionEnv_cells S.kind h fun env Y T x=>?_;subst Y;show⟨D.keeps x.toInCall.keep,codeAny_func ?_⟩;obtain⟨t,ht,Z⟩:=g A outer s H vs Q E (C.deeper _) p;have I:Inv (qf4 CX P w K mg base N qual scope f a A outer s H E) [] (start N vs) H T:=inv_start S C.hd l hl r x;show Y3 (ht [] T (start N vs) H _ I Z) (fun U s' i=>?_) fun e s' i=>i
 have m:∀{d:St} {H':Hp} {v:V} {u:Value},Inv (qf4 CX P w K mg base N qual scope f a A outer s H E) [] d H' s'->RelV v u->Q v H'->CE outer P w H s Q u s':=
  fun{d H' v u} J G q=>⟨v,H',J.os,J.bare,J.base,J.hok,G,q⟩
 cases U with
 | ret u =>
  obtain⟨v,d,H',J,G,q⟩:=i;show m J G q
 | next =>
  obtain⟨d,H',J,q⟩:=i;show m (v:=V.non) (u:=Value.none) J rfl q
 | brk =>
  obtain⟨_,_,_,q⟩:=i;show False.elim q
 | cont =>
  obtain⟨_,_,_,q⟩:=i;show False.elim q
section
variable{X:Cx}{x:Str}{p pos:Pos}{e:Expr}{es:List Expr}{t:TA}{id T:String}{r:List V->Hp->VK->Prop}
def tCB(r:List V->Hp->VK->Prop)(t:TA):TE:=fun σ H Q=>t σ H fun vs a=>r vs a Q
theorem qr(hc:qab X (.builtin id) r)(i:Gl X x)(j:X.mg x=none)(hv:bootBuiltins x=some (.builtin id))(f:PA X (e::es) t)(l:x≠"__name__":=by decide)(a:(x==("__debug__":Str))=false:=by decide)
  (g:starEach (e::es) X.env=(false,eval e X.env)::starEach es X.env:=by rfl) (b:(backTo pos (starEach es X.env)).any (·.1)=false:=by rfl):PE X (.Call (.Name x p) (e::es) [] pos) (tCB r t):=by
 intro pins s σ H Q I h;show XD (qaN I i j hv ?_ l a);show PyProof.Rows.callWith_builtin1 (thn (f pos pins s σ H _ I h) fun us o ⟨vs,c,d,n,m⟩=>hc pins o σ c vs us Q d n m) g b
theorem zl(hc:qab X (.type T) r)(i:Gl X x)(j:X.mg x=none)(hv:bootBuiltins x=some (.type T))(f:PA X (e::es) t)(l:x≠"__name__":=by decide)(a:(x==("__debug__":Str))=false:=by decide)
  (g:starEach (e::es) X.env=(false,eval e X.env)::starEach es X.env:=by rfl) (b:(backTo pos (starEach es X.env)).any (·.1)=false:=by rfl):PE X (.Call (.Name x p) (e::es) [] pos) (tCB r t):=by
 intro pins s σ H Q I h;show XD (qaN I i j hv ?_ l a);show YE (thn (f pos pins s σ H _ I h) fun us o ⟨vs,c,d,n,m⟩=>hc pins o σ c vs us Q d n m) g b
end
end L2
namespace HT
open PySem PyProof.Rows
variable{hi lo:Option Int}{sl t:Addr}{vl vu:Value}
section
open PySem.SeqAt
open PySem.AutoSeq1 (wpAny_loadPart')
open PySem.MeetsSeq PySem.MeetsSeq2 PySem.MeetsSeq3
end
section
variable{prog:Program}{w:World}{A:Around}{E:Value->Shared->Prop}{s:Shared}
theorem cat_tup{b:Addr}{vs a:List Value}{Q:Value->Shared->Prop}(u:IsTup s.heap t vs.toArray)(r:IsTup s.heap b a.toArray)(hv:vs≠[])
  (h1:a=[]->Q (.ref t) s) (q:a≠[]->Q (.ref s.heap.objs.size) { s with heap:=s.heap.push { cls:=.type "tuple",data:=.seq (vs++a).toArray } })
  (hsz:vs.length+a.length<=sizeLine):wpAny (model prog w) A (binaryOp .Add (.ref t) (.ref b)) Q E s:=by
 obtain⟨⟨cls,m,data,sl⟩,i,hc,n,o⟩:=id u;obtain⟨⟨l,d,j,h⟩,c,f,p,g⟩:=id r;simp only at hc o f g;subst hc o f g;have e:vs.toArray++a.toArray=(vs++a).toArray:=by simp
 by_cases hw:a=[]
 .show concat_meets ⟨_,i,rfl⟩ ⟨_,c,rfl⟩ noFill_tuple_add seq_tuple_add PySem.F.slot_tuple_add PySem.F.entry_tuple_add (PySem.F.args_tuple_add_2 _ _)
   (tuple_addW1 t b vs.toArray a.toArray n p m d sl h (by simpa using hv) (by simp[hw])) ⟨i,c,h1 hw⟩
 .show concat_meets ⟨_,i,rfl⟩ ⟨_,c,rfl⟩ noFill_tuple_add seq_tuple_add PySem.F.slot_tuple_add PySem.F.entry_tuple_add (PySem.F.args_tuple_add_2 _ _)
   (tuple_addW2 t b vs.toArray a.toArray n p m d sl h (by simpa using hv) (by simpa using hw) (by rw[yx,yx];show hsz)) ⟨i,c,?_⟩
  rw[e];show q hw
noncomputable def sIx(n d:Nat):Option Int->Nat
 | none=>d
 | some v=>if v<0 then(v+(n:Int)).toNat else min v.toNat n
theorem sIx_none(n d:Nat):sIx n d none=d:=rfl
theorem sIx_nat(n d k:Nat):sIx n d (some (k:Int))=min k n:=by
 show(if (k:Int)<0 then((k:Int)+(n:Int)).toNat else min (k:Int).toNat n)=min k n;rw[yA (by lk),y0]
theorem sIx_le(n d:Nat)(a:d<=n)(o:Option Int):sIx n d o<=n:=by
 cases o with
 | none=>show a
 | some v =>
  show(if v<0 then(v+(n:Int)).toNat else min v.toNat n)<=n;by_cases hv:v<0
  .rw [yG hv];lk
  .rw [yA hv];show kG _ _
theorem qet(v:Int)(n d:Nat):(if v<0 then max (v+(n:Int)) 0 else min v (n:Int))=((sIx n d (some v):Nat):Int):=by
 show(if v<0 then max (v+(n:Int)) 0 else min v (n:Int))=(((if v<0 then(v+(n:Int)).toNat else min v.toNat n):Nat):Int);by_cases hv:v<0
 .simp only[yG hv];lk
 .simp only[yA hv];lk
theorem adjust_gen(lo hi:Option Int)(n:Nat):Builtin.Slice.sliceAdjust lo hi 1 (n:Int)=(((sIx n 0 lo:Nat):Int),((sIx n n hi:Nat):Int)):=by
 have h1:¬ ((1:Int)<0):=by lk
 unfold Builtin.Slice.sliceAdjust;simp only[h1,Xa];show Xb ?_ ?_
 .cases lo with
  | none=>rfl
  | some v=>show qet v n 0
 .cases hi with
  | none=>rfl
  | some v=>show qet v n n
theorem places_gen(i j:Nat):Builtin.Slice.slicePlaces (i:Int) (j:Int) 1=j-i:=by
 unfold Builtin.Slice.slicePlaces;have h1:(1:Int)>0:=by lk
 simp only[h1,Xv,Int.ediv_one];split<;>lk
theorem qb4{v:Value}{o:Option Int}{Q:Option Int->Shared->Prop}(p:IsPart v o)(h:Q o s):wpAny (model prog w) A (Builtin.Slice.slicePartIndex v) Q E s:=by
 cases p with
 | none=>show slicePart_none h
 | int i t=>show slicePart_int h
theorem sliceApplied_gen{n:Nat}{Q:Int×Int×Nat->Shared->Prop}(d:s.heap.IsSliceOf sl vl vu .none)(pl:IsPart vl lo)(e:IsPart vu hi)
  (h:Q (((sIx n 0 lo:Nat):Int),1,sIx n n hi-sIx n 0 lo) s):wpAny (model prog w) A (Builtin.Slice.sliceApplied (.ref sl) (pure (n:Int))) Q E s:=by
 obtain⟨f,b,c,a⟩:=id d;unfold Builtin.Slice.sliceApplied Builtin.Slice.sliceFields;show yr (yr (Xg b a (x:=vl) rfl (yr (Xg b a (x:=vu) rfl (yr (Xg b a (x:=.none) rfl (yw ?_)))))));show yr (slicePart_none ?_);show wpAny _ _ (if ((1:Int)==0)=true then _ else _) _ _ s;rw[yA (by decide)];show yr (qb4 pl (yr (qb4 e (yr (yw ?_)))));show wpAny _ _ (match Builtin.Slice.sliceAdjust lo hi 1 (n:Int) with | (lo,hi)=>pure (lo,(1:Int),Builtin.Slice.slicePlaces lo hi 1)) _ _ s;rw[adjust_gen lo hi n];show wpAny _ _ (pure (((sIx n 0 lo:Nat):Int),(1:Int),Builtin.Slice.slicePlaces ((sIx n 0 lo:Nat):Int) ((sIx n n hi:Nat):Int) 1)) _ _ s;rw[places_gen];show yw h
theorem pick_gen(xs:Array Value)(i k:Nat):((List.range k).filterMap fun(m:Nat)=>xs[((i:Int)+(m:Int)*1).toNat]?).toArray=((xs.toList.drop i).take k).toArray:=by
 have e:(fun(m:Nat)=>xs[((i:Int)+(m:Int)*1).toNat]?)=fun m=>xs[i+m]?:=by
  funext m;have:((i:Int)+(m:Int)*1).toNat=i+m:=by lk
  rw[this]
 rw[e];have:=pick_run xs i k;rw[List.filterMap_map] at this;have a:((fun x=>xs[x]?) ∘ fun x=>i+x)=fun m=>xs[i+m]?:=rfl;rw[a] at this;rw[this]
theorem getItem_tuple_cut{a:Array Value}{Q:Value->Shared->Prop}(c:IsTup s.heap t a)(i:s.heap.IsSliceOf sl vl vu .none)(pl:IsPart vl lo)(n:IsPart vu hi)
  (hw:¬ (sIx a.size 0 lo=0/\sIx a.size a.size hi=a.size))
  (h:Q (.ref s.heap.objs.size) { s with heap:=s.heap.push { cls:=.type "tuple",data:=.seq ((a.toList.drop (sIx a.size 0 lo)).take (sIx a.size a.size hi-sIx a.size 0 lo)).toArray } })
  (hsz:a.size<=sizeLine):wpAny (model prog w) A (getItem (.ref t) (.ref sl)) Q E s:=by
 have b:sizeOk (.seq ((a.toList.drop (sIx a.size 0 lo)).take (sIx a.size a.size hi-sIx a.size 0 lo)).toArray):=by
  show((a.toList.drop (sIx a.size 0 lo)).take (sIx a.size a.size hi-sIx a.size 0 lo)).toArray.size<=sizeLine;rw[yx,yR,kH,xU];lk
 have o:sIx a.size a.size hi<=a.size:=sIx_le _ _ (yh _) hi;obtain⟨l,g,e,j⟩:=id i;have d:s.TypeIs (.ref sl) "slice":=⟨l,g,e⟩;unfold getItem
 try with_reducible show Yv ?_
 first | show yr (yw ?_) | skip
 show yr (wpAny_sequenceKey c.typeIs (by decide) ?_);show yr (XG (name:=Str.ofString "__getitem__") c.typeIs xT
  (Xw xT c.typeIs entry_tuple_getitem ?_ (args_tuple_getitem _ _)))
 show wpAny _ _ (Builtin.Tuple.tupleItemsOf (.ref t)>>=_) _ _ s;show yr (tupleItemsOf_ c ?_);show yr (wpAny_typeOf d ?_);rw[yG (by decide)];show yr (sliceApplied_gen i pl n ?_)
 have f:¬ ((((sIx a.size 0 lo:Nat):Int)==0&&(1:Int)==1&&(sIx a.size a.size hi-sIx a.size 0 lo)==a.size)=true):=by
  intro q;rw[yX,yX] at q;have p:((sIx a.size 0 lo:Nat):Int)=0:=eq_of_beq q.1.1;have r:sIx a.size a.size hi-sIx a.size 0 lo=a.size:=eq_of_beq q.2;show hw ⟨by lk,by lk⟩
 show wpAny _ _ (if (((sIx a.size 0 lo:Nat):Int)==0&&(1:Int)==1&&(sIx a.size a.size hi-sIx a.size 0 lo)==a.size)=true then _ else _) _ _ s;rw[yA f,pick_gen]
 first
  | show yr (m:=Builtin.Tuple.tupleExact _) (Xo (yw ⟨_,rfl,yw h⟩) b)
  | show yr (m:=Builtin.Tuple.tupleExact _) (Xo (yr (yw (yw ⟨_,rfl,yw h⟩))) b)
  | show yr (yr (m:=Builtin.Tuple.tupleExact _) (Xo (yw (yw ⟨_,rfl,yw h⟩)) b))
  | show yr (yr (m:=Builtin.Tuple.tupleExact _) (Xo (yw ⟨_,rfl,yw h⟩) b))
end
end HT
namespace L2
open PySem PySem.Spec PyProof.Rows
variable{A:Around}{H H':Hp}{P:Program}{X:Cx}{a p:Addr}{h':Heap}{i:Int}{its its' us:List Value}{j n t':Nat}{kvs:List (List Key×V)}{o:Option V}{pins:List (Addr×Obj)}{r:R2}{s:Shared}{u v:Value}{w:World}{x y:V}{xs:List V}{α:Type}{σ:St}
abbrev TO:=St->Hp->(Option Int->Hp->Prop)->Prop
def PO(X:Cx)(e:Option Expr)(t:TO):Prop:=
 ∀(pins:List (Addr×Obj)) (s:Shared) (σ:St) (H:Hp) (Q:Option Int->Hp->Prop),Inv X pins σ H s->t σ H Q ->
  wpAny (model X.prog X.w) X.A (evalPart e X.env) (fun u a=>∃ o H',Inv X pins σ H' a/\IsPart u o/\Q o H') X.xe s
def qeu:TO:=fun _ H Q=>Q none H
def qgh(t:TE):TO:=fun σ H Q=>t σ H fun x a=>∃ i,x=.int i/\Q (some i) a
section
variable{X:Cx}{e:Expr}{te:TE}{lo hi:Option Expr}{tl th:TO}{pos p2:Pos}
theorem zm:PO X none qeu:=by
 intro pins s σ H Q I h;rw[evalPart_none];show yw ⟨none,H,I,.none,h⟩
theorem jQ(h:PE X e te):PO X (some e) (qgh te):=by
 intro pins s σ H Q I hw;rw[evalPart_some];show thn (h pins s σ H _ I hw) fun u f ⟨x,a,b,d,c⟩=>?_;obtain⟨i,rfl,q⟩:=c;obtain⟨t,rfl⟩:=d;show⟨some i,a,b,.int i t,q⟩
def SlR(X:Cx)(r:V->Option Int->Option Int->Hp->VK->Prop):Prop:=
 ∀(pins:List (Addr×Obj)) (s:Shared) (σ:St) (H:Hp) (x:V) (v b c:Value) (lo hi:Option Int) (a:Addr) (Q:VK),Inv X pins σ H s->RelV x v->s.heap.IsSliceOf a b c .none->IsPart b lo->IsPart c hi->r x lo hi H Q ->
  ∃ T id,typeLookup (.type T) "__getitem__"=pure (some (.builtin id))/\s.TypeIs v T/\wpAny (model X.prog X.w) X.A (getItem v (.ref a)) (EP X pins σ Q) X.xe s
def tSl(r:V->Option Int->Option Int->Hp->VK->Prop)(te:TE)(tl th:TO):TE:=fun σ H Q=>te σ H fun x a=>tl σ a fun l b=>th σ b fun u c=>r x l u c Q
theorem jE{r:V->Option Int->Option Int->Hp->VK->Prop}(z:SlR X r)(t:PE X e te)(hl:PO X lo tl)(C:PO X hi th):PE X (.Subscript e (.Slice lo hi none p2) pos) (tSl r te tl th):=by
 intro pins s σ H Q I h;show Subscript_ (thn (t pins s σ H _ I h) fun v K ⟨x,g,j,J,E⟩=>?_);show wpAny_Slice (thn (hl pins K σ g _ j E) fun c L ⟨l,i,m,pl,F⟩=>thn (C pins L σ i _ m F) fun d a ⟨u,f,n,D,G⟩=>?_);rw[evalPart_none];show yw ?_;have o:Inv X pins σ f { a with heap:=a.heap.push { cls:=.type "slice",data:=.fields #[c,d,.none] } }:=n.kept (t':=a.toks) fun b M q=>yv _ q;obtain⟨T,id,p,B,y⟩:=z pins { a with heap:=a.heap.push { cls:=.type "slice",data:=.fields #[c,d,.none] } } σ f x v c d l u a.heap.objs.size Q o J (Heap.IsSliceOf.new ..) pl D G;show wpAny (model X.prog X.w) X.A (subscriptTail e (.Slice lo hi none p2) v (.ref a.heap.objs.size)) (EP X pins σ Q) X.xe { a with heap:=a.heap.push { cls:=.type "slice",data:=.fields #[c,d,.none] } };show tail_any (ops:=[.ref a.heap.objs.size,v]) B p y (by with_unfolding_all rfl)
noncomputable def qde(xs:List V)(lo hi:Option Int):List V:=(xs.drop (HT.sIx xs.length 0 lo)).take (HT.sIx xs.length xs.length hi-HT.sIx xs.length 0 lo)
theorem qbI(xs:List V)(lo hi:Option Int):(qde xs lo hi).length<=xs.length:=by
 unfold qde;rw[yR,kH];lk
def qg3(K:yg):V->Option Int->Option Int->Hp->VK->Prop:=fun x lo hi H Q=>∃ a xs,x=.ref a/\SqT K H a xs /\
 ¬ (HT.sIx xs.length 0 lo=0/\HT.sIx xs.length xs.length hi=xs.length)/\∀ p,H p=none->Q (.ref p) (upd H p (.tup (qde xs lo hi)))
theorem sl_tup:SlR X (qg3 X.K):=by
 intro pins s σ H x v m n lo hi l Q I i e pl g h;obtain⟨a,xs,rfl,f,hw,q⟩:=h;cases i;obtain⟨its,r,d,hz⟩:=I.tuple f;have c:its.toArray.size=xs.length:=by rw[yx];show r.length.symm
 show⟨"tuple",_,xT.lookup,d.typeIs,?_⟩;show HT.getItem_tuple_cut d e pl g (by rw[c];show hw) ?_ (by rw[c];show hz);rw[c];show⟨.ref s.heap.objs.size,_,I.laid (t':=s.toks) (o:=.tup (qde xs lo hi)) (fun b j q=>yv _ q) (yh _) ?_,rfl,q _ (I.hok.fresh (yh _))⟩;show⟨yi (qbI xs lo hi) hz,_,(r.drop (HT.sIx xs.length 0 lo)).take (HT.sIx xs.length xs.length hi-HT.sIx xs.length 0 lo),IsTup.new _ _⟩
def qgi(K:yg):R2:=fun x y H Q=>∃ a b xs ys,x=.ref a/\y=.ref b/\SqT K H a xs/\SqT K H b ys/\xs≠[]/\xs.length+ys.length<=sizeLine /\
 (ys=[]->Q (.ref a) H)/\(ys≠[]->∀ p,H p=none->Q (.ref p) (upd H p (.tup (xs++ys))))
theorem Vals.nil_iff(r:Vals xs us):us=[]↔xs=[]:=by
 cases r with
 | nil=>simp
 | cons _ _=>simp
theorem op_catT:OpR X (binaryOp .Add) (qgi X.K):=by
 intro pins s σ H x y v u Q I n p h;obtain⟨a,b,xs,ys,rfl,rfl,f,g,i,hz,l,m⟩:=h;cases n;cases p;obtain⟨its,d,j,_⟩:=I.tuple f;obtain⟨e,c,p2,_⟩:=I.tuple g;show HT.cat_tup j p2 (fun z=>i (d.nil_iff.mp z)) (fun z=>⟨.ref a,H,I,rfl,l (c.nil_iff.mp z)⟩) (fun z=>?_) (by rw[<- d.length,<- c.length];show hz);show⟨.ref s.heap.objs.size,_,I.laid (t':=s.toks) (o:=.tup (xs++ys)) (fun b r q=>yv _ q) (yh _) ?_,rfl,m (fun w=>z (c.nil_iff.mpr w)) _ (I.hok.fresh (yh _))⟩;show⟨by rw[yt];show hz,_,d.append c,IsTup.new _ _⟩
end
noncomputable def ixN(n:Nat)(i:Int):Option Nat:=if 0<=i then(if i<n then some i.toNat else none) else if -(n:Int)<=i then some (i+n).toNat else none
noncomputable def atI{α:Type}(xs:List α)(i:Int):Option α:=(ixN xs.length i).bind fun j=>xs[j]?
theorem qev(h:ixN n i=some j):seqIndex? i n=some j/\j<n/\-(n:Int)<=i/\i<n:=by
 unfold ixN at h;by_cases a:0<=i
 .rw [yG a] at h;by_cases h1:i<n
  .rw [yG h1] at h;have e:i.toNat=j:=ym h;show⟨by rw[seqIndex_of a h1,e],by lk,by lk,h1⟩
  .rw [yA h1] at h;cases h
 .rw [yA a] at h;by_cases h1:-(n:Int)<=i
  .rw [yG h1] at h;have e:(i+n).toNat=j:=ym h;show⟨by rw[seqIndex_neg (by lk) h1,e],by lk,h1,by lk⟩
  .rw [yA h1] at h;cases h
theorem qdf{xs:List α}{v:α}(h:atI xs i=some v):∃ j,seqIndex? i xs.length=some j/\xs[j]?=some v/\j<xs.length/\-(xs.length:Int)<=i/\i<xs.length:=by
 unfold atI at h
 cases e:ixN xs.length i with
 | none=>rw[e] at h;cases h
 | some j =>
  rw[e] at h;obtain⟨h1,a,b,c⟩:=qev e;show⟨j,h1,h,a,b,c⟩
theorem qt{xs:List α}{v:α}(h:xs[j]?=some v):atI xs (j:Int)=some v:=by
 have a:j<xs.length:=(yc.mp h).1
 have e:ixN xs.length (j:Int)=some j:=by
  unfold ixN;rw[yG (by lk),yG (by lk)];simp
 unfold atI;rw[e];show h
theorem atI_last(xs:List α)(v:α):atI (xs++[v]) (-1)=some v:=by
 have hl:(xs++[v]).length=xs.length+1:=by simp
 have e:ixN (xs++[v]).length (-1)=some xs.length:=by
  unfold ixN;rw[hl,yA (by decide),yG (by lk)]
  congr 1
  lk
 unfold atI;rw[e];show(xs++[v])[xs.length]?=some v;simp
def PlainIx(b:Expr):Prop:=∀ o i,subscripted b false o i=operate [o,i] (getItem o i)
def IxR(X:Cx)(r:R2):Prop:=
 ∀(b a:Expr) (pins:List (Addr×Obj)) (s:Shared) (σ:St) (H:Hp) (x y:V) (v u:Value) (Q:VK),Inv X pins σ H s->RelV x v->RelV y u->r x y H Q ->
  subscripted a false v u=operate [v,u] (getItem v u)->wpAny (model X.prog X.w) X.A (subscriptTail b a v u) (EP X pins σ Q) X.xe s
def MtR(X:Cx)(id:String)(r:V->List V->Hp->VK->Prop):Prop:=
 ∀(pins:List (Addr×Obj)) (s:Shared) (σ:St) (H:Hp) (x:V) (xs:List V) (v:Value) (us:List Value) (Q:VK),Inv X pins σ H s->RelV x v->Vals xs us->r x xs H Q ->
  wpAny (model X.prog X.w) X.A (call (.builtin id) (v::us)) (EP X pins σ Q) X.xe s
section
variable{X:Cx}{a b:Expr}{ta tb:TE}{pos:Pos}
theorem IxR.or{d:R2}(h:IxR X r)(h':IxR X d):IxR X (fun x y H Q=>r x y H Q\/d x y H Q):=by
 intro b a pins s σ H x y v u Q I e f q c;rcases q with q | q
 .show h b a pins s σ H x y v u Q I e f q c
 .show h' b a pins s σ H x y v u Q I e f q c
theorem qu(g:IxR X r)(e:PE X a ta)(f:PE X b tb)(i:PlainIx b):PE X (.Subscript a b pos) (tOp r ta tb):=by
 intro pins s σ H Q I h;show Subscript_ (qgM e f I h fun v u m x y c d j l q=>g a b pins m σ c x y v u Q d j l q (i _ _))
def qg4(K:yg):R2:=fun x y H Q=>∃ p xs i v,x=.ref p/\y=.int i/\SqL K H p xs/\atI xs i=some v/\Q v H
def qg5(K:yg):R2:=fun x y H Q=>∃ p xs i v,x=.ref p/\y=.int i/\SqT K H p xs/\atI xs i=some v/\Q v H
def qg6:R2:=fun x y H Q=>∃ z i c,x=.str z/\y=.int i/\z.length<=sizeLine/\atI z.cps.toList i=some c/\Q (.str ⟨#[c]⟩) H
theorem ix_list:IxR X (qg4 X.K):=by
 intro e d pins s σ H x y v u Q I C D h l;obtain⟨p,xs,i,z,rfl,rfl,B,A,q⟩:=h;cases C;obtain⟨t,rfl⟩:=D;obtain⟨its,r,pl,hz⟩:=I.list B;obtain⟨j,h1,m,F,n,o⟩:=qdf A;obtain⟨w,f,c⟩:=r.get m;have hl:=r.length;have G:=qb2;have a:EP X pins σ Q w s:=⟨z,H,I,c,q⟩;by_cases g:0<=i
 .have b:i.toNat=j:=by
   rw[seqIndex_of g o] at h1;show ym h1
  show item_listR pl.isList g (by lk) (by rw[b];simpa using f) a l
 .have b:(i+(its.toArray.size:Int)).toNat=j:=by
   rw[seqIndex_neg (by lk) n] at h1;rw[yx,<- hl];show ym h1
  show subscriptTail_builtinR (x:=w) pl.isList.typeIs ky.lookup
   (wpAny_getItem_list_neg (Q:=fun r E=>r=w/\EP X pins σ Q r E) pl.isList (by lk) (by rw[yx]<;>lk) (by lk) (by rw[b];simpa using f) ⟨rfl,a⟩) l
theorem ix_tup:IxR X (qg5 X.K):=by
 intro d c pins s σ H x y v u Q I n o h m;obtain⟨p,xs,i,z,rfl,rfl,l,g,q⟩:=h;cases n;obtain⟨t,rfl⟩:=o;obtain⟨its,r,pl,hz⟩:=I.tuple l;obtain⟨j,h1,f,B,C,D⟩:=qdf g;obtain⟨w,e,b⟩:=r.get f;have hl:=r.length;have E:=qb2;have a:EP X pins σ Q w s:=⟨z,H,I,b,q⟩;show subscriptTail_builtinR (x:=w) pl.typeIs slot_tuple_getitem.lookup
  (getItem_tuple (j:=j) (Q:=fun r A=>r=w/\EP X pins σ Q r A) pl (by lk) (by lk) (by rw[yx,<- hl];show h1) (by simpa using e) ⟨rfl,a⟩) m
theorem ix_str:IxR X qg6:=by
 intro b a pins s σ H x y v u Q I o p h n;obtain⟨z,i,c,rfl,rfl,hz,m,q⟩:=h;obtain⟨t,rfl⟩:=o;obtain⟨t',rfl⟩:=p;obtain⟨j,h1,f,r,g,l⟩:=qdf m;have hl:z.cps.toList.length=z.length:=by simp[Str.length]
 rw[hl] at h1 g l;have w:=qb2
 show tail_any (typeIs_str s z t) slot_str_getitem.lookup (getItem_str (c:=c) (by
  have d:decide (i < -(2 ^ 63:Int))=false:=yl (by lk);have e:decide (i ≥ 2 ^ 63)=false:=yl (by lk);rw[d,e,kC]) (by rw[h1];simpa using f) ⟨.str ⟨#[c]⟩,H,I.tok _,⟨_,rfl⟩,q⟩) n
def rIx(K:yg):R2:=fun x y H Q=>qg4 K x y H Q\/qg5 K x y H Q\/qg6 x y H Q
theorem ix_seq:IxR X (rIx X.K):=ix_list.or (ix_tup.or ix_str)
theorem mapSeq_set(its:List Value)(n j:Nat)(u:Value):Obj.mapSeq (·.setIfInBounds j u) { cls:=.type "list",data:=.seq its.toArray n }={ cls:=.type "list",data:=.seq (its.set j u).toArray n }:=by
 simp[Obj.mapSeq]
theorem Inv.lst(I:Inv X pins σ H s)(h:H p=some (.lst xs)) :
  ∃(its:List Value) (n:Nat),Vals xs its/\s.heap.get? p=some { cls:=.type "list",data:=.seq its.toArray n }/\xs.length<=sizeLine:=by
 obtain⟨z,its,n,r,e⟩:=I.hok p _ h;show⟨its,n,r,e,z⟩
theorem Inv.lstUpd{ys:List V}{a:Nat}{f:Obj->Obj}(I:Inv X pins σ H s)(h:H p=some (.lst xs))
  (g:s.heap.get? p=some { cls:=.type "list",data:=.seq its.toArray n }) (c:f { cls:=.type "list",data:=.seq its.toArray n }={ cls:=.type "list",data:=.seq its'.toArray a }) (r:Vals ys its') (hz:ys.length<=sizeLine) (t:Nat) :
  Inv X pins σ (upd H p (.lst ys)) { s with heap:=s.heap.update p f,toks:=t }:=by
 have e:(s.heap.update p f).get? p=some { cls:=.type "list",data:=.seq its'.toArray a }:=by
  rw[Y7 f g (by rw[c]<;>rfl),c]
 show I.write (x:=p) (e:=p) (by rw[h];trivial) (.inl rfl) (fun b u d q=>(Heap.get?_update_other _ _ (Yo d)).trans q) ⟨_,e⟩ ?_;show⟨hz,its',a,r,e⟩
def qfT:V->V->V->Hp->(Hp->Prop)->Prop:=fun o i v H Q=>∃ p xs k j,o=.ref p/\i=.int k/\H p=some (.lst xs)/\ixN xs.length k=some j/\Q (upd H p (.lst (xs.set j v)))
theorem set_list:qgL X qfT:=by
 intro pins s σ H o i v B A u Q I w m x h;obtain⟨p,xs,k,j,rfl,rfl,g,l,q⟩:=h;cases w;obtain⟨t,rfl⟩:=m;obtain⟨its,n,r,b,hz⟩:=I.lst g;obtain⟨h1,y,e,f⟩:=qev l;have hl:=r.length;have z:=qb2
 have c:Inv X pins σ (upd H p (.lst (xs.set j v))) { s with heap:=s.heap.update p (Obj.mapSeq (·.setIfInBounds j u)) }:=
  I.lstUpd g b (mapSeq_set its n j u) (r.set x j) (by rw[xE];show hz) s.toks
 by_cases d:0<=k
 .have a:k.toNat=j:=by
   rw[seqIndex_of d f] at h1;show ym h1
  show PySem.W.ki_setAt b d (by lk) (by rw[yx,<- hl];show f) (by rw[a];show⟨_,c,q⟩)
 .have a:(k+(its.toArray.size:Int)).toNat=j:=by
   rw[seqIndex_neg (by lk) e] at h1;rw[yx,<- hl];show ym h1
  show PySem.W.ki_setBack b (by lk) (by rw[yx,<- hl];show e) (by lk) (by rw[a];show⟨_,c,q⟩)
theorem slice_bounds(lo a:Option Int)(n:Nat):(sliceBounds lo a none n).1=((HT.sIx n 0 lo:Nat):Int)/\(sliceBounds lo a none n).2.1=((HT.sIx n n a:Nat):Int)/\(sliceBounds lo a none n).2.2=1:=by
 show⟨?_,?_,rfl⟩
 .cases lo with
  | none=>simp[sliceBounds,HT.sIx]
  | some i =>
   simp only[sliceBounds,HT.sIx,Option.getD_none,show(1:Int)>0 by decide,Xv];by_cases h:i<0
   .simp only[h,Xv]<;>lk
   .simp only[h,Xa]<;>lk
 .cases a with
  | none=>simp[sliceBounds,HT.sIx]
  | some i =>
   simp only[sliceBounds,HT.sIx,Option.getD_none,show(1:Int)>0 by decide,Xv];by_cases h:i<0
   .simp only[h,Xv]<;>lk
   .simp only[h,Xa]<;>lk
theorem slicePick_cut(its:List Value)(lo a:Option Int):slicePick its.toArray lo a none=((its.drop (HT.sIx its.length 0 lo)).take (HT.sIx its.length its.length a-HT.sIx its.length 0 lo)).toArray:=by
 obtain⟨h1,b,c⟩:=slice_bounds lo a its.toArray.size;unfold slicePick;rw[h1,b,c];simp only[sliceRange_one,pick_run,yx]<;>rfl
def qg7(K:yg):V->Option Int->Option Int->Hp->VK->Prop:=fun x lo b H Q=>∃ a xs,x=.ref a/\SqL K H a xs/\∀ p,H p=none->Q (.ref p) (upd H p (.lst (qde xs lo b)))
theorem sl_list:SlR X (qg7 X.K):=by
 intro pins s σ H x v n p lo d m Q I j f pl i h;obtain⟨a,xs,rfl,g,q⟩:=h;cases j;obtain⟨its,r,e,hz⟩:=I.list g;have c:=r.length;show⟨"list",_,ky.lookup,e.isList.typeIs,?_⟩;show wpAny_getItem_list_slice e.isList f pl i .none (by simp) ?_ (by rw[yx]<;>lk);rw[slicePick_cut,<- c];show⟨.ref s.heap.objs.size,_,I.laid (t':=s.toks) (o:=.lst (qde xs lo d)) (fun b l q=>yv _ q) (yh _) ?_,rfl,q _ (I.hok.fresh (yh _))⟩;show⟨yi (qbI xs lo d) hz,_,0,(r.drop (HT.sIx xs.length 0 lo)).take (HT.sIx xs.length xs.length d-HT.sIx xs.length 0 lo),yZ _ rfl⟩
noncomputable def qaD:V->Bool
 | .non=>true
 | .bl _=>true
 | .int _=>true
 | .str _=>true
 | _=>false
noncomputable def eqV:V->V->Bool
 | .non,.non=>true
 | .bl a,.bl b=>a==b
 | .bl a,.int b=>(if a then 1 else 0)==b
 | .int a,.bl b=>a==(if b then 1 else 0)
 | .int a,.int b=>a==b
 | .str a,.str b=>a==b
 | _,_=>false
theorem qew(e:RelV y u)(c:RelV x v)(f:qaD y=true)(d:qaD x=true):SeqAt.EqAt A s u v (eqV y x):=by
 cases y with
 | non =>
  cases e
  cases x with
  | non=>cases c;show X2 _
  | bl b=>cases c;show SeqAt.EqAt.none_bool b
  | int b=>obtain⟨t,rfl⟩:=c;show SeqAt.EqAt.none_int b t
  | str b=>obtain⟨t,rfl⟩:=c;show SeqAt.EqAt.none_str b t
  | _=>show absurd (show false=true from d) Ys
 | bl a =>
  cases e
  cases x with
  | non=>cases c;show SeqAt.EqAt.bool_none a
  | bl b=>cases c;show SeqAt.EqAt.bool_bool a b
  | int b=>obtain⟨t,rfl⟩:=c;show SeqAt.EqAt.bool_int a b t
  | str b=>obtain⟨t,rfl⟩:=c;show SeqAt.EqAt.bool_str a b t
  | _=>show absurd (show false=true from d) Ys
 | int a =>
  obtain⟨t',rfl⟩:=e
  cases x with
  | non=>cases c;show SeqAt.EqAt.int_none a t'
  | bl b=>cases c;show SeqAt.EqAt.int_bool a t' b
  | int b=>obtain⟨t,rfl⟩:=c;show SeqAt.EqAt.int_int a t' b t
  | str b=>obtain⟨t,rfl⟩:=c;show SeqAt.EqAt.int_str a t' b t
  | _=>show absurd (show false=true from d) Ys
 | str a =>
  obtain⟨t',rfl⟩:=e
  cases x with
  | non=>cases c;show SeqAt.EqAt.str_none a t'
  | bl b=>cases c;show SeqAt.EqAt.str_bool a t' b
  | int b=>obtain⟨t,rfl⟩:=c;show SeqAt.EqAt.str_int a t' b t
  | str b=>obtain⟨t,rfl⟩:=c;show SeqAt.EqAt.str_str a t' b t
  | _=>show absurd (show false=true from d) Ys
 | _=>show absurd (show false=true from f) Ys
noncomputable def eqU(x:V)(u:Value):Bool:=match u with
 | .none=>eqV .non x
 | .bool b=>eqV (.bl b) x
 | .int i _=>eqV (.int i) x
 | .str z _=>eqV (.str z) x
 | _=>false
theorem qex(r:RelV y u)(f:qaD y=true):eqU x u=eqV y x:=by
 cases y with
 | non=>cases r;rfl
 | bl b=>cases r;rfl
 | int i=>obtain⟨t,rfl⟩:=r;rfl
 | str z=>obtain⟨t,rfl⟩:=r;rfl
 | _=>show absurd (show false=true from f) Ys
theorem qbJ:∀{xs:List V} {us:List Value},Vals xs us->xs.all qaD=true->us.any (eqU x)=xs.any fun y=>eqV y x
 | _,_,.nil,_=>rfl
 | y::xs,u::us,.cons r t,f=>by
  rw[XZ,yX] at f;rw[Xl,Xl,qex r f.1,qbJ t f.2]
theorem qap(b:RelV x v)(a:qaD x=true):∀{xs:List V} {us:List Value},Vals xs us->xs.all qaD=true->∀ u∈us,SeqAt.EqAt A s u v (eqU x u)
 | _,_,.nil,_=>fun u hu=>by cases hu
 | y::xs,u::us,.cons r t,f=>fun c hu=>by
  rw[XZ,yX] at f;rcases yy.mp hu with rfl | hu
  .rw [qex r f.1];show qew r b f.1 a
  .show qap b a t f.2 c hu
noncomputable def inV(x:V)(xs:List V):Bool:=xs.any fun y=>eqV y x
def rIn(K:yg)(a:Bool):R2:=fun x y H Q=>∃ p xs,y=.ref p/\(SqL K H p xs\/SqT K H p xs)/\qaD x=true/\xs.all qaD=true/\Q (.bl (if a then !inV x xs else inV x xs)) H
theorem op_in_seq:OpR X (compareOp .In) (rIn X.K false):=by
 intro pins s σ H x y v u Q I b c h;obtain⟨p,xs,rfl,hq,a,fs,q⟩:=h;cases c;rcases hq with hq | hq
 .obtain⟨its,r,pl,hz⟩:=I.list hq;show SeqAt.in_listAt (eqU x) pl.isList (fun w hw=>qap b a r fs w (by simpa using hw)) ⟨.bl _,H,I,rfl,?_⟩;rw[show its.toArray.any (eqU x)=its.any (eqU x) by simp,qbJ r fs];show q
 .obtain⟨its,r,pl,hz⟩:=I.tuple hq;show SeqAt.in_tupleAt (eqU x) pl (fun w hw=>qap b a r fs w (by simpa using hw)) ⟨.bl _,H,I,rfl,?_⟩;rw[show its.toArray.any (eqU x)=its.any (eqU x) by simp,qbJ r fs];show q
theorem op_notIn_seq:OpR X (compareOp .NotIn) (rIn X.K true):=by
 intro pins s σ H x y v u Q I b c h;obtain⟨p,xs,rfl,hq,a,fs,q⟩:=h;cases c;rcases hq with hq | hq
 .obtain⟨its,r,pl,hz⟩:=I.list hq;show SeqAt.notIn_listAt (eqU x) pl.isList (fun w hw=>qap b a r fs w (by simpa using hw)) ⟨.bl _,H,I,rfl,?_⟩;rw[show its.toArray.any (eqU x)=its.any (eqU x) by simp,qbJ r fs];show q
 .obtain⟨its,r,pl,hz⟩:=I.tuple hq;show SeqAt.notIn_tupleAt (eqU x) pl (fun w hw=>qap b a r fs w (by simpa using hw)) ⟨.bl _,H,I,rfl,?_⟩;rw[show its.toArray.any (eqU x)=its.any (eqU x) by simp,qbJ r fs];show q
theorem call_len_seq:qab X (.builtin "len") (fun xs H Q=>∃ p ys,xs=[.ref p]/\(SqL X.K H p ys\/SqT X.K H p ys)/\Q (.int ys.length) H):=by
 intro pins s σ H xs us Q I r h;obtain⟨p,ys,rfl,hq,q⟩:=h;obtain⟨u,rfl,c⟩:=qbY r;cases c;have d:=qb2;rcases hq with hq | hq
 .obtain⟨its,b,pl,hz⟩:=I.list hq;have a:=b.length;show Calls.call_len_list pl.isList (by simp only[yx]<;>lk) ⟨.int ys.length,H,I.tok _,⟨s.toks+1,by rw[yx,a]⟩,q⟩
 .obtain⟨its,b,pl,hz⟩:=I.tuple hq;have a:=b.length;show len_tuple pl (by simp only[yx]<;>lk) ⟨.int ys.length,H,I.tok _,⟨s.toks+1,by rw[yx,a]⟩,q⟩
theorem call_len_str:qab X (.builtin "len") (fun xs H Q=>∃ z,xs=[.str z]/\z.length<=sizeLine/\Q (.int z.length) H):=by
 intro pins s σ H xs us Q I r h;obtain⟨z,rfl,hz,q⟩:=h;obtain⟨u,rfl,t,rfl⟩:=qbY r;have a:=qb2;show len_str (by lk) ⟨.int z.length,H,I.tok _,⟨_,rfl⟩,q⟩
theorem call_list_of:qab X (.type "list") (fun xs H Q=>∃ p ys,xs=[.ref p]/\(SqL X.K H p ys\/SqT X.K H p ys)/\∀ l,H l=none->Q (.ref l) (upd H l (.lst ys))):=by
 intro pins s σ H xs us Q I r h;obtain⟨p,ys,rfl,hq,q⟩:=h;obtain⟨u,rfl,t⟩:=qbY r;cases t;have d:∀(its:List Value),Vals ys its->ys.length<=sizeLine->∀(h':Heap) (a:Nat),(∀ b m,s.heap.get? b=some m->h'.get? b=some m) ->
   h'.get? s.heap.objs.size=some { cls:=.type "list",dict:=none,data:=.seq its.toArray a,slots:=#[] }->EP X pins σ Q (.ref s.heap.objs.size) { s with heap:=h' }:=fun its c hz h' a g e =>
  ⟨.ref s.heap.objs.size,_,I.laid (t':=s.toks) g (yh _) (show ObjOk X.prog X.w _ h' _ (.lst ys) from⟨hz,its,a,c,e⟩),rfl,q _ (I.hok.fresh (yh _))⟩
 rcases hq with hq | hq
 .obtain⟨its,c,pl,hz⟩:=I.list hq;have f:=c.length;obtain⟨o,j,hc,n,i⟩:=pl.isList;show call_list_seq p (.inl rfl) j hc i (fun h' a g e=>d its c hz h' a g e) (by simp only[yx]<;>lk)
 .obtain⟨its,c,pl,hz⟩:=I.tuple hq;have f:=c.length;obtain⟨o,j,hc,n,i⟩:=pl;show call_list_seq p (.inr rfl) j hc i (fun h' a g e=>d its c hz h' a g e) (by simp only[yx]<;>lk)
def tyV(K:yg)(T:String)(x:V)(H:Hp):Prop:=match x with
 | .str _=>T="str"
 | .int _=>T="int"
 | .ref p=>(T="list"/\∃ xs,SqL K H p xs)\/(T="tuple"/\∃ o,K.lookup p=some o/\o.cls=.type "tuple"/\o.dict=none) \/
   (T="dict"/\((∃ kvs,H p=some (.dK kvs))\/∃ kvs,H p=some (.dT kvs)))\/(T="set"/\∃ S n,H p=some (.set S n))
 | _=>False
theorem qfs{T:String}(I:Inv X pins σ H s)(r:RelV x v)(ty:tyV X.K T x H) :
  s.TypeIs v T/\∀ a,v=.ref a->∃ g,s.heap.get? a=some g/\g.dict=none:=by
 cases x with
 | str z =>
  obtain⟨t,rfl⟩:=r;cases (show T="str" from ty);show⟨typeIs_str s z t,fun _ e=>nomatch e⟩
 | int i =>
  obtain⟨t,rfl⟩:=r;cases (show T="int" from ty);show⟨typeIs_int s i t,fun _ e=>nomatch e⟩
 | ref p =>
  cases r;rcases ty with⟨rfl,xs,h⟩ | ⟨rfl,o,b,hc,f⟩ | ⟨rfl,b⟩ | ⟨rfl,S,n,b⟩
  .obtain⟨its,_,pl,_⟩:=I.list h;show⟨pl.isList.typeIs,fun a e=>?_⟩;cases e;obtain⟨o,n,e,c,f,_⟩:=pl;show⟨o,e,f⟩
  .show⟨⟨o,I.kIn p o b,hc⟩,fun a e=>?_⟩;cases e;show⟨o,I.kIn _ o b,f⟩
  .have z:∃ o,s.heap.get? p=some o/\o.ExactDict:=by
    rcases b with⟨kvs,b⟩ | ⟨kvs,b⟩
    .obtain⟨_,_,_,_,o,_,_,e,ex,_⟩:=I.hok p _ b;show⟨o,e,ex⟩
    .obtain⟨_,_,_,_,o,_,_,e,ex,_⟩:=I.hok p _ b;show⟨o,e,ex⟩
   obtain⟨o,e,ex⟩:=z;show⟨⟨o,e,ex.1⟩,fun a d=>?_⟩;cases d;show⟨o,e,ex.2.1⟩
  .obtain⟨o,_,_,_,e,ex,_⟩:=I.hok p _ b;show⟨⟨o,e,ex.1⟩,fun a d=>?_⟩;cases d;show⟨o,e,ex.2.1⟩
 | _=>show False.elim ty
def qgN(K:yg)(T:String)(r:V->List V->Hp->VK->Prop)(to:TE):TE:=fun σ H Q=>to σ H fun x a=>tyV K T x a/\r x [] a Q
def tBM(K:yg)(T:String)(r:V->List V->Hp->VK->Prop)(to:TE)(t:TA):TE:=fun σ H Q=>to σ H fun x a=>tyV K T x a/\t σ a fun xs b=>r x xs b Q
variable{o e:Expr}{es:List Expr}{to:TE}{t:TA}{name:Str}{apos cpos:Pos}{T id:String}{r:V->List V->Hp->VK->Prop}
theorem pe_bm0(m:PlainAttrs T)(c:Slot T name id)(d:typeOf (.builtin id)=pure (.type "method_descriptor"))(j:MtR X id r)(l:PE X o to)
  (a:attributeBase o name X.env (eval o X.env)=eval o X.env:=by rfl) (b:(apos.endLine==cpos.line)=true:=by rfl):PE X (.Call (.Attribute o name apos) [] [] cpos) (qgN X.K T r to):=by
 intro pins s σ H Q I h;show wpAny_Call_method0_late a b (thn (l pins s σ H _ I h) fun v p ⟨x,g,e,f,ty,n⟩=>?_);obtain⟨h1,i⟩:=qfs e f ty;show⟨T,id,m,c,d,h1,i,XJ rfl (PySem.evalArgs_none (j pins p σ g x [] v [] Q e f .nil n))⟩
theorem pe_bm(A:PlainAttrs T)(f:Slot T name id)(g:typeOf (.builtin id)=pure (.type "method_descriptor"))(w:MtR X id r)(y:PE X o to)(u:PA X (e::es) t)
  (b:attributeBase o name X.env (eval o X.env)=eval o X.env:=by rfl)
  (d:((backTo cpos (starEach (e::es) X.env)).all (fun x=>!x.1)&&(backToKw cpos (keywordEach [] X.env)).all (fun x=>x.1.isSome)
   && decide ((e::es).length+([]:List Keyword).length+(if ([]:List Keyword).isEmpty then 0 else 1)<30))=true:=by rfl)
  (c:(apos.endLine==cpos.line)=true:=by rfl) (z:starEach (e::es) X.env=(false,eval e X.env)::starEach es X.env:=by rfl) (a:(backTo cpos (starEach es X.env)).any (·.1)=false:=by rfl) :
  PE X (.Call (.Attribute o name apos) (e::es) [] cpos) (tBM X.K T r to t):=by
 intro pins s σ H Q I h;show wpAny_Call_method_late b d c rfl (thn (y pins s σ H _ I h) fun v E ⟨x,m,i,l,ty,B⟩=>?_);obtain⟨h1,q⟩:=qfs i l ty;show⟨T,id,A,f,g,h1,q,?_⟩;have j:=u cpos pins E σ m _ i B;rw[z] at j ⊢;show XJ (by show(false||(backTo cpos (starEach es X.env)).any (·.1))=false;rw[a]<;>rfl) (Calls.evalArgs_plain ?_);show thn j fun us F ⟨vs,n,p,D,C⟩=>w pins F σ n x vs v us Q p l D C
end
def MtM(X:Cx)(id:String)(r:V->List V->Hp->VK->Prop):Prop:=
 ∀(pins:List (Addr×Obj)) (s:Shared) (σ:St) (H:Hp) (x:V) (xs:List V) (v:Value) (us:List Value) (Q:VK),Inv X pins σ H s->RelV x v->Vals xs us->r x xs H Q ->
  wpAny (model X.prog X.w) X.A (call (.builtin id) (v::us)) (EP X pins σ Q) X.xe s
theorem Vals.one:∀{x:V} {us:List Value},Vals [x] us->∃ u,us=[u]/\RelV x u
 | _,_,.cons r .nil=>⟨_,rfl,r⟩
theorem Vals.zero:∀{us:List Value},Vals [] us->us=[]
 | _,.nil=>rfl
theorem Vals.dropLast(h:Vals xs us):Vals xs.dropLast us.dropLast:=by
 induction h with
 | nil=>show .nil
 | cons r t ih =>
  cases t with
  | nil=>show .nil
  | cons q t'=>show .cons r ih
theorem Vals.eraseIdx:∀{xs:List V} {us:List Value} (i:Nat),Vals xs us->Vals (xs.eraseIdx i) (us.eraseIdx i)
 | _,_,_,.nil=>.nil
 | _,_,0,.cons _ t=>t
 | _,_,i+1,.cons r t=>.cons r (Vals.eraseIdx i t)
theorem Vals.rep(h:Vals xs us):∀ k:Nat,Vals (List.replicate k xs).flatten (List.replicate k us).flatten
 | 0=>.nil
 | k+1=>by
  rw[xu,xu,xo,xo];show Vals.append h (Vals.rep h k)
theorem erase_last(l:List α):l.eraseIdx (l.length-1)=l.dropLast:=by
 induction l with
 | nil=>rfl
 | cons a r ih =>
  cases r with
  | nil=>rfl
  | cons b r =>
   have e:(a::b::r).length-1=((b::r).length-1)+1:=by
    have h1:(a::b::r).length=r.length+2:=rfl;have c:(b::r).length=r.length+1:=rfl;lk
   rw[e,List.eraseIdx_cons_succ,ih]
   all_goals rfl
theorem qcI:∀(l:List α) (i:Nat),(l.eraseIdx i).length<=l.length
 | [],_=>yh _
 | _::_,0=>xL _
 | _::r,i+1=>Nat.succ_le_succ (qcI r i)
theorem qcJ(its:List Value):∀(k:Nat) (acc:List Value),
  List.foldl (fun b c=>b++c) acc.toArray (List.replicate k its.toArray)=(acc++(List.replicate k its).flatten).toArray
 | 0,acc=>by simp
 | k+1,acc=>by
  have e:acc.toArray++its.toArray=(acc++its).toArray:=by simp
  have a:(acc++its)++(List.replicate k its).flatten=acc++(List.replicate (k+1) its).flatten:=by
   rw[xu,xo,Yl]
  rw[<- a,<- qcJ its k (acc++its),<- e,xu,List.foldl_cons]
section
variable{X:Cx}{pins:List (Addr×Obj)}{σ:St}{H:Hp}{s:Shared}{l b:Addr}{xs ys zs:List V}
theorem Inv.lset{f:Array Value->Array Value}(I:Inv X pins σ H s)(a:H l=some (.lst xs))
  (e:s.heap.get? l=some { cls:=.type "list",data:=.seq its.toArray n }) (c:f its.toArray=its'.toArray) (hv:Vals ys its') (hz:ys.length<=sizeLine) :
  Inv X pins σ (upd H l (.lst ys)) { s with heap:=s.heap.update l (Obj.mapSeq f),toks:=t' }:=by
 have q:=PySem.IsL.update e f;rw[c] at q;show I.write (x:=l) (e:=l) (by rw[a];show trivial) (.inl rfl) (fun g u b d=>(Heap.get?_update_other s.heap (Obj.mapSeq f) (Yo b)).trans d) ⟨_,q⟩ ?_;show⟨hz,its',_,hv,q⟩
theorem Inv.lnew(I:Inv X pins σ H s)(hv:Vals ys its)(hz:ys.length<=sizeLine) :
  Inv X pins σ (upd H s.heap.objs.size (.lst ys)) { s with heap:=s.heap.push { cls:=.type "list",data:=.seq its.toArray },toks:=t' }:=
 I.laid (fun _ _ q=>yv _ q) (yh _) ⟨hz,its,0,hv,yZ _ rfl⟩
theorem Inv.fresh(I:Inv X pins σ H s):H s.heap.objs.size=none:=I.hok.fresh (yh _)
theorem Inv.lstM(I:Inv X pins σ H s)(a:H l=some (.lst xs)):xs.length<=sizeLine/\∃(its:List Value) (n:Nat),Vals xs its/\xs.length=its.length/\s.heap.get? l=some { cls:=.type "list",data:=.seq its.toArray n }:=by
 obtain⟨z,its,n,r,e⟩:=I.hok l _ a;show⟨z,its,n,r,r.length,e⟩
theorem qdF(h:n<=sizeLine):Builtin.List.listTooLong n=false:=by
 unfold Builtin.List.listTooLong;show yl (by lk)
end
section
variable{X:Cx}
def qey:V->List V->Hp->VK->Prop:=fun x vs H Q=>∃ l xs y,x=.ref l/\vs=[y]/\H l=some (.lst xs)/\xs.length<sizeLine/\Q .non (upd H l (.lst (xs++[y])))
theorem mt_append:MtM X "list.append" qey:=by
 intro pins s σ H x vs v us Q I d c h;obtain⟨l,xs,y,rfl,rfl,a,hz,q⟩:=h;cases d;obtain⟨u,rfl,b⟩:=c.one;obtain⟨z,its,n,r,hl,e⟩:=I.lstM a;show XE F.slot_list_append ⟨_,e,rfl⟩ F.entry_list_append (F.args_list_append_2 _ _) (PySem.list_append l its.toArray n u (by rw[yx];lk)) ⟨e,?_⟩;show⟨.non,_,I.lset (its':=its++[u]) a e (by simp) (r.append (.cons b .nil)) ?_,rfl,q⟩;rw[yt,List.length_singleton];lk
def qez:V->List V->Hp->VK->Prop:=fun x vs H Q=>∃ l b xs a,x=.ref l/\vs=[.ref b]/\H l=some (.lst xs)/\H b=some (.lst a)/\xs.length+a.length<=sizeLine/\Q .non (upd H l (.lst (xs++a)))
theorem mt_extend:MtM X "list.extend" qez:=by
 intro pins s σ H x vs v us Q I t p h;obtain⟨l,b,xs,y,rfl,rfl,d,g,hz,q⟩:=h;cases t;obtain⟨u,rfl,o⟩:=p.one;cases o;obtain⟨z,its,n,r,hl,e⟩:=I.lstM d;obtain⟨w,a,j,m,i,f⟩:=I.lstM g;have hsz:its.toArray.size+a.toArray.size<=sizeLine:=by rw[yx,yx];lk
 have c:¬ (!its.toArray.isEmpty&&Builtin.List.listTooLong (its.toArray.size+a.toArray.size))=true:=by
  rw[qdF hsz,Bool.and_false];show Ys
 show XE F.slot_list_extend ⟨_,e,rfl⟩ F.entry_list_extend (F.args_list_extend_2 _ _)
  (AutoSeq1.list_extend_list_list_0 l its.toArray n b a.toArray j c (by rw[yx];lk) (by lk)) ⟨e,f,?_⟩
 show⟨.non,_,I.lset (its':=its++a) d e (by simp) (r.append m) ?_,rfl,q⟩;rw[yt];lk
def qg8:V->List V->Hp->VK->Prop:=fun x vs H Q=>∃ l xs y,x=.ref l/\vs=[]/\H l=some (.lst xs)/\xs[xs.length-1]?=some y/\Q y (upd H l (.lst xs.dropLast))
theorem mt_pop:MtM X "list.pop" qg8:=by
 intro pins s σ H x vs v us Q I j i h;obtain⟨l,xs,y,rfl,rfl,c,f,q⟩:=h;cases j;have a:=i.zero;subst a;obtain⟨z,its,n,r,hl,e⟩:=I.lstM c;obtain⟨u,d,g⟩:=r.get f
 have b:its.toArray[its.toArray.size-1]?=some u:=by
  show its.toArray[its.length-1]?=some u;rw[<- xB,<- hl];show d
 show XE F.slot_list_pop ⟨_,e,rfl⟩ F.entry_list_pop (F.args_list_pop_1 _) (MeetsSeq.list_pop_last l its.toArray n u b (by rw[yx];lk)) ⟨e,?_⟩;show⟨y,_,I.lset (its':=its.dropLast) c e ?_ r.dropLast ?_,g,q⟩
 .show its.toArray.eraseIdxIfInBounds (its.toArray.size-1)=its.dropLast.toArray;rw[yx,List.eraseIdxIfInBounds_toArray,erase_last]
 .rw [List.length_dropLast];lk
def qft:V->List V->Hp->VK->Prop:=fun x vs H Q=>∃ l xs i k y,x=.ref l/\vs=[.int i]/\H l=some (.lst xs)/\-(2 ^ 63)<=i/\i<2 ^ 63/\seqIndex? i xs.length=some k/\xs[k]?=some y/\Q y (upd H l (.lst (xs.eraseIdx k)))
theorem mt_popAt:MtM X "list.pop" qft:=by
 intro pins s σ H x vs v us Q I m j h;obtain⟨l,xs,i,k,y,rfl,rfl,b,h1,c,d,f,q⟩:=h;cases m;obtain⟨u,rfl,g⟩:=j.one;obtain⟨t,rfl⟩:=g;obtain⟨z,its,n,r,hl,e⟩:=I.lstM b;obtain⟨w,hw,a⟩:=r.get f;show XE F.slot_list_pop ⟨_,e,rfl⟩ F.entry_list_pop (F.args_list_pop_2 _ _)
  (MeetsSeq.list_pop_at l its.toArray n i t k w (fitsIndex_both h1 c) (by rw[yx,<- hl];show d) (by rw[<- xB];show hw) (by rw[yx];lk)) ⟨e,?_⟩
 show⟨y,_,I.lset (its':=its.eraseIdx k) b e ?_ (r.eraseIdx k) ?_,a,q⟩
 .show its.toArray.eraseIdxIfInBounds k=(its.eraseIdx k).toArray;rw[List.eraseIdxIfInBounds_toArray]
 .have:=qcI xs k;lk
def qfu:V->List V->Hp->VK->Prop:=fun x vs H Q=>∃ l xs,x=.ref l/\vs=[]/\H l=some (.lst xs)/\Q .non (upd H l (.lst []))
theorem mt_clear:MtM X "list.clear" qfu:=by
 intro pins s σ H x vs v us Q I d c h;obtain⟨l,xs,rfl,rfl,b,q⟩:=h;cases d;have a:=c.zero;subst a;obtain⟨z,its,n,r,hl,e⟩:=I.lstM b;show XE F.slot_list_clear ⟨_,e,rfl⟩ F.entry_list_clear (F.args_list_clear_1 _) (AutoSeq1.list_clear_list_0 l its.toArray n (by rw[yx];lk)) ⟨e,?_⟩;show⟨.non,_,I.lset (its':=[]) (ys:=[]) b e rfl .nil (YS _),rfl,q⟩
def qg9:R2:=fun x y H Q=>∃ l b xs a,x=.ref l/\y=.ref b/\H l=some (.lst xs)/\H b=some (.lst a)/\xs.length+a.length<=sizeLine/\∀ p,H p=none->Q (.ref p) (upd H p (.lst (xs++a)))
theorem op_cat:OpR X (binaryOp .Add) qg9:=by
 intro pins s σ H x y v u Q I m o h;obtain⟨l,b,xs,w,rfl,rfl,g,f,hz,q⟩:=h;cases m;cases o;obtain⟨z,its,n,r,hl,e⟩:=I.lstM g;obtain⟨t,a,p,j,i,c⟩:=I.lstM f;show PySem.P.add_list e c ?_ (by rw[yx,yx];lk);have d:its.toArray++a.toArray=(its++a).toArray:=by simp
 rw[d];show⟨.ref _,_,I.lnew (t':=s.toks) (r.append j) (by rw[yt];lk),rfl,q _ I.fresh⟩
def qha:R2:=fun x y H Q=>∃ l k xs,x=.ref l/\y=.int k/\H l=some (.lst xs)/\-(2 ^ 63)<=k/\k<2 ^ 63/\xs.length*k.toNat<=sizeLine /\
 ∀ p,H p=none->Q (.ref p) (upd H p (.lst (List.replicate k.toNat xs).flatten))
theorem len_rep(xs:List α)(k:Nat):(List.replicate k xs).flatten.length=k*xs.length:=by
 induction k with
 | zero=>simp
 | succ k ih=>rw[xu,xo,yt,ih,Nat.succ_mul,Nat.add_comm]
theorem qeA:OpR X (binaryOp .Mult) qha:=by
 intro pins s σ H x y v u Q I A B h;obtain⟨l,k,xs,rfl,rfl,w,h1,p,hz,q⟩:=h;cases A;obtain⟨t,rfl⟩:=B;obtain⟨z,its,n,r,hl,e⟩:=I.lstM w;have f:its.toArray.size*k.toNat<=sizeLine:=by rw[yx,<- hl];show hz
 have c:¬ its.toArray.size*k.toNat>(2 ^ 63-1) / 8:=by
  have:(sizeLine:Nat)<=(2 ^ 63-1) / 8:=by decide
  lk
 have d:¬ (!Builtin.List.listFitsIndex k)=true:=by
  rw[fitsIndex_both h1 p];show Ys
 have b:¬ Builtin.List.listTooLong (its.toArray.size*k.toNat)=true:=by
  rw[qdF f];show Ys
 have g:List.foldl (fun i j=>i++j) #[] (List.replicate (if its.toArray.isEmpty=true then 0 else k.toNat) its.toArray)=(List.replicate k.toNat its).flatten.toArray:=by
  have o:∀ m:Nat,List.foldl (fun i j=>i++j) #[] (List.replicate m its.toArray)=(List.replicate m its).flatten.toArray:=fun m=>by
   have:=qcJ its m [];rw[List.nil_append] at this;show this
  rw[o]
  cases its with
  | nil=>simp
  | cons a r'=>rw[yA (by simp)]
 show wpAny_binaryOp_repeat_ref (T:="list") (U:="int") (by decide) ⟨_,e,rfl⟩ (fun C=>typeIs_int C k t) noFill_list_mul F.fills_int_mul F.slot_int_rmul repeat_list F.slot_int_index.lookup
  (XE F.slot_int_rmul (typeIs_int s k t) F.entry_int_rmul (F.args_int_rmul_2 _ _) (int___rmul___int_list k t l its.toArray n)
   ⟨e,rfl,⟨_,e,rfl⟩,XE F.slot_list_mul ⟨_,e,rfl⟩ F.entry_list_mul (F.args_list_mul_2 _ _) (AutoListH.list___mul___list_int_3 l its.toArray n k t d c b) ⟨e,?_⟩⟩)
 rw[g];show⟨.ref _,_,I.lnew (t':=s.toks) (r.rep k.toNat) (by rw[len_rep,Nat.mul_comm];show hz),rfl,q _ I.fresh⟩
end
section
variable{prog:Program}{w:World}{A:Around}{E:Value->Shared->Prop}{s:Shared}
set_option maxRecDepth 100000 in
end
section
variable{X:Cx}
end
section
variable{κ:Type}[DecidableEq κ]
noncomputable def jR(kvs:List (κ×V))(k:κ):Option V:=(kvs.find? fun a=>decide (a.1=k)).map (·.2)
noncomputable def zI(kvs:List (κ×V))(k:κ)(v:V):List (κ×V):=
 if (kvs.any fun a=>decide (a.1=k))=true then kvs.map (fun a=>if a.1=k then(a.1,v) else a) else kvs++[(k,v)]
noncomputable def dropK(kvs:List (κ×V))(k:κ):List (κ×V):=kvs.filter fun a=>decide (a.1≠k)
theorem jh{p:κ×V}{r:List (κ×V)}{k:κ}(e:p.1=k):jR (p::r) k=some p.2:=by simp[jR,xF,e]
theorem qY{p:κ×V}{r:List (κ×V)}{k:κ}(e:¬ p.1=k):jR (p::r) k=jR r k:=by simp[jR,xF,e]
theorem qaq(k:κ):∀ kvs:List (κ×V),(kvs.any fun a=>decide (a.1=k))=(jR kvs k).isSome
 | []=>rfl
 | p::r=>by
  rw[Xl];by_cases e:p.1=k
  .simp only[jh e,yB e,Bool.true_or,XF]
  .rw [qY e,yl e,Bool.false_or];show qaq k r
theorem qdG(k j:κ)(y:V):∀ kvs:List (κ×V),jR (kvs.map fun a=>if a.1=k then(a.1,y) else a) j=(jR kvs j).map fun x=>if j=k then y else x
 | []=>rfl
 | p::r=>by
  have b:=qdG k j y r;rw[YD];by_cases h:p.1=k
  .rw [yG h];by_cases e:p.1=j
   .rw [jh (p:=(p.1,y)) e,jh e,X3,yG (e.symm.trans h)]
   .rw [qY (p:=(p.1,y)) e,qY e,b]
  .rw [yA h];by_cases e:p.1=j
   .rw [jh (p:=p) e,jh e,X3,yA (fun z=>h (e.trans z))]
   .rw [qY (p:=p) e,qY e,b]
theorem qcK(k j:κ)(y:V):∀ kvs:List (κ×V),jR kvs k=none->jR (kvs++[(k,y)]) j=if j=k then some y else jR kvs j
 | [],_=>by
  by_cases e:k=j
  .rw [yG e.symm];show jh (p:=(k,y)) e
  .rw [yA (fun z=>e z.symm)];show qY (p:=(k,y)) e
 | p::r,hn=>by
  rw[kI];have a:¬ p.1=k:=fun z=>by rw[jh z] at hn;cases hn
  rw[qY a] at hn;have b:=qcK k j y r hn;by_cases e:p.1=j
  .rw [jh e,jh e,yA (fun z=>a (e.trans z))]
  .rw [qY e,qY e,b]
theorem qaQ(kvs:List (κ×V))(k j:κ)(y:V):jR (zI kvs k y) j=if j=k then some y else jR kvs j:=by
 unfold zI;by_cases a:(kvs.any fun c=>decide (c.1=k))=true
 .rw [yG a,qdG];rw[qaq] at a;by_cases e:j=k
  .obtain⟨x,b⟩:=xi.mp a;rw[yG e,e,b,X3,yG rfl]
  .rw [yA e]
   cases jR kvs j with
   | none=>rfl
   | some x=>rw[X3,yA e]
 .rw [yA a];show qcK k j y kvs ?_;rw[qaq] at a
  cases q:jR kvs k with
  | none=>rfl
  | some x=>rw[q] at a;show(a rfl).elim
theorem jB(kvs:List (κ×V))(k:κ)(v:V):(zI kvs k v).length<=kvs.length+1:=by
 unfold zI;split
 .rw [ya];lk
 .rw [yt,yF,Y0];lk
theorem qaR{kvs:List (κ×V)}{k:κ}(v:V)(h:jR kvs k=none):zI kvs k v=kvs++[(k,v)]:=by
 unfold zI;rw[qaq,h];show yA (by decide)
theorem RelO.isSome_eq{u:Option Value}(r:RelO o u):o.isSome=u.isSome:=by
 cases o with
 | none=>cases u with
  | none=>rfl
  | some _=>show(show False from r).elim
 | some _=>cases u with
  | none=>show(show False from r).elim
  | some _=>rfl
theorem RelO.getD{u:Option Value}{d:V}{d':Value}(r:RelO o u)(rd:RelV d d'):RelV (o.getD d) (u.getD d'):=by
 cases o with
 | none=>cases u with
  | none=>show rd
  | some _=>show(show False from r).elim
 | some _=>cases u with
  | none=>show(show False from r).elim
  | some _=>show r
theorem KV.val{kvs:List (κ×V)}{vs:List (κ×Value)}(r:KV kvs vs)(k:κ):RelO (jR kvs k) (valueAt vs k):=by
 unfold KV at r
 induction r with
 | nil=>show Y4
 | @cons p q ps qs h t ih =>
  obtain⟨h1,c⟩:=h;by_cases e:p.1=k
  .have a:q.1=k:=h1.symm.trans e;have b:valueAt (q::qs) k=some q.2:=by simp[valueAt,xF,a]
   rw[jh e,b];show c
  .have a:¬ q.1=k:=fun z=>e (h1.trans z);have b:valueAt (q::qs) k=valueAt qs k:=by simp[valueAt,xF,a]
   rw[qY e,b];show ih
theorem KV.any{kvs:List (κ×V)}{vs:List (κ×Value)}(r:KV kvs vs)(k:κ):(kvs.any fun a=>decide (a.1=k))=vs.any fun a=>decide (a.1=k):=by
 unfold KV at r
 induction r with
 | nil=>rfl
 | cons h t ih=>rw[Xl,Xl,ih,h.1]
theorem KV.repl{kvs:List (κ×V)}{vs:List (κ×Value)}(r:KV kvs vs)(k:κ)(c:RelV y u) :
  KV (kvs.map fun a=>if a.1=k then(a.1,y) else a) (vs.map fun a=>if a.1=k then(a.1,u) else a):=by
 unfold KV at r ⊢
 induction r with
 | nil=>show .nil
 | @cons p q ps qs h t ih =>
  rw[YD,YD];show .cons ?_ ih;obtain⟨h1,b⟩:=h;by_cases e:p.1=k
  .rw [yG e,yG (h1.symm.trans e)];show⟨h1,c⟩
  .rw [yA e,yA (fun z=>e (h1.trans z))];show⟨h1,b⟩
theorem KV.put{kvs:List (κ×V)}{vs:List (κ×Value)}(r:KV kvs vs)(k:κ)(a:RelV y u):KV (zI kvs k y) (stored vs k u):=by
 unfold zI stored;rw[r.any k];by_cases e:(vs.any fun b=>decide (b.1=k))=true
 .rw [yG e,yG e];show r.repl k a
 .rw [yA e,yA e];show Paired.snoc r ⟨rfl,a⟩
theorem KV.length{kvs:List (κ×V)}{vs:List (κ×Value)}(r:KV kvs vs):kvs.length=vs.length:=Paired.length r
end
theorem qed{k:Key}(r:RelV (kV k) u):(jr P w).is k u=true:=by
 cases k with
 | inl i=>obtain⟨t,e⟩:=(show ∃ t,u=Value.int i t from r);subst e;show mixKind_int P w i t
 | inr x=>obtain⟨t,e⟩:=(show ∃ t,u=Value.str x t from r);subst e;show mixKind_str P w x t
theorem qcL:∀{ks:List Key} {us:List Value},Vals (ks.map kV) us->ItemsAre (jr P w) ks us
 | [],_,r=>by rw[List.map_nil] at r;cases r;show .nil
 | k::ks,_,r=>by
  rw[YD] at r
  cases r with
  | cons h t=>show .cons (qed h) (qcL t)
abbrev KT(H:Hp):List (List Key×V)->List (List Key×Addr×Value)->Prop:=Paired fun p q=>p.1=q.1/\H q.2.1=some (.tup (p.1.map kV))/\RelV p.2 q.2.2
theorem KT.val{xs:List (List Key×Addr×Value)}(r:KT H kvs xs)(k:List Key):RelO (jR kvs k) ((atKey xs k).map (·.2)):=by
 induction r with
 | nil=>show Y4
 | @cons p q ps qs h t ih =>
  obtain⟨h1,_,c⟩:=h;by_cases e:p.1=k
  .have a:q.1=k:=h1.symm.trans e;have b:atKey (q::qs) k=some q.2:=by simp[atKey,xF,a]
   rw[jh e,b];show c
  .have a:¬ q.1=k:=fun z=>e (h1.trans z);have b:atKey (q::qs) k=atKey qs k:=by simp[atKey,xF,a]
   rw[qY e,b];show ih
theorem KT.repl{xs:List (List Key×Addr×Value)}(r:KT H kvs xs)(k:List Key)(d:RelV y u) :
  KT H (kvs.map fun a=>if a.1=k then(a.1,y) else a) (xs.map (putAt k u)):=by
 induction r with
 | nil=>show .nil
 | @cons p q ps qs h t ih =>
  rw[YD,YD];show .cons ?_ ih;obtain⟨h1,b,c⟩:=h;unfold putAt;by_cases e:p.1=k
  .rw [yG e,yG (h1.symm.trans e)];show⟨h1,b,d⟩
  .rw [yA e,yA (fun z=>e (h1.trans z))];show⟨h1,b,c⟩
theorem KT.put{xs:List (List Key×Addr×Value)}(r:KT H kvs xs)(k:List Key){b:Addr}(c:H b=some (.tup (k.map kV)))(a:RelV y u) :
  KT H (zI kvs k y) (storedH xs k b u):=by
 have e:(kvs.any fun d=>decide (d.1=k))=(atKey xs k).isSome:=by
  rw[qaq,(r.val k).isSome_eq,xM]
 unfold zI storedH;rw[e];by_cases q:(atKey xs k).isSome=true
 .rw [yG q,yG q];show r.repl k a
 .rw [yA q,yA q];show Paired.snoc r ⟨rfl,c,a⟩
theorem KT.keeps{xs:List (List Key×Addr×Value)}(r:KT H kvs xs)(a:∀ b ys,H b=some (.tup ys)->H' b=some (.tup ys)):KT H' kvs xs:=
 Paired.mapP r fun _ _ z=>⟨z.1,a _ _ z.2.1,z.2.2⟩
section
variable{P:Program}{w:World}{H:Hp}{h:Heap}{a:Addr}
theorem qgj{u:HO}(ok:HOk P w H h)(e:Rd H a u):ObjOk P w H h a u:=e.ok ok
theorem qcM{kvs:List (Key×V)}(ok:HOk P w H h)(e:Rd H a (.dK kvs)):kvs.length<=sizeLine/\(a==sysModules)=false/\∃ vs,KV kvs vs/\h.DictOf (jr P w) a vs:=
 show ObjOk P w H h a (.dK kvs) from qgj ok e
theorem dk_of{kvs:List (Key×V)}(ok:HOk P w H h)(e:H a=some (.dK kvs)):kvs.length<=sizeLine/\(a==sysModules)=false/\∃ vs,KV kvs vs/\h.DictOf (jr P w) a vs:=qcM ok (.inl e)
theorem qb5{ks:List Key}(ok:HOk P w H h)(e:H a=some (.tup (ks.map kV))):(tupleKind (jr P w)).is h ks a:=by
 obtain⟨_,its,r,o,h1,b,n,c⟩:=(show ObjOk P w H h a (.tup (ks.map kV)) from ok a _ e);show⟨o,its.toArray,n,h1,b,c,by simpa using qcL r⟩
theorem qdg(ok:HOk P w H h)(e:Rd H a (.dT kvs)):kvs.length<=sizeLine/\(a==sysModules)=false /\
  ∃ xs,KT H kvs xs/\h.DictOfH (tupleKind (jr P w)) a xs:=by
 obtain⟨z,y,xs,r,o,b,ep,h1,c,d,f,g⟩:=(show ObjOk P w H h a (.dT kvs) from qgj ok e);show⟨z,y,xs,r,o,b,ep,h1,c,d,f,fun x hx=>?_,g⟩
 have all:∀{l:List (List Key×V)} {m:List (List Key×Addr×Value)},KT H l m->∀ x∈m,(tupleKind (jr P w)).is h x.1 x.2.1:=by
  intro l m q
  induction q with
  | nil=>intro x hx;show nomatch hx
  | @cons p q ps qs hq t ih =>
   intro x hx;rcases yy.mp hx with e | hx
   .subst e;show qb5 ok (by rw[<- hq.1];show hq.2.1)
   .show ih x hx
 show all r x hx
theorem dt_of(ok:HOk P w H h)(e:H a=some (.dT kvs)):kvs.length<=sizeLine/\(a==sysModules)=false /\
  ∃ xs,KT H kvs xs/\h.DictOfH (tupleKind (jr P w)) a xs:=qdg ok (.inl e)
end
def DGet(H:Hp)(a:Addr)(y:V)(r:Option V):Prop:=
 (∃ kvs k,Rd H a (.dK kvs)/\y=kV k/\r=jR kvs k)\/∃ kvs k b,Rd H a (.dT kvs)/\y=.ref b/\H b=some (.tup (k.map kV))/\r=jR kvs k
def DPut(H:Hp)(a:Addr)(y v:V)(H':Hp):Prop:=
 (∃ kvs k,H a=some (.dK kvs)/\y=kV k/\kvs.length<sizeLine/\H'=upd H a (.dK (zI kvs k v))) \/
 ∃ kvs k b,H a=some (.dT kvs)/\y=.ref b/\H b=some (.tup (k.map kV))/\kvs.length<sizeLine/\H'=upd H a (.dT (zI kvs k v))
theorem DGet.k{kvs:List (Key×V)}{k:Key}(e:H a=some (.dK kvs)):DGet H a (kV k) (jR kvs k):=.inl ⟨kvs,k,.inl e,rfl,rfl⟩
theorem DPut.k{kvs:List (Key×V)}{k:Key}{v:V}(e:H a=some (.dK kvs))(hl:kvs.length<sizeLine):DPut H a (kV k) v (upd H a (.dK (zI kvs k v))):=.inl ⟨kvs,k,e,rfl,hl,rfl⟩
section
variable{X:Cx}{pins:List (Addr×Obj)}{σ:St}{H:Hp}{s:Shared}{a:Addr}{y v:V}{u r:Value}{o:Option V}{A:Around}{E:Value->Shared->Prop}
theorem Inv.big(I:Inv X pins σ H s):sysModules<s.heap.objs.size:=by
 have h:mainGlobals<s.heap.objs.size:=(I.mod.glob.keeps I.bk).lt;show XM (by decide) h
theorem d_getItem{Q:Value->Shared->Prop}(B:A.units+1<cLine)(I:Inv X pins σ H s)(g:DGet H a y (some v))(n:RelV y u)(h:∀ f q,Inv X pins σ H q->RelV v f->Q f q) :
  wpAny (model X.prog X.w) A (getItem (.ref a) u) Q E s:=by
 rcases g with⟨kvs,k,e,j,l⟩ | ⟨kvs,k,b,e,j,r,l⟩
 .subst j;obtain⟨z,t,vs,c,i⟩:=qcM I.hok e;obtain⟨f,hw,d⟩:=RelO.some_of (v:=v) (o:=valueAt vs k) (by rw[l];show c.val k);show wpAny_getItem_of (qed n) i.mapOf hw (h f _ (I.tok _) d)
 .subst j;cases (show u=Value.ref b from n);obtain⟨z,t,xs,c,i⟩:=qdg I.hok e;obtain⟨f,hw,d⟩:=RelO.some_of (v:=v) (o:=(atKey xs k).map (·.2)) (by rw[l];show c.val k);obtain⟨p,x,m⟩:=yn.mp hw;show wpAny_getItem_heap (Xh B) (qb5 I.hok r) i x ?_;rw[m];show h f _ (I.tok _) d
theorem d_in{Q:Value->Shared->Prop}(p:A.units+1<cLine)(I:Inv X pins σ H s)(g:DGet H a y o)(j:RelV y u)(h:∀ m,Inv X pins σ H m->Q (.bool o.isSome) m) :
  wpAny (model X.prog X.w) A (compareOp .In u (.ref a)) Q E s:=by
 rcases g with⟨kvs,k,e,f,l⟩ | ⟨kvs,k,b,e,f,n,l⟩
 .subst f;obtain⟨z,i,vs,c,d⟩:=qcM I.hok e;show wpAny_in_of (qed j) i d.mapOf ?_;rw[<- (c.val k).isSome_eq,<- l];show h _ (I.tok _)
 .subst f;cases (show u=Value.ref b from j);obtain⟨z,i,xs,c,d⟩:=qdg I.hok e;show wpAny_in_heap (Xh p) (qb5 I.hok n) i d ?_;have q:=(c.val k).isSome_eq;rw[xM] at q;rw[<- q,<- l];show h _ (I.tok _)
theorem d_notIn{Q:Value->Shared->Prop}(p:A.units+1<cLine)(I:Inv X pins σ H s)(g:DGet H a y o)(j:RelV y u)(h:∀ m,Inv X pins σ H m->Q (.bool (!o.isSome)) m) :
  wpAny (model X.prog X.w) A (compareOp .NotIn u (.ref a)) Q E s:=by
 rcases g with⟨kvs,k,e,f,l⟩ | ⟨kvs,k,b,e,f,n,l⟩
 .subst f;obtain⟨z,i,vs,c,d⟩:=qcM I.hok e;show wpAny_notIn_of (qed j) i d.mapOf ?_;rw[<- (c.val k).isSome_eq,<- l];show h _ (I.tok _)
 .subst f;cases (show u=Value.ref b from j);obtain⟨z,i,xs,c,d⟩:=qdg I.hok e;show wpAny_notIn_heap (Xh p) (qb5 I.hok n) i d ?_;have q:=(c.val k).isSome_eq;rw[xM] at q;rw[<- q,<- l];show h _ (I.tok _)
theorem qeB{c:HO}(I:Inv X pins σ H s)(h:Mut (H a))(g:Heap.SameBut a s.heap h')(f:∃ q,h'.get? a=some q)(new:ObjOk X.prog X.w (upd H a c) h' a c) :
  Inv X pins σ (upd H a c) { s with heap:=h',toks:=t' }:=
 I.write (x:=a) (e:=a) h (.inl rfl) (fun b q d z=>(g.2 b d).trans z) f new
theorem dk_new{kvs:List (Key×V)}{vs:List (Key×Value)}(z:kvs.length<=sizeLine)(d:(a==sysModules)=false)(b:KV kvs vs)(c:h'.DictOf (jr P w) a vs) :
  ObjOk P w H' h' a (.dK kvs):=⟨z,d,vs,b,c⟩
theorem d_setItem{Q:Unit->Shared->Prop}(N:A.units+1<cLine)(I:Inv X pins σ H s)(g:DPut H a y v H')(C:RelV y u)(B:RelV v r)(h:∀ D,Inv X pins σ H' D->Q () D) :
  wpAny (model X.prog X.w) A (setItem (.ref a) u r) Q E s:=by
 rcases g with⟨kvs,k,e,n,l,m⟩ | ⟨kvs,k,b,e,n,t,l,m⟩
 .subst n m;obtain⟨z,o,vs,d,j⟩:=dk_of I.hok e;have hz:vs.length<=sizeLine:=by rw[<- d.length];show z
  have hl:(zI kvs k v).length<=sizeLine:=by have:=jB kvs k v;lk
  show wpAny_setItem_pairs (hsz:=hz) (qed C) j fun h' f p=>h _ ?_;have M:∃ q,h'.get? a=some q:=let ⟨q,_,_,i,_⟩:=f;⟨q,i⟩;show qeB I (by rw[e];show Y4) p M (dk_new hl o (d.put k B) f)
 .subst n m;cases (show u=Value.ref b from C);obtain⟨z,o,xs,d,j⟩:=dt_of I.hok e;have hz:xs.length<=sizeLine:=by rw[<- Paired.length d];show z
  have hl:(zI kvs k v).length<=sizeLine:=by have:=jB kvs k v;lk
  show wpAny_setItem_heap (hsz:=hz) (Xh N) (qb5 I.hok t) j fun h' f p=>h _ ?_;obtain⟨q,F,ep,i,G,J,K,_,L⟩:=f;show qeB I (by rw[e];show Y4) p ⟨q,i⟩ ⟨hl,o,_,(d.put k t B).keeps fun c ys x=>?_,q,F,ep,i,G,J,K,L⟩;rw[qf (zJ x e (fun z=>nomatch z))];show x
end
section
variable{X:Cx}{pins:List (Addr×Obj)}{σ:St}{H:Hp}{s:Shared}{a:Addr}{kvs:List (Key×V)}{k:Key}{u:Value}{A:Around}{E:Value->Shared->Prop}
theorem d_len{Q:Value->Shared->Prop}(I:Inv X pins σ H s)(e:Rd H a (.dK kvs))(h:∀ t c,Inv X pins σ H c->Q (.int kvs.length t) c):wpAny (model X.prog X.w) A (call (.builtin "len") [.ref a]) Q E s:=by
 obtain⟨z,f,vs,b,d⟩:=qcM I.hok e;show call_len_dict f d (by rw[<- b.length];rw[YF] at z;lk) ?_;rw[<- b.length];show h _ _ (I.tok _)
end
theorem dict_typeIs(I:Inv X pins σ H s)(g:DGet H a y o):s.TypeIs (.ref a) "dict":=by
 rcases g with⟨kvs,k,e,_,_⟩ | ⟨kvs,k,b,e,_,_,_⟩
 .obtain⟨_,_,vs,_,c⟩:=qcM I.hok e;show c.typeIs
 .obtain⟨_,_,xs,_,c⟩:=qdg I.hok e;show c.typeIs
section
variable{X:Cx}{o i e value:Expr}{pos pos' tpos:Pos}{td ty tv:TE}
end
theorem dk_empty(h:Heap)(a:sysModules<h.objs.size):ObjOk P w H (h.push { cls:=.type "dict",data:=.dict #[] }) h.objs.size (.dK []):=
 ⟨YS _,YV.mpr (Yo (yL a)),[],.nil,Heap.DictOf.new h⟩
def tDNewK:TE:=fun _ H Q=>∀ p,H p=none->Q (.ref p) (upd H p (.dK []))
section
variable{X:Cx}{pos:Pos}
theorem j7:PE X (.Dict [] [] pos) tDNewK:=fun pins s σ H Q I h =>
 wpAny_Dict_empty ⟨.ref s.heap.objs.size,_,I.laid (a:=s.heap.objs.size) (o:=.dK []) (t':=s.toks) (fun _ _ q=>yv _ q) (yh _) (dk_empty s.heap I.big),rfl,h _ (I.hok.fresh (yh _))⟩
end
noncomputable def mergeK(kvs a:List (Key×V)):List (Key×V):=a.foldl (fun acc b=>zI acc b.1 b.2) kvs
structure M1(X:Cx)(o:Expr)(m:Str)(apos:Pos)(e:Expr)(cpos:Pos):Prop where
 base:attributeBase o m X.env (eval o X.env)=eval o X.env
 few:((backTo cpos (starEach [e] X.env)).all (fun x=>!x.1)&&(backToKw cpos (keywordEach [] X.env)).all (fun x=>x.1.isSome)
  && decide (([e]:List Expr).length+([]:List Keyword).length+(if ([]:List Keyword).isEmpty then 0 else 1)<30))=true
 line:(apos.endLine==cpos.line)=true
 trees:backTo cpos (starEach [e] X.env)=[(false,eval e X.env)]
structure M2(X:Cx)(o:Expr)(m:Str)(apos:Pos)(e f:Expr)(cpos:Pos):Prop where
 base:attributeBase o m X.env (eval o X.env)=eval o X.env
 few:((backTo cpos (starEach [e,f] X.env)).all (fun x=>!x.1)&&(backToKw cpos (keywordEach [] X.env)).all (fun x=>x.1.isSome)
  && decide (([e,f]:List Expr).length+([]:List Keyword).length+(if ([]:List Keyword).isEmpty then 0 else 1)<30))=true
 line:(apos.endLine==cpos.line)=true
 trees:backTo cpos (starEach [e,f] X.env)=[(false,eval e X.env),(false,eval f X.env)]
def IsD(H:Hp)(a:Addr):Prop:=(∃ kvs,Rd H a (.dK kvs))\/∃ kvs,Rd H a (.dT kvs)
theorem isD_at(I:Inv X pins σ H s)(d:IsD H a) :
  s.TypeIs (.ref a) "dict"/\(∀ b,Value.ref a=.ref b->∃ c,s.heap.get? b=some c/\c.dict=none)/\(a==sysModules)=false:=by
 rcases d with⟨kvs,e⟩ | ⟨kvs,e⟩
 .obtain⟨_,h,vs,_,f⟩:=qcM I.hok e;show⟨f.typeIs,fun b q=>?_,h⟩;cases q;obtain⟨c,_,_,h1,g,_⟩:=f;show⟨c,h1,g.2.1⟩
 .obtain⟨_,h,xs,_,f⟩:=qdg I.hok e;show⟨f.typeIs,fun b q=>?_,h⟩;cases q;obtain⟨c,_,_,h1,g,_⟩:=f;show⟨c,h1,g.2.1⟩
section
variable{X:Cx}{pins:List (Addr×Obj)}{σ:St}{H:Hp}{s:Shared}{a:Addr}{y d:V}{u r:Value}{o:Option V}{A:Around}{E:Value->Shared->Prop}
theorem d_get1{Q:Value->Shared->Prop}(q:A.units+1<cLine)(I:Inv X pins σ H s)(g:DGet H a y o)(j:RelV y u)(h:∀ n m,Inv X pins σ H m->RelV (o.getD .non) n->Q n m) :
  wpAny (model X.prog X.w) A (call (.builtin "dict.get") [.ref a,u]) Q E s:=by
 rcases g with⟨kvs,k,e,f,l⟩ | ⟨kvs,k,b,e,f,p,l⟩
 .subst f;obtain⟨z,i,vs,c,d⟩:=qcM I.hok e;show call_meetsIn XV d.typeIs PySem.F.entry_dict_get (PySem.F.args_dict_get_2 _ _) (meets_dict_get (jr X.prog X.w) a (qed j) i) ⟨_,d.mapOf,h _ _ (I.tok _) ?_⟩;rw[l];show(c.val k).getD rfl
 .subst f;cases (show u=Value.ref b from j);obtain⟨z,i,xs,c,d⟩:=qdg I.hok e;show call_meetsIn XV d.typeIs PySem.F.entry_dict_get (PySem.F.args_dict_get_2 _ _) (meetsH_dict_get (tupleKind (jr X.prog X.w)) a b i) ⟨Xh q,k,xs,qb5 I.hok p,d,h _ _ (I.tok _) ?_⟩;rw[l];show(c.val k).getD rfl
end
def qfv(d ty:TE):TE:=fun σ H Q=>d σ H fun x b=>∃ a,x=.ref a/\IsD b a/\ty σ b fun y c=>∃ o,DGet c a y o/\Q (o.getD .non) c
def tDGet2(e ty f:TE):TE:=fun σ H Q=>e σ H fun x b=>∃ a,x=.ref a/\IsD b a/\ty σ b fun y d=>f σ d fun z c=>∃ o,DGet c a y o/\Q (o.getD z) c
section
variable{X:Cx}{o e f:Expr}{apos cpos:Pos}{td ty tx:TE}
theorem qaS(q:X.A.units+1<cLine)(p:PE X o td)(n:PE X e ty)(m:M1 X o "get" apos e cpos):PE X (.Call (.Attribute o "get" apos) [e] [] cpos) (qfv td ty):=by
 intro pins s σ H Q I h;show wpAny_Call_method m.base m.few m.line PySem.F.plainAttrs_dict XV PySem.F.type_dict_get (thn (p pins s σ H _ I h) fun u z ⟨x,f,c,v,a,ex,d,r⟩=>?_);subst ex;obtain rfl:u=Value.ref a:=v;obtain⟨B,C,_⟩:=isD_at c d;show⟨B,C,?_⟩;rw[m.trees];show XJ rfl (Calls.evalArgs_plain (kj (thn (n pins z σ f _ c r) fun D G ⟨y,i,j,w,E,g,t⟩=>kx ?_)));show d_get1 q j g w fun K J l b=>⟨_,i,l,b,t⟩
end
section
variable{X:Cx}{pins:List (Addr×Obj)}{σ:St}{H:Hp}{s:Shared}{a:Addr}{kvs:List (Key×V)}{A:Around}{E:Value->Shared->Prop}
end
section
variable{X:Cx}{pins:List (Addr×Obj)}{σ:St}{H:Hp}{s:Shared}{a:Addr}{y:V}{u:Value}{A:Around}{E:Value->Shared->Prop}
end
end L2
namespace Att
open PySem PySem.W PySem.Calls PyProof.Rows
variable{P:Params}{h:Heap}{l:OpenLaw}{n:Nat}
theorem ints_of_wellAll:∀(ns:LY) (vs:List Value),WellAll P h vs (ns.map WData.int)->IntsAre vs ns:=by
 intro ns
 induction ns with
 | nil =>
  intro vs w;rw[List.map_nil] at w;cases w;show .nil
 | cons n ns ih =>
  intro vs w;rw[YD] at w
  cases w with
  | cons a b =>
   cases a;show .cons _ _ (ih _ b)
theorem script_of(p:l.most=some n){args:List WData}{c:List Value}
  (b:l.row.toRowW.claim.pre args=true) (j:WellAll P h c args) :
  ∃ a vs ns,c=[Value.ref a]/\args=[WData.list (ns.map WData.int)]/\h.get? a=some { cls:=.type "list",data:=.seq vs.toArray }/\IntsAre vs ns/\ns.length<=n:=by
 have i:WShape.hasAll [] args [.list .int]=true:=(pre_splitW b).1;have hc:l.pre.holds [] { args:=args }=true:=(pre_splitW b).2;obtain⟨d,r,rfl,h1,m⟩:=hasAllW_cons i;obtain rfl:=hasAllW_nil m;obtain⟨xs,rfl,o⟩:=hasW_list h1;obtain⟨ns,rfl⟩:=items_int o
 have e:ns.length<=n:=by
  unfold OpenLaw.pre at hc
  have f:(WTm.not (.lt (.lit (.int (n:Int))) (.len (.arg 0)))).holds [] { args:=[.list (ns.map .int)] }=true:=by
   have f:=(holds_andW hc).1;rw[p] at f;show f
  have g:=condW_of f (w_not (w_lt w_lit (w_len_list (w_arg rfl))));rw[ya] at g;show Nat.le_of_not_lt fun q=>?_;have s:(n:Int)<((ns.length:Nat):Int):=by lk
  first
   | (rw[yB s] at g;show absurd g (by decide))
   | (simp at g;lk)
 cases j with
 | cons w1 w2 =>
  cases w2
  cases w1 with
  | list ho hall=>show⟨_,_,ns,rfl,rfl,ho,ints_of_wellAll ns _ hall,e⟩
theorem post_true(l:OpenLaw)(args:List WData):l.row.toRowW.claim.post args (.bool true) args=true:=
 postW_of (r:=l.row.toRowW) (X:=(true==true))
  (show WShape.has [] (.bool true) .bool=true by first | rfl | decide | simp[WShape.has,WShape.arms,WShape.armsAll])
  (show(WTm.eq .res (.lit (.bool true))).value [] { args:=args,res:=some (.bool true),after:=args }=some (.bool (true==true)) from w_eq_bool (w_res rfl) w_lit) rfl
theorem attach_call{q:Program}{loose:LS}{XP:(Str->Option Value)->Heap->Prop}{YP:World->Heap->Prop}{d:DefRec}
  (N:l.most=some n) (v:d.params.defaults=[])
  (call:∀(w:World) (c b:Shared) (s z:Str->Option Value) (h:Addr) (o:Obj) (A p e:Value) (a:Addr) (vs:List Value) (ns:LY),
   Ground q loose [] XP w c s z b.heap->YP w b.heap ->
   b.heap.get? h=some o->o.data=.func (docDef d.name d.params d.body d.scope A p e)->b.heap.CodeRec p d.name->s d.name=some (.ref h) ->
   b.heap.get? a=some { cls:=.type "list",data:=.seq vs.toArray }->IntsAre vs ns->ns.length<=n->b.gens=#[] ->
   codeAny (model l.prog w) callerA (.call (.ref h) ⟨[.ref a],[]⟩) (fun r t=>r=.ok (.ret (.bool true))/\OldK b.heap t.heap/\t.os=b.os/\AllBare t.gens) b) :
  WalkO q loose XP YP l.row.toRowW d [] (fun f vs=>PySem.call f vs):=by
 intro w c b s z G Y h o A p e E kV O J u B x K args D as m C R y L;obtain rfl:E=.none:=Dflts.none B v;obtain rfl:kV=.none:=Dflts.noKw B;obtain⟨a,vs,ns,rfl,rfl,j,g,i⟩:=script_of N m y;show enter_call (kR (call w c b s z h o A p e a vs ns G Y O (fd_plain J) u x j g i K) fun r t P=>?_);obtain⟨rfl,F,H,I⟩:=P;show⟨.inl ⟨.bool true,.bool true,[],rfl,fun _=>rfl,.bool true,post_true l _,fun _=>⟨List.Pairwise.nil,fun _ M=>(nomatch M)⟩⟩,F,H,I⟩
section
variable{prog:Program}{w:World}{A:Around}{E:Value->Shared->Prop}{s:Shared}{K:Frag}
noncomputable def ledger(h:Heap)(L d:Addr):List (Addr×Obj):=(List.range h.objs.size).filterMap fun a=>if a=L\/a=d then none else(h.get? a).map fun o=>(a,o)
end
end Att
namespace L2
open PySem PySem.Spec PyProof.Rows
variable{A B:Prop}{H H':Hp}{a f:Addr}{fd:FuncData}{n:Nat}{ps:LS}{qual x:Str}{sp:Sp}{st:Stmt}
theorem qcN:∀{vs:List Value} {ns:LY},IntsAre vs ns->Vals (ns.map V.int) vs
 | _,_,.nil=>.nil
 | _,_,.cons n t h=>.cons ⟨t,rfl⟩ (qcN h)
def qgO(H:Hp):Prop:=∀ b,H b=none\/∃ o xs,H b=some (.frz o (.lst xs))
theorem law_call{P:Program}{w:World}{K:yg}{I U:Str->Option Value}{CX:CXT}{k:Nat}{N:Addr}{c:Shared}{vs:List Value}{ns:LY}
  (X:K.In c.heap) (C:c.heap.Ns mainGlobals I) (f:c.heap.Ns builtinsNs U) (R:∀ x:Str,x≠"__name__"->U x=bootBuiltins x) (B:c.heap.NoLimit) (hg:c.gens=#[])
  (L:c.heap.get? a=some { cls:=.type "list",data:=.seq vs.toArray }) (hi:IntsAre vs ns) (hl:ns.length<=sizeLine) (hr:Room k callerA)
  (F:∀ g:Heap,K.In g->g.Ns mainGlobals I->FnOk P w K I g CX k N fd [x] sp) (p:∀(s:Shared) (u:Value),BindsTo s fd ⟨[u],[]⟩ [(x,u)])
  (T:∀ H:Hp,qgO H->SqL K H a (ns.map V.int)->sp [.ref a] H (fun v _=>v=.bl true) fun _ _ _=>False)
  (O:∀ H e i,CX [] H c (fun _ _ _=>False) e i->False) :
  codeAny (model P w) callerA (.call (.ref N) ⟨[.ref a],[]⟩) (fun r i=>r=.ok (.ret (.bool true))/\OldK c.heap i.heap/\i.os=c.os/\AllBare i.gens) c:=by
 have rv:=qcN hi;have G:=hi.length;have l:∀ H:Hp,qgO H->SqL K H a (ns.map V.int)->HOk P w H c.heap->(∀ b,H b≠none->b=a)->(H a≠none->K.lookup a=none) ->
   codeAny (model P w) callerA (.call (.ref N) ⟨[.ref a],[]⟩) (fun r i=>r=.ok (.ret (.bool true))/\OldK c.heap i.heap/\i.os=c.os/\AllBare i.gens) c:=by
  intro H hO hS D Z hK;have base_of:∀{b:Addr} {o:Obj},c.heap.get? b=some o->H b=none->(qfg c.heap H).get? b=some o:=fun e n=>hidT_get e n
  have W:∀{b:Addr} {o:Obj} {y:Array DictEntry} {ep:Nat},c.heap.get? b=some o->o.data=.dict y ep->H b=none:=fun{b o y ep} e d=>by
   cases q:H b with
   | none=>rfl
   | some u =>
    have M:b=a:=Z b (by rw[q];simp);subst M;rw[L] at e;cases e;have d':Data.seq vs.toArray _=Data.dict y ep:=d;cases d'
  have j:∀{b:Addr} {m:Str->Option Value},c.heap.Ns b m->(qfg c.heap H).Ns b m:=fun{b m} ⟨o,y,ep,e,d,r⟩=>⟨o,y,ep,base_of e (W e d),d,r⟩
  have A:K.In (qfg c.heap H):=fun b o e=>base_of (X b o e) (by
   cases q:H b with
   | none=>rfl
   | some u =>
    have M:b=a:=Z b (by rw[q];simp);subst M;rw[hK (by rw[q];simp)] at e;cases e)
  have hM:Mod K I (qfg c.heap H):=⟨A,j C,⟨U,j f,R⟩,let ⟨mc,h1,h2⟩:=B;⟨mc,j h1,h2⟩⟩;have e0:Env0 P w K I (qfg c.heap H) callerA [] c H:=⟨rfl,hM,fun b o e=>of_hidT e,kh (hidT_size _ _),trivial,fun b f=>absurd (show b∈([]:LX) from f) (by simp),D,.of_eq hg⟩;show kR ((F _ A (j C)).run callerA [] c H ⟨[.ref a],[]⟩ [.ref a] [.ref a] _ _ hr e0 (p c (.ref a)) (.cons rfl .nil) (T H hO hS)) fun r i h=>?_
  cases r with
  | error e=>show(O H e i h).elim
  | ok fl =>
   cases fl with
   | next=>show False.elim h
   | brk=>show False.elim h
   | cont=>show False.elim h
   | ret u =>
    obtain⟨v,H',os,t,un,E,r',q⟩:=h;have q':v=.bl true:=q;subst q';obtain rfl:u=Value.bool true:=r';show⟨rfl,OldK.of_keep fun b o e=>?_,os,t⟩
    cases q:H b with
    | none=>show un.keep b o e q (by intro z;show absurd (show b∈([]:LX) from z) (by simp)) (by simp)
    | some u =>
     rcases hO b with z | ⟨ob,xs,z⟩
     .rw [q] at z;cases z
     .have z2:=un.frzs b ob _ z;obtain⟨Y,_⟩:=D b _ z;obtain⟨e2,_⟩:=E b _ z2;rw[e] at Y;cases Y;show e2
 cases S:K.lookup a with
 | some o =>
  have e:=X a o S;rw[L] at e;cases e;show l (fun _=>none) (fun _=>.inl rfl) (.inr ⟨_,vs.toArray,_,S,rfl,rfl,rfl,by rw[yx,G];show hl,by simpa using rv⟩) (fun b u z=>by have J:(none:Option HO)=some u:=z;cases J) (fun b z=>absurd rfl z) fun z=>absurd rfl z
 | none =>
  show l (fun b=>if b=a then some (.frz { cls:=.type "list",data:=.seq vs.toArray } (.lst (ns.map V.int))) else none) (fun b=>?_) (.inl (.inr ⟨{ cls:=.type "list",data:=.seq vs.toArray },yG rfl⟩)) (fun b u z=>?_) (fun b z=>?_) fun _=>S
  .by_cases f:b=a
   .show .inr ⟨_,_,yG f⟩
   .show .inl (yA f)
  .by_cases f:b=a
   .have J:=(yG f).symm.trans z;cases J;subst f;show⟨L,by rw[ya];show hl,vs,_,rv,L⟩
   .have J:=(yA f).symm.trans z;cases J
  .by_cases f:b=a
   .show f
   .show absurd (yA f) z
noncomputable abbrev KOf{K:yg}{h:Heap}(_:K.In h):yg:=K
theorem walk_of{l:PySem.W.OpenLaw}{k:Nat}{q:Program}{loose:LS}{XP:(Str->Option Value)->Heap->Prop}{YP:World->Heap->Prop}{d:DefRec}{K:Params->yg}{CX:World->CXT}{sp:World->Sp}
  (U:l.most=some n) (B:n<=sizeLine) (z:d.params.defaults=[]) (X:Room k callerA)
  (O:∀(w:World) (h:Heap),YP w h->(K w.params).In h)
  (F:∀(w:World) (m:Str->Option Value) (t:Addr) (h:Heap),(K w.params).In h->h.Ns mainGlobals m->m d.name=some (.ref t) ->
   ∃ fd:FuncData,(∀(s:Shared) (u:Value),BindsTo s fd ⟨[u],[]⟩ [(x,u)]) /\
    ∀ c:Heap,(K w.params).In c->c.Ns mainGlobals m->FnOk l.prog w (K w.params) m c (CX w) k t fd [x] (sp w))
  (C:∀(w:World) (H:Hp) (a:Addr) (ns:LY),ns.length<=n->qgO H->SqL (K w.params) H a (ns.map V.int)->sp w [.ref a] H (fun v _=>v=.bl true) fun _ _ _=>False)
  (y:∀(w:World) (H:Hp) (s:Shared) (e:Value) (D:Shared),CX w [] H s (fun _ _ _=>False) e D->False) :
  PySem.W.WalkO q loose XP YP l.row.toRowW d [] (fun f vs=>PySem.call f vs):=by
 show Att.attach_call U z fun w I r m mb t o pm Z J a vs ns G Y ho hd R A p j i S=>?_;have E:=O w _ Y;obtain⟨fd,P,L⟩:=F w m t _ E G.T.g A;show law_call E G.T.g G.T.b G.T.builtins G.T.nolimit S p j (yi i B) X L P (fun H M N=>C w H a ns i M N) fun H e D=>y w H r e D
abbrev CX0:CXT:=fun _ _ _ _ _ _=>False
abbrev E0:XK:=fun _ _ _=>False
theorem qB{X:Cx}:qbi CX0 X E0:=fun _ _ _ _ _ _ _ h=>h.elim
structure Fun(K:yg)(x qual:Str)(st:Stmt)(f:Addr)(fd:FuncData):Prop where
 ex:∃(oc:Value) (od:Option Addr) (kV doc pm:Value) (an:Option Addr) (cdv ct:Value) (osl:Array (Option Value)),
  fd=PySem.W.fnOf x qual (qaH st) (qaf st) (qh st) .none kV doc pm an cdv ct/\K.lookup f=some ⟨oc,od,.func fd,osl⟩/\PySem.W.codeIn K cdv qual=true
 kp:PySem.W.keepIn K (.ref f)=true
section
variable{P:Program}{w:World}{K:yg}{mg:Str->Option Value}{base:Heap}
theorem Fun.ok{N:LS}{k:Nat}(F:Fun K x qual st f fd)(S:FnScope N ps (qh st)) (c:∀(b:Value) (A:Around) (a:List Env) (s:Shared) (H:Hp) (vs:List V) (Q:VK) (E:XK),Room k (A.deeper (envOfC qual (qh st) s.heap.objs.size f b))->sp vs H Q E ->
   ∃ t,PSs (qf4 CX0 P w K mg base N qual (qh st) f b A a s H E).nox (qaf st) t/\t { nx:=fun _ H'=>Q .non H',rt:=Q } (start N vs) H) (g:∀ vs H Q E,sp vs H Q E->vs.length=ps.length:=by intro _ _ _ _ h;cases h;subst_vars;rfl):FnOk P w K mg base CX0 (k+1) f fd ps sp:=by
 obtain⟨o,od,kV,i,p,n,b,ct,m,rfl,l,d⟩:=F.ex;show fn_of l d S g fun A a s H vs Q E j e=>?_;obtain⟨t,h,q⟩:=c b A a s H vs Q E j e;show⟨t,h.nox,q⟩
theorem Fun.binds(F:Fun K x qual st f fd)
  (h:∀(kV b d:Value) (c:Option Addr) (a ct:Value) (us:List Value),us.length=ps.length->bindArgs (PySem.W.fnOf x qual (qaH st) (qaf st) (qh st) .none kV b d c a ct) ⟨us,[]⟩=pure (ps.zip us)):Binds K fd ps []:=by
 obtain⟨j,od,kV,b,d,c,a,ct,g,rfl,i,e⟩:=F.ex;show .all (h kV b d c a ct)
theorem fun_mk{h:Value}{od e:Option Addr}{d:Array (Option Value)}{kV b g a ct:Value}(l:K.lookup f=some ⟨h,od,.func (PySem.W.fnOf x qual (qaH st) (qaf st) (qh st) .none kV b g e a ct),d⟩)
  (c:PySem.W.codeIn K a qual=true) (k:PySem.W.keepIn K (.ref f)=true):Fun K x qual st f (PySem.W.fnOf x qual (qaH st) (qaf st) (qh st) .none kV b g e a ct):=⟨⟨h,od,kV,b,g,e,a,ct,d,rfl,l,c⟩,k⟩
end
theorem qi(h:n<=1000):n<sizeLine:=Yp h (by decide)
section
variable{X:Cx}
theorem pv(i:Nat){b:Pos}(c:X.N[i]?=some x:=by rfl)(hv:Vis X.env.scope x:=by first | show yJ rfl | show Xm (yJ rfl) | show Xm (Xm rfl))(d:(x==("__debug__":Str))=false:=by decide)
  (a:(x==("__classdict__":Str))=false:=by decide):PE X (.Name x b) (qgJ i):=pe_var c hv d a
theorem call_lenD:qab X (.builtin "len") (fun xs H Q=>∃ a kvs,xs=[V.ref a]/\H a=some (.dK kvs)/\Q (.int kvs.length) H):=by
 intro b s g H xs us Q I r h;obtain⟨a,kvs,rfl,d,q⟩:=h;obtain⟨u,rfl,e⟩:=qbY r;cases e;show d_len I (.inl d) fun t f c=>⟨.int kvs.length,H,c,⟨t,rfl⟩,q⟩
end
theorem zZ(h:A):if true=true then A else B:=by
 rw[yG rfl];show h
theorem qL{c:Prop}[Decidable c](h1:c->A)(a:¬ c->B):if c then A else B:=by
 by_cases h:c
 .rw [yG h];show h1 h
 .rw [yA h];show a h
def Same(H H':Hp):Prop:=∀ b o,H b=some o->H' b=some o
theorem Same.refl(H:Hp):Same H H:=fun _ _ h=>h
theorem Same.trans{d e:Hp}(a:Same H d)(b:Same d e):Same H e:=fun c o h=>b c o (a c o h)
theorem Same.free(e:Same H H'){l:Addr}(h:H' l=Option.none):H l=Option.none:=by
 cases q:H l with
 | none=>rfl
 | some o =>
  rw[e l o q] at h;cases h
theorem Same.seq{K:yg}{xs:List V}(e:Same H H')(h:SqL K H a xs):SqL K H' a xs:=by
 rcases h with(h | ⟨o,h⟩) | h
 .show .inl (.inl (e _ _ h))
 .show .inl (.inr ⟨o,e _ _ h⟩)
 .show .inr h
section
variable{κ:Type}[DecidableEq κ]
end
end L2
set_option maxHeartbeats 4000000
namespace L2
open PySem PySem.Spec PyProof.Rows
variable{C D c e it p:Addr}{E:Value->Shared->Prop}{H:Hp}{N:LS}{P:Program}{QO:Option Int->Hp->Prop}{R:It->Hp->Prop}{T:String}{X:Cx}{acc:List (Str×Addr)}{dx:Option Addr}{elt iter tg:Expr}{env:Env}{expr:Bool}{f:V->List V->Hp->VK->Prop}{fp:LX}{g:TG}{h:Heap}{i j:Int}{ifs:List Expr}{its:List Value}{ixs:LN}{n nl:Nat}{names:List (Str×NameKind)}{od:Option Obj}{ox:Obj}{pins:List (Addr×Obj)}{pl:Sem Bool}{pos:Pos}{s:Shared}{sc scope:Scope}{t u:Value}{tc:TT}{te:TE}{tk:Tok}{v y:V}{w:World}{wi:TI}{x z:Str}{xs ys:List V}{σ:St}
section
variable{prog:Program}{w:World}{A:Around}{R:Result->Shared->Prop}{s:Shared}
theorem compLoop_own{a:Expr}{it acc:Value}(I:Nat->Shared->Prop)
  (turn:∀ n s,I n s->wpAny (model prog w) A (pyNext it) (fun r e=>match r with
   | none=>R (.ok .next) e
   | some v=>wpAny (model prog w) A (letOwnedTupleGo a it v) (fun _ b=>wpAny (model prog w) A (assign a env v) (fun _ i =>
     wpAny (model prog w) A (forIn ifs true fun c r=>if r=true then do let ok <- isTrue c env (eval c env);pure (ForInStep.yield ok) else pure (ForInStep.yield r)) (fun ok f =>
      if ok=true then wpAny (model prog w) A (eval elt env) (fun x j =>
       wpAny (model prog w) A (call (.builtin "list.append") [acc,x]) (fun _ l=>∃ m,m<n/\I m l) (fun _ _=>False) j) (fun _ _=>False) f
      else ∃ m,m<n/\I m f) (fun _ _=>False) i) (fun _ _=>False) b) (fun _ _=>False) e) (fun _ _=>False) s)
  (n:Nat) (h:I n s) :
  codeAny (model prog w) A (.compLoop (.ListComp elt [⟨a,iter,ifs,0⟩] scope pos) 0 it acc env) R s:=by
 show codeAny_loop rfl I (fun n s t=>?_) n h;show wpAny _ A ((compTurn (.ListComp elt [⟨a,iter,ifs,0⟩] scope pos) 0 it acc env).onRaise (fun x=>do noteFrame x env;theTreesLotGoes x)) _ _ s;show wpAny_noted ?_;rw[compTurn_list];show yr (wpAny_standAt (yr (Y3 (turn n s t) (fun r e h1=>?_) fun _ _ h'=>h'.elim)))
 cases r with
 | none=>show yw h1
 | some v =>
  show yr (Y3 h1 (fun _ b d=>?_) fun _ _ h'=>h'.elim);show yr (Y3 d (fun _ i o=>yr (Y3 o (fun ok f g=>?_) fun _ _ h'=>h'.elim)) fun _ _ h'=>h'.elim)
  cases ok with
  | false=>show yw ⟨rfl,g⟩
  | true =>
   show yr (yr (Y3 g (fun x j p=>yr (Y3 p (fun _ l q=>yw (yw ⟨rfl,q⟩)) fun _ _ h'=>h'.elim)) fun _ _ h'=>h'.elim))
end
noncomputable def qQ(env:Env):List (Str×NameKind)->List (Str×Addr)->List (Str×Addr)
 | [],acc=>acc
 | (n,k)::r,acc=>qQ env r (if (k==.free)=true then(n,(env.cells.lookup n).getD 0)::acc else acc)
theorem zL:∀{names:List (Str×NameKind)} {acc:List (Str×Addr)} {x:Str} {c:Addr},(qQ env names acc).lookup x=some c ->
  ((x,NameKind.free)∈names/\c=(env.cells.lookup x).getD 0)\/acc.lookup x=some c
 | [],_,_,_,h=>.inr h
 | (n,k)::r,acc,x,c,h=>by
  unfold qQ at h;rcases zL h with⟨h1,f⟩ | h1
  .show .inl ⟨yz _ h1,f⟩
  .by_cases a:(k==NameKind.free)=true
   .rw [yG a,Y8] at h1
    cases b:x==n with
    | true =>
     rw[b] at h1;have e:x=n:=Yw.mp b;have d:k=.free:=Yw.mp a;subst e d;show .inl ⟨yO,(ym h1).symm⟩
    | false =>
     rw[b] at h1;show .inr h1
   .rw [yA a] at h1;show .inr h1
theorem qaT:∀{names:List (Str×NameKind)} {acc:List (Str×Addr)} {x:Str},(∃ c,acc.lookup x=some c)->∃ c,(qQ env names acc).lookup x=some c
 | [],_,_,h=>h
 | (n,k)::r,acc,x,h=>by
  unfold qQ;apply qaT;by_cases a:(k==NameKind.free)=true
  .rw [yG a,Y8]
   cases b:x==n with
   | true=>show⟨_,rfl⟩
   | false=>show h
  .rw [yA a];show h
theorem zM:∀{names:List (Str×NameKind)} {acc:List (Str×Addr)} {x:Str},(x,NameKind.free)∈names->∃ c,(qQ env names acc).lookup x=some c
 | [],_,_,h=>by cases h
 | (n,k)::r,acc,x,h=>by
  unfold qQ;rcases yy.mp h with e | e
  .cases e;apply qaT;rw[show(NameKind.free==NameKind.free)=true from rfl,yG rfl,Y8,xx];show⟨_,rfl⟩
  .show zM e
theorem qaU(h:∀ n,(n,NameKind.free)∈scope.names->∃ c,env.cells.lookup n=some c):closureFor scope env=pure (qQ env scope.names []):=by
 have f:∀(names:List (Str×NameKind)) (acc:List (Str×Addr)),(∀ n,(n,NameKind.free)∈names->∃ c,env.cells.lookup n=some c) ->
   (forIn names acc (fun(x:Str×NameKind) (r:List (Str×Addr))=>(if (x.2==NameKind.free)=true then(cellOf env x.1>>=fun c=>pure (ForInStep.yield ((x.1,c)::r))) else pure (ForInStep.yield r):Sem (ForInStep (List (Str×Addr))))))=(pure (qQ env names acc):Sem (List (Str×Addr))):=by
  intro names
  induction names with
  | nil=>intro acc _;rfl
  | cons x r ih =>
   intro acc d;obtain⟨n,k⟩:=x;rw[kX];unfold qQ;by_cases a:(k==NameKind.free)=true
   .have g:k=.free:=Yw.mp a;subst g;obtain⟨c,hc⟩:=d n yO;have i:cellOf env n=pure c:=by unfold cellOf;rw[hc]
    simp only[a,Xv,i,hc,Option.getD_some];show ih _ fun m b=>d m (yz _ b)
   .simp only[a,Xa];show ih _ fun m b=>d m (yz _ b)
 have e:=f scope.names [] h;unfold closureFor;show Eq.trans (congrArg (fun m=>m>>=pure) e) rfl
@[reducible] noncomputable def Cx.comp(X:Cx)(N:LS)(scope:Scope)(C:Addr)(s0:Shared)(H0:Hp)(ex:LX):Cx where
 prog:=X.prog
 w:=X.w
 K:=X.K
 mg:=X.mg
 base:=X.base
 A:=X.A
 N:=N
 s₀:=s0
 H₀:=H0
 env:=compEnvC scope (cellsFrom (C+1) scope.names (qQ X.env scope.names [])) C X.env
 outer:=X.stack
 stack:=X.stack
 ex:=ex
 fn:=fun x=>scope.names.lookup x==some NameKind.cell
 calm:=X.calm
 pn:=[]
 xe:=fun _ _=>False
theorem ju:∀(names:List (Str×NameKind)) (n:Nat) (acc:List (Str×Addr)),cellsFrom n names acc=cellsFrom n names []++acc
 | [],_,_=>rfl
 | (m,k)::r,n,acc=>by
  unfold cellsFrom;split
  .rw [ju r (n+1) ((m,n)::acc),ju r (n+1) [(m,n)],Yl];rfl
  .show ju r n acc
theorem qaV:∀{names:List (Str×NameKind)} {n:Nat} {x:Str},(x,NameKind.cell)∈names->∃ c,(cellsFrom n names []).lookup x=some c
 | (m,k)::r,n,x,h=>by
  unfold cellsFrom;rcases yy.mp h with e | e
  .cases e;rw[yG (show(NameKind.cell==NameKind.cell)=true from rfl),ju,xA]
   cases q:(cellsFrom (n+1) r []).lookup m with
   | some c=>show⟨c,rfl⟩
   | none=>show⟨n,by show List.lookup m [(m,n)]=some n;rw[Y8,xx]⟩
  .split
   .rw [ju,xA];obtain⟨c,hc⟩:=qaV (n:=n+1) e;show⟨c,by rw[hc];rfl⟩
   .show qaV e
theorem qbK:∀{names:List (Str×NameKind)} {n:Nat} {x:Str} {c:Addr},(x,c)∈cellsFrom n names []->(x,NameKind.cell)∈names
 | (m,k)::r,n,x,c,h=>by
  unfold cellsFrom at h;split at h
  .rename_i hk
   rw[ju] at h;rcases yC.mp h with z | z
   .show yz _ (qbK z)
   .have e:(x,c)=(m,n):=yH.mp z;cases e;rw[Yw.mp hk];show yO
  .show yz _ (qbK h)
theorem qbL(h:(cellsFrom n names acc).lookup x=some c):(x,c)∈cellsFrom n names []\/acc.lookup x=some c:=by
 rw[ju,xA] at h
 cases e:(cellsFrom n names []).lookup x with
 | some d=>rw[e] at h;cases h;show .inl (mem_of_lookup e)
 | none=>rw[e] at h;show .inr h
theorem cells_some(h:(x,NameKind.cell)∈names\/∃ c,acc.lookup x=some c):∃ c,(cellsFrom n names acc).lookup x=some c:=by
 rw[ju,xA]
 cases e:(cellsFrom n names []).lookup x with
 | some d=>show⟨d,rfl⟩
 | none =>
  rcases h with z | ⟨c,hc⟩
  .obtain⟨d,a⟩:=qaV (n:=n) z;rw[e] at a;cases a
  .show⟨c,hc⟩
section
variable{M:Model}{A:Around}{E:Value->Shared->Prop}{s:Shared}
theorem newEnvK{c:Addr}{b:List (Str×Addr)}{g:Str}{f:Option Addr}{e:Value}{d:Env}{a:Addr}{Q:Env->Shared->Prop}
  (j:Q (newEnv scope s.heap.objs.size c (cellsFrom (s.heap.objs.size+1) scope.names b) g f e (some d) a) { s with heap:=pushCells (s.heap.push { cls:=.type "dict",data:=.dict #[] }) scope.names }) :
  wpAny M A (newFunctionEnv scope c b [] g f e (some d) a) Q E s:=by
 simp only[newFunctionEnv,XF,Xv];show yr (wpAny_alloc ?_);show yr (wpAny_layCells _ (fun name kind h=>by cases i:kind==NameKind.cell<;>simp[i]) _ _ _ _ ?_);rw[show({ s with heap:=s.heap.push { cls:=.type "dict",data:=.dict #[] } }:Shared).heap.objs.size=s.heap.objs.size+1 from xz ..];rw[k9];show yr (yw (yw j))
end
structure CompOk(sc scope:Scope):Prop where
 kind:scope.kind=.function
 cel:∀ y∈scope.names,y.2=.cell->scope.names.lookup y.1=some .cell
 loc:∀ y∈scope.names,y.2=.local->scope.names.lookup y.1=some .local
 free:∀ y∈scope.names,y.2=.free->sc.names.lookup y.1=some .cell\/sc.names.lookup y.1=some .free
 once:∀ y∈scope.names,y.2=.free->scope.names.lookup y.1=some .free
noncomputable def qcO(sc scope:Scope):Bool:=decide (scope.kind=.function)&&scope.names.all fun y=>match y.2 with
 | .local=>scope.names.lookup y.1==some .local
 | .free=>(sc.names.lookup y.1==some .cell||sc.names.lookup y.1==some .free)&&scope.names.lookup y.1==some .free
 | .cell=>scope.names.lookup y.1==some .cell
 | _=>true
theorem qdH(h:qcO sc scope=true):CompOk sc scope:=by
 unfold qcO at h;rw[yX] at h;have b:=YI.mp h.2;show⟨yk h.1,fun y a e=>?_,fun y a e=>?_,fun y a e=>?_,fun y a e=>?_⟩
 .have:=b y a;rw[e] at this;show Yw.mp this
 .have:=b y a;rw[e] at this;show Yw.mp this
 .have:=b y a;rw[e,yX,Y1] at this;show this.1.imp Yw.mp Yw.mp
 .have:=b y a;rw[e,yX] at this;show Yw.mp this.2
noncomputable def qgF(nl:Nat)(ixs:LN)(N XN:LS)(names:List (Str×NameKind)):Bool:=(List.range ixs.length).all fun k=>match ixs[k]?,N[nl+k]? with
 | some j,some x=>XN[j]?==some x&&names.any fun y=>y.1==x&&y.2==.free
 | _,_=>true
theorem qeC{XN:LS}(h:qgF nl ixs N XN names=true)(k j:Nat)(x:Str)(h1:ixs[k]?=some j)(c:N[nl+k]?=some x):XN[j]?=some x/\(x,NameKind.free)∈names:=by
 have d:k<ixs.length:=(yc.mp h1).1;have:=YI.mp h k (Ym.mpr d);rw[h1,c] at this;simp only[yX] at this;show⟨Yw.mp this.1,?_⟩;obtain⟨⟨n,g⟩,f,e⟩:=YJ.mp this.2;rw[yX] at e;have a:n=x:=Yw.mp e.1;have b:g=.free:=Yw.mp e.2;subst a b;show f
noncomputable def qel(nl:Nat)(ixs:LN)(σ:St):St:=List.replicate nl none++ixs.map fun j=>(σ[j]?).getD none
theorem capS_len(nl:Nat)(ixs:LN)(σ:St):(qel nl ixs σ).length=nl+ixs.length:=by
 unfold qel;rw[yt,YR,ya]
theorem qdI{i:Nat}(h:(qel nl ixs σ)[i]?=some (some v)):nl<=i/\∃ j,ixs[i-nl]?=some j/\σ[j]?=some (some v):=by
 unfold qel at h;by_cases a:i<nl
 .rw [Yg (by rw[YR];show a),x0] at h;split at h<;>cases h
 .rw [yP (by rw[YR];lk),YR,yd] at h;show⟨by lk,?_⟩
  cases e:ixs[i-nl]? with
  | none=>rw[e] at h;cases h
  | some j =>
   rw[e] at h;have h':(σ[j]?).getD none=some v:=ym h
   cases q:σ[j]? with
   | none=>rw[q] at h';cases h'
   | some u =>
    rw[q] at h';show⟨j,rfl,by rw[q];show congrArg some h'⟩
noncomputable def qfi(env:Env)(y:Str×NameKind):Str×NameKind:=if (y.2==NameKind.free&&env.scope.kind==.function&&env.kindOf y.1==some .cell)=true then(y.1,NameKind.cell) else(y.1,y.2)
theorem relF_fst(env:Env)(y:Str×NameKind):(qfi env y).1=y.1:=by unfold qfi;split<;>rfl
theorem relF_snd(env:Env)(y:Str×NameKind):(qfi env y).2=y.2\/((qfi env y).2=.cell/\y.2=.free):=by
 unfold qfi;split
 .rename_i h
  rw[yX,yX] at h;show .inr ⟨rfl,Yw.mp h.1.1⟩
 .show .inl rfl
theorem zt:∀{names:List (Str×NameKind)} {x:Str} {k:NameKind},(names.map (qfi env)).lookup x=some k->∃ b,names.lookup x=some b/\(x,b)∈names/\(k=b\/(k=.cell/\b=.free))
 | [],_,_,h=>by cases h
 | (n,k1)::r,x,k,h=>by
  rw[YD,show qfi env (n,k1)=((qfi env (n,k1)).1,(qfi env (n,k1)).2) from rfl,Y8,relF_fst] at h;rw[Y8]
  cases c:x==n with
  | true =>
   have e:x=n:=Yw.mp c;subst e;have a:(x==(x,k1).1)=true:=c;rw[a] at h;have h':=ym h;show⟨k1,rfl,yO,?_⟩;rcases relF_snd env (x,k1) with z | ⟨z1,z2⟩
   .show .inl (h'.symm.trans z)
   .show .inr ⟨h'.symm.trans z1,z2⟩
  | false =>
   have a:(x==(n,k1).1)=false:=c;rw[a] at h;obtain⟨b,d,f,g⟩:=zt h;show⟨b,d,yz _ f,g⟩
section
variable{X:Cx}{pins:List (Addr×Obj)}{σ:St}{H:Hp}{s:Shared}
theorem comp_free_of{b:List (Str×Addr)}(h:(compEnvC scope b C X.env).kindOf x=some .cell\/(compEnvC scope b C X.env).kindOf x=some .free):(x,NameKind.cell)∈scope.names\/(x,NameKind.free)∈scope.names:=by
 rcases h with h | h
 .obtain⟨c,_,a,e | ⟨_,e⟩⟩:=zt (env:=X.env) (names:=scope.names) h
  .rw [<- e] at a;show .inl a
  .rw [e] at a;show .inr a
 .obtain⟨c,_,a,e | ⟨e,_⟩⟩:=zt (env:=X.env) (names:=scope.names) h
  .rw [<- e] at a;show .inr a
  .cases e
theorem Inv.comp{T:Obj}{h1:Heap}{tk:Nat}(I:Inv X pins σ H s)(O:CompOk X.env.scope scope)
  (hN:N.length=nl+ixs.length) (J:∀(k j:Nat) (x:Str),ixs[k]?=some j->N[nl+k]?=some x->X.N[j]?=some x/\(x,NameKind.free)∈scope.names)
  (R:∀ b∈fp,qc9 X pins H b) (K:∀ b∈fp,b<s.heap.objs.size) (M:s.heap.objs.size<=C) (Y:s.heap.objs.size<=D) (Z:D≠C) (ad:h1.Ns C fun _=>none) (k:∀ b o,s.heap.get? b=some o->h1.get? b=some o)
  (ae:h1.get? D=some T) (ab:∀ v,T.data≠.cell v) (E:CellsOk h1 (C+1) (cellsFrom (C+1) scope.names [])):Inv (X.comp N scope C s H fp) [(D,T)] (qel nl ixs σ) H { s with heap:=h1,toks:=tk }:=by
 have a:∀ x c,(qQ X.env scope.names []).lookup x=some c->X.env.cells.lookup x=some c/\(x,NameKind.free)∈scope.names:=fun x c h=>by
  rcases zL h with⟨h1,L⟩ | h1
  .obtain⟨G,l⟩:=I.ok.has x (by
    rcases O.free _ h1 rfl with z | z
    .show .inl z
    .show .inr z)
   rw[l] at L;show⟨by rw[l,L];rfl,h1⟩
  .cases h1
 have big:∀ c:Addr,C+1<=c->s.heap.objs.size<=c:=fun c h=>yi M (Nat.le_of_succ_le h);have S:∀{P:Prop} {c:Addr},C+1<=c->c<s.heap.objs.size->P:=fun h g=>absurd (yj g (big _ h)) (YC _)
 have all:∀ x c,(cellsFrom (C+1) scope.names (qQ X.env scope.names [])).lookup x=some c->((x,c)∈cellsFrom (C+1) scope.names []/\C+1<=c/\h1.IsCell c none)\/(X.env.cells.lookup x=some c/\c<s.heap.objs.size):=fun x c h=>by
  rcases qbL h with z | z
  .show .inl ⟨z,(E.empty _ _ z).2,(E.empty _ _ z).1⟩
  .obtain⟨_,q⟩:=I.cell x c (a x c z).1;show .inr ⟨(a x c z).1,q.lt⟩
 show⟨⟨I.ok.mod,O.kind,I.ok.glob,I.ok.blt,M,fun x y c h1 L=>?inj,fun x hx=>cells_some ((comp_free_of hx).imp id zM),fun x c z h=>?cab,I.ok.hd,I.ok.frames,.inl rfl,
   fun b w=>⟨yL (yj (K b w) M),fun x c e=>?exf⟩,I.bs,yi I.ok.bsz I.sz,fun b o e w=>?_,fun b w z=>?_,I.stack,I.stkFree⟩,
  rfl,I.bare,Un.kept k,⟨_,ad,fun i x v e1 e2 e3=>?_⟩,fun x c e=>?_,I.hok.fresh M,fun x c e=>?fre,fun p hp=>?_,I.hok.kept k,?_⟩
 case inj =>
  rcases all x c h1 with⟨r,f,_⟩ | ⟨r,f⟩<;>rcases all y c L with⟨U,W,_⟩ | ⟨U,W⟩
  .show name_of_addr E.apart r U
  .show S f W
  .show S W f
  .show I.ok.inj x y c r U
 case cab =>
  rcases all x c h with⟨_,f,_⟩ | ⟨r,f⟩
  .show big _ f
  .exfalso;obtain⟨d,F⟩:=qaV (n:=C+1) (mem_of_lookup (Yw.mp z));have h:(cellsFrom (C+1) scope.names (qQ X.env scope.names [])).lookup x=some c:=h;rw[ju,xA,F] at h;cases h;show S (E.empty _ _ (mem_of_lookup F)).2 f
 case exf =>
  rcases all x c e with⟨_,f,_⟩ | ⟨r,_⟩
  .show fun z=>S f (by rw[z];show K b w)
  .show(R b w).2.2.2.2.1 x c r
 case fre =>
  rcases all x c e with⟨_,f,_⟩ | ⟨r,_⟩
  .show I.hok.fresh (big _ f)
  .show I.freeC x c r
 .rcases(R b w).2.2.2.1 with z | z
  .show I.ok.noex b o e z
  .have:=(I.ok.bs b o e).1;show absurd (yj (yQ this) z) (YC _)
 .rcases yy.mp (I.stkSub b z) with e | e
  .show(R b w).2.1 e
  .show(R b w).2.2.1 e
 .obtain⟨hi,j,hj,hv⟩:=qdI e2;obtain⟨hx,t⟩:=J (i-nl) j x hj (by rw[Nat.add_sub_cancel' hi];show e1);obtain⟨m,hn,hl⟩:=I.loc;have E:=O.free _ t rfl
  obtain⟨u,ru,lk⟩:=hl j x v hx hv (by
   rcases E with z | z
   .show .inr (.inl z)
   .show .inr (.inr z))
  show⟨u,ru,?_⟩;rcases lk with⟨ac,_⟩ | ⟨_,c,hc,B⟩
  .have A:X.env.scope.names.lookup x=some .local:=ac;rcases E with z | z<;>· rw[z] at A;cases A
  .obtain⟨G,l⟩:=zM (env:=X.env) (acc:=[]) t
   have e:G=c:=by
    have:=(a x G l).1;rw[hc] at this;show(ym this).symm
   subst e
   have aa:(cellsFrom (C+1) scope.names (qQ X.env scope.names [])).lookup x=some G:=by
    rw[ju,xA]
    cases q:(cellsFrom (C+1) scope.names []).lookup x with
    | none=>show l
    | some d=>have:=O.cel _ (qbK (mem_of_lookup q)) rfl;rw[O.once _ t rfl] at this;cases this
   show .inr ⟨?_,G,aa,?_⟩
   .rcases e3 with z | z | z
    .obtain⟨k0,z3,_,e | ⟨e,_⟩⟩:=zt (env:=X.env) (names:=scope.names) z
     .rw [O.once _ t rfl] at z3;cases z3;cases e
     .cases e
    .show .inl z
    .show .inr z
   .obtain⟨o,ho,F⟩:=B;show⟨o,k _ _ ho,F⟩
 .rcases all x c e with⟨_,_,a3⟩ | ⟨r,_⟩
  .show⟨none,a3⟩
  .obtain⟨v,o,ho,F⟩:=I.cell x c r;show⟨v,o,k _ _ ho,F⟩
 .have e:p=(D,T):=by simpa using hp
  subst e;show⟨ae,I.hok.fresh Y,Z,fun z=>?_,ab⟩;rcases yy.mp (I.stkSub D z) with e | e
  .show absurd (show X.env.locals<D from yj I.lt Y) (by rw[e];show YC _)
  .show I.nofs Y e
 .show(qel nl ixs σ).length=N.length;rw[capS_len,hN]
theorem Inv.compBack{l:Shared}{H':Hp}{j:St}(I:Inv X pins σ H s)(h:∀ b∈fp,qc9 X pins H b)(w:s.heap.objs.size<=C)(m:s.heap.objs.size<=D)
  (J:Inv (X.comp N scope C s H fp) [(D,{ cls:=.type "list",data:=.seq its.toArray n })] j H' l) (hv:Vals ys its) (hz:ys.length<=sizeLine):Inv X pins σ (upd H' D (.lst ys)) l:=by
 obtain⟨t,g,r,_,_⟩:=J.pin (D,{ cls:=.type "list",data:=.seq its.toArray n }) (yT _ (yH.mpr rfl));have i:∀ b o,s.heap.get? b=some o->b≠D:=fun b o e=>yL (yj (yQ e) m);have a:=J.base;show I.call' (ch:=fp) J.os ⟨a.keep,a.slot,fun b o e n p=>?_,a.there,fun b xs e=>?_,fun b o u e=>?_,fun b ps e=>?_⟩ (fun b u e=>?_) J.bare fun b d=>⟨(h b d).2.2.2.1,(h b d).2.1,(h b d).2.2.2.2.1,(h b d).2.2.2.2.2⟩
 .rw [qf (i b o e)];show a.free b o e n p
 .have q:=a.tups b xs e;rw[qf (qJ q g)];show q
 .have q:=a.frzs b o u e;rw[qf (qJ q g)];show q
 .obtain⟨f,q⟩:=a.tbls b ps e;show⟨f,by rw[qf (qJ q g)];show q⟩
 .by_cases d:b=D
  .subst d;rw[qb] at e;cases e;show⟨hz,its,n,hv,t⟩
  .rw [qf d] at e;show(J.hok b u e).stay (fun c v _ q=>q) (fun c q=>by rw[qf (qJ q g)];show q) fun c xs q=>by rw[qf (qJ q g)];show q
end
def qhb:TT:=fun _ H Q=>Q true H
def qfj(wi:TI)(g:TG)(tc:TT)(te:TE)(nl:Nat)(ixs:LN):TE:=fun σ H Q=>wi σ H fun J e =>
 ∃ W:Nat->Nat->List V->Hp->Prop,(∃ m,W 0 m [] e)/\∀ i m ys H,W i m ys H ->
  (J.stop i H/\ys.length<=sizeLine/\∀ p,H p=none->Q (.ref p) (upd H p (.lst ys))) \/
  (J.go i H/\∃ M:List V->Hp->Prop,(∀ ys' H',M ys' H'->∃ d,d<m/\W (i+1) d ys' H')/\∀ x H',J.yld i H x H'->g x (qel nl ixs σ) H' fun a f=>tc a f fun b c =>
   if b=true then te a c fun v h=>ys.length<sizeLine/\M (ys++[v]) h else M ys c)
def qee(nl:Nat)(g:TG):Prop:=∀ x σ H Q,g x σ H Q->g x σ H fun a b=>Q a b/\a.length=σ.length/\∀ i,nl<=i->a[i]?=σ[i]?
theorem qR{i:Nat}(h:i<nl:=by decide):qee nl (qcc i):=fun x σ H Q q=>⟨q,xE ..,fun j a=>xJ (by lk)⟩
def qf5(X:Cx)(ifs:List Expr)(tc:TT):Prop:=
 ∀(pins:List (Addr×Obj)) (s:Shared) (σ:St) (H:Hp) (Q:Bool->Hp->Prop),Inv X pins σ H s->tc σ H Q ->
  wpAny (model X.prog X.w) X.A (forIn ifs true fun c r=>if r=true then do let ok <- isTrue c X.env (eval c X.env);pure (ForInStep.yield ok) else pure (ForInStep.yield r)) (TP X pins σ Q) X.xe s
theorem jU:qf5 X [] qhb:=fun pins s σ H Q I h=>wpAny_tests_nil ⟨H,I,h⟩
theorem qV{c:Expr}(h:PT X c tc):qf5 X [c] tc:=fun pins s σ H Q I q=>wpAny_tests_one (h pins s σ H Q I q)
section
variable{X:Cx}{pins:List (Addr×Obj)}{σ:St}{H:Hp}{s:Shared}
theorem qb6{tn:Nat->Heap->Prop}{J:It}{Q:V->Hp->Prop}
  {RR:Value->Addr->Result->Shared->Prop} (I:Inv X pins σ H s) (hc:X.calm=true) (O:CompOk X.env.scope scope)
  (hN:N.length=nl+ixs.length) (ai:∀(k j:Nat) (x:Str),ixs[k]?=some j->N[nl+k]?=some x->X.N[j]?=some x/\(x,NameKind.free)∈scope.names)
  (T:Turn X.prog X.w X.K tg J fp it tn) (st:tn 0 s.heap) (hf:∀ b∈fp,qc9 X pins H b)
  (hg:∀ C s0 H0 ex,PG (X.comp N scope C s0 H0 ex) tg g) (gk:qee nl g) (hi:∀ C s0 H0 ex,qf5 (X.comp N scope C s0 H0 ex) ifs tc) (he:∀ C s0 H0 ex,PE (X.comp N scope C s0 H0 ex) elt te)
  (h:∃ W:Nat->Nat->List V->Hp->Prop,(∃ m,W 0 m [] H)/\∀ i m ys H,W i m ys H ->
   (J.stop i H/\ys.length<=sizeLine/\∀ p,H p=none->Q (.ref p) (upd H p (.lst ys))) \/
   (J.go i H/\∃ M:List V->Hp->Prop,(∀ ys' H',M ys' H'->∃ m',m'<m/\W (i+1) m' ys' H')/\∀ x H',J.yld i H x H'->g x (qel nl ixs σ) H' fun ao a=>tc ao a fun b H3 =>
    if b=true then te ao H3 fun v H4=>ys.length<sizeLine/\M (ys++[v]) H4 else M ys H3))
  (av:∀(D C:Addr) (t:Shared) (H':Hp) (S:St) (ys:List V) (its:List Value) (n:Nat),s.heap.objs.size<=C->s.heap.objs.size<=D->Inv (X.comp N scope C s H fp) [(D,{ cls:=.type "list",data:=.seq its.toArray n })] S H' t->Vals ys its->ys.length<=sizeLine ->
   (∀ p,H' p=none->Q (.ref p) (upd H' p (.lst ys)))->RR (.ref D) C (.ok .next) t) :
  wpAny (model X.prog X.w) X.A (newList []) (fun acc s3=>wpAny (model X.prog X.w) X.A (newFunctionEnv scope X.env.globals (qQ X.env scope.names []) [] X.env.qual none .none (some X.env)) (fun Y s4 =>
   codeAny (model X.prog X.w) X.A (.compStart (.ListComp elt [⟨tg,iter,ifs,0⟩] scope pos) 0 (.ref it) acc { Y with scope:=relabel scope X.env }) (RR acc Y.locals) s4) E s3) E s:=by
 obtain⟨W,⟨m0,w0⟩,turn⟩:=h;show Xo (newEnvK ?_);dsimp only;generalize ac:s.heap.push { cls:=.type "list",dict:=none,data:=.seq ([]:List Value).toArray }=a;have aa:(pushCells (a.push { cls:=.type "dict",data:=.dict #[] }) scope.names).Ns a.objs.size fun _=>none:=(Heap.Ns.new a (.type "dict")).keeps (pushCells_keeps _ _);have G:=cellsFrom_ok scope.names (a.push { cls:=.type "dict",data:=.dict #[] }) (a.objs.size+1) [] ⟨fun _ _ hm=>(nomatch hm),List.Pairwise.nil⟩ (by rw[xz];show yh _);rw[xz] at G;have ad:∀ b o,a.get? b=some o->(pushCells (a.push { cls:=.type "dict",data:=.dict #[] }) scope.names).get? b=some o:=fun b o e=>pushCells_keeps _ _ b o (yv _ e);generalize pushCells (a.push { cls:=.type "dict",data:=.dict #[] }) scope.names=h1 at aa G ad ⊢;have hC:a.objs.size=s.heap.objs.size+1:=by rw[<- ac,xz]
 have au:s.heap.objs.size≠a.objs.size:=by rw[hC];show yL (XW _)
 have Z:s.heap.objs.size<=a.objs.size:=by rw[hC];show xL _
 have l:∀ b,b<s.heap.objs.size->b≠a.objs.size/\b≠s.heap.objs.size:=fun b f=>⟨by rw[hC];show yL (XR f),yL f⟩;have old:∀ b o,s.heap.get? b=some o->h1.get? b=some o:=fun b o e=>ad b o (ac ▸ yv _ e);have ag:h1.get? s.heap.objs.size=some { cls:=.type "list",data:=.seq ([]:List Value).toArray }:=ad _ _ (ac ▸ yZ _ rfl)
 have F:∀ b∈fp,b<s.heap.objs.size:=fun b f=>by
  obtain⟨o,ho,_⟩:=T.obj 0 _ st b f;show yQ ho
 have ab:∀ s3:Shared,s3={ s with heap:=h1 } ->
   codeAny (model X.prog X.w) X.A (.compLoop (.ListComp elt [⟨tg,iter,ifs,0⟩] scope pos) 0 (.ref it) (.ref s.heap.objs.size) (compEnvC scope (cellsFrom (a.objs.size+1) scope.names (qQ X.env scope.names [])) a.objs.size X.env)) (RR (.ref s.heap.objs.size) a.objs.size) s3:=by
  rintro s3 rfl;have I0:=I.comp (N:=N) (C:=a.objs.size) (D:=s.heap.objs.size) (h1:=h1) (tk:=s.toks) O hN ai hf F Z (yh _) au aa old ag (fun v z=>by cases z) G
  have B:∀{H':Hp} {S:St} {t:Shared} {pl:List (Addr×Obj)},Inv (X.comp N scope a.objs.size s H fp) pl S H' t->(∀ p∈pl,p.1=s.heap.objs.size)->(∀ b∈fp,H' b=none)->∀ b∈fp,qc9 (X.comp N scope a.objs.size s H fp) pl H' b:=fun{H' S t pl} J ax hn b f =>
   ⟨hn b f,(l b (F b f)).1,fun z=>(by
     rcases yy.mp (I.stkSub b z) with e | e
     .show(hf b f).2.1 e
     .show(hf b f).2.2.1 e),.inl f,J.ok.exf b f |>.2,fun p P z=>by
    have e:=ax p (by simpa using P);rw[e] at z;show(l b (F b f)).2 z.symm⟩
  show compLoop_own (fun k t=>∃ i H' ys its n,Inv (X.comp N scope a.objs.size s H fp) [(s.heap.objs.size,{ cls:=.type "list",data:=.seq its.toArray n })] (qel nl ixs σ) H' t/\tn i t.heap/\(∀ b∈fp,H' b=none)/\Vals ys its/\W i k ys H') ?_ m0
   ⟨0,H,[],[],0,I0,T.keep _ _ _ st fun b _ o e=>old b o e,fun b f=>(hf b f).1,.nil,w0⟩
  rintro k t ⟨i,H',ys,its,n,J1,am,af,v1,w1⟩
  have one:∀ p∈[((s.heap.objs.size,{ cls:=.type "list",data:=.seq its.toArray n }):Addr×Obj)],p.1=s.heap.objs.size:=fun p P=>by
   have e:p=_:=yH.mp P;rw[e]
  rcases turn i k ys H' w1 with⟨an,hz,q⟩ | ⟨go,M,hM,step⟩
  .show thn (T.done (X.comp N scope a.objs.size s H fp) rfl rfl rfl hc i _ t _ H' _ J1 (B J1 one af) am an) fun r s4 ⟨hr,J4⟩=>?_;subst hr;show av _ _ s4 H' _ ys its n Z (yh _) J4 v1 hz q
  .show thn (T.item (X.comp N scope a.objs.size s H fp) rfl rfl rfl hc i _ t _ H' _ J1 (B J1 one af) am go) fun r s4 ⟨u,hr,h4⟩=>?_;subst hr;show thn h4 fun _ s5 ⟨x,H5,J5,r5,y5,ae,aq⟩=>?_;have ap:=J5.pinned (B J5 one aq) (T.obj _ _ ae);show thn (hg _ _ _ _ _ s5 _ H5 x u _ ap r5 (gk _ _ _ _ (step x H5 y5))) fun _ s6 ⟨U,H6,J6,q6,l6,k6⟩=>?_;show thn (hi _ _ _ _ _ s6 U H6 _ J6 q6) fun ok s7 ⟨H7,J7,q7⟩=>?_;have again:∀{R:Shared} {H8:Hp} {ys':List V} {k':Nat},Inv (X.comp N scope a.objs.size s H fp) ([((s.heap.objs.size,{ cls:=.type "list",data:=.seq its.toArray n }):Addr×Obj)]++qcz fp s5.heap) U H8 R ->
     (∀ b o,b≠s.heap.objs.size->R.heap.get? b=some o->R.heap.get? b=some o)->tn (i+1) R.heap/\∀ b∈fp,H8 b=none:=fun{R H8 ys' k'} J8 _=>by
    show⟨T.keep _ _ _ ae fun b f o e=>(J8.pin (b,o) (yT _ (yT _ (qao f e)))).1,fun b f=>?_⟩;obtain⟨o,e,d⟩:=T.obj _ _ ae b f;show(J8.pin (b,o) (yT _ (yT _ (qao f e)))).2.1
   have wk:∀(j:Nat) v,(qel nl ixs σ)[j]?=some (some v)->U[j]?=some (some v):=fun j v e=>by
    obtain⟨hj,_⟩:=qdI e;rw[k6 j hj];show e
   cases ok with
   | false =>
    rw[yA Ys] at q7 ⊢;obtain⟨m',hm,w7⟩:=hM _ _ q7;obtain⟨az,ar⟩:=again (ys':=ys) (k':=0) J7 (fun _ _ _ e=>e);show⟨m',hm,i+1,H7,ys,its,n,J7.unpinned.weak l6.symm wk,az,ar,v1,w7⟩
   | true =>
    rw[yG rfl] at q7 ⊢;show thn (he _ _ _ _ _ s7 U H7 _ J7 q7) fun y R ⟨v,H8,J8,r8,bb,mq⟩=>?_;obtain⟨m',hm,w8⟩:=hM _ _ mq;obtain⟨ba,as⟩:=again (ys':=ys) (k':=0) J8 (fun _ _ _ e=>e);have J9:=J8.unpinned;obtain⟨pD,nD,al,ay,_⟩:=J9.pin (s.heap.objs.size,{ cls:=.type "list",data:=.seq its.toArray n }) (yT _ (yH.mpr rfl));show wpAny_list_append_plain (hsz:=by rw[yx,<- v1.length];lk) ⟨n,pD⟩ fun h9 L ak=>?_;obtain⟨n9,L⟩:=L;have e9:(its.toArray.push y)=(its++[y]).toArray:=by simp
    rw[e9] at L
    have Ja:Inv (X.comp N scope a.objs.size s H fp) [] (qel nl ixs σ) H8 { R with heap:=h9,toks:=R.toks }:=
     ((J9.pins_of (pins':=[]) fun p P=>absurd P (by simp)).turned (it:=s.heap.objs.size) (h':=h9) (t':=R.toks) (fun b o f e=>(ak.2 b f).trans e) nD al (.inr (yh _))
      (fun x c e z=>by
       rcases qbL e with w | e
       .have:=(G.empty _ _ w).2;rw[z,hC] at this;show absurd (yi (xL _) this) (Nat.not_succ_le_self _)
       have:=zL e;rcases this with⟨aw,hcc⟩ | hcc
       .obtain⟨c',ah⟩:=I.ok.has x (by
         rcases O.free _ aw rfl with q | q
         .show .inl q
         .show .inr q)
        rw[ah] at hcc;have aj:c=c':=hcc;obtain⟨_,q⟩:=I.cell x c' ah;rw[<- aj,z] at q;show absurd q.lt (YC _)
       .cases hcc) (fun p P=>absurd P (by simp))).weak l6.symm wk
    show⟨m',hm,i+1,H8,ys++[v],its++[y],n9,Ja.pins_of fun p P=>?_,?_,as,v1.append (.cons r8 .nil),w8⟩
    .have e:p=_:=yH.mp P;subst e;show⟨L,nD,al,ay,fun v z=>by cases z⟩
    .show T.keep _ _ _ ba fun b f o e=>(ak.2 b (l b (F b f)).2).trans e
 show codeAny_compStart_list (ab _ rfl) (T.self _ 0 _ _ _ (T.keep _ _ _ st fun b _ o e=>old b o e) (ab _ rfl))
end
section
variable{X:Cx}{tg elt iter:Expr}{ifs:List Expr}{scope:Scope}{pos:Pos}{N:LS}{nl:Nat}{ixs:LN}{wi:TI}{g:TG}{tc:TT}{te:TE}
theorem q9{XN:LS}(N:LS)(nl:Nat)(ixs:LN)(F:X.env.scope=sc)(u:X.N=XN)(hc:X.calm=true)(M:qcO sc scope=true)(U:N.length=nl+ixs.length)(d:qgF nl ixs N XN scope.names=true)
  (hi:PI X tg iter wi) (hg:∀ C r i ex,PG (X.comp N scope C r i ex) tg g) (P:qee nl g) (ht:∀ C r i ex,qf5 (X.comp N scope C r i ex) ifs tc) (Z:∀ C r i ex,PE (X.comp N scope C r i ex) elt te)
  (hs:∀ x,foldedSetIterable iter X.env x=pure x:=by intro _;rfl):PE X (.ListComp elt [⟨tg,iter,ifs,0⟩] scope pos) (qfj wi g tc te nl ixs):=by
 intro pins s σ H Q I h;subst F u;have O:=qdH M;have l:=qeC d;rw[eval_ListComp]
 have y:=qaU (scope:=scope) (env:=X.env) fun n E=>I.ok.has n (by
  rcases O.free _ E rfl with z | z
  .show .inl z
  .show .inr z)
 show wpAny_comprehension_free (use:=none) rfl hs y O.kind O.loc (thn (hi pins s σ H _ I h) fun v s1 h1=>thn h1 fun aa s2 R=>?_);obtain⟨it,fp,tn,J,H2,e,f,T,K,L,W⟩:=R;subst e;show qb6 (Q:=Q) (RR:=fun acc C=>compPost (model X.prog X.w) X.A X.xe none (EP X pins σ Q) acc C) f hc O U l T K L hg P ht Z W ?_;intro D C s' H' ab ys its n j S t hv hz q;obtain⟨m,E,_⟩:=id t.loc;have B:=f.compBack L j S t hv hz;obtain⟨_,nD,G,_,_⟩:=t.pin (D,{ cls:=.type "list",data:=.seq its.toArray n }) (yT _ (yH.mpr rfl));show⟨m,E,fun h' sb=>⟨.ref D,_,?_,rfl,q D nD⟩⟩;show B.turned (it:=C) (h':=h') (t':=s'.toks) (fun b o Y e=>(sb.2 b Y).trans e) ((qf (H:=H') (a:=D) (b:=C) (o:=.lst ys) (Yo G)).trans t.free) (Yn (yj f.lt j)) (.inr (yi f.sz j)) (fun x c e z=>?_) (fun p hp z=>?_)
 .obtain⟨_,q⟩:=f.cell x c e;show absurd (yj q.lt (by rw[z];show j)) (YC _)
 .show absurd (yj (yQ (f.pin p hp).1) (by rw[z];show j)) (YC _)
theorem qaI{i:Nat}{y:Str}{r f:Pos}{XN:LS}(N:LS)(nl:Nat)(ixs:LN)(Y:X.env.scope=sc)(u:X.N=XN)(hc:X.calm=true)(O':qcO sc scope=true)(hN:N.length=nl+ixs.length)(l:qgF nl ixs N XN scope.names=true)
  (P:X.N.Nodup) (S:X.N[i]?=some y) (hy:X.env.scope.names.lookup y=some .local)
  (hi:PI X tg iter wi) (hg:∀ C G t ex,PG (X.comp N scope C G t ex) tg g) (gk:qee nl g) (ht:∀ C G t ex,qf5 (X.comp N scope C G t ex) ifs tc) (he:∀ C G t ex,PE (X.comp N scope C G t ex) elt te)
  (Z:swapsWith (.ListComp elt [⟨tg,iter,ifs,0⟩] scope pos) (some (.Name y r)) f.line X.env=pure true:=by rfl)
  (hs:∀ x,foldedSetIterable iter X.env x=pure x:=by intro _;rfl):PS X (.Assign [.Name y r] (.ListComp elt [⟨tg,iter,ifs,0⟩] scope pos) f) (qf3 (qfj wi g tc te nl ixs) (qcc i)):=by
 intro pins s σ H L I h;subst Y u;have O:=qdH O';have E:=qeC l
 have R:=qaU (scope:=scope) (env:=X.env) fun n U=>I.ok.has n (by
  rcases O.free _ U rfl with z | z
  .show .inl z
  .show .inr z)
 rw[exec_Assign_Name_used _ _ _ _ Z];show yr (wpAny_standAt (yr ?_));show wpAny _ X.A (do let _ <- comprehension (.ListComp elt [⟨tg,iter,ifs,0⟩] scope pos) scope X.env _ (newList []) false (eval iter X.env) (some (assign (.Name y r) X.env))) _ _ s;show yr (Y3 (wpAny_comprehension_free (use:=some (assign (.Name y r) X.env)) (Q:=fun _ F=>SP X pins L .next F) rfl hs R O.kind O.loc
  (thn (hi pins s σ H _ I h) fun v s1 h1=>thn h1 fun ad s2 h2=>?_)) (fun _ F hq=>yw (yw hq)) fun _ _ e=>e)
 obtain⟨it,fp,tn,J,H2,e,d,T,ac,f2,hW⟩:=h2;subst e;show qb6 (Q:=fun v H'=>qcc i v σ H' L.nx) (RR:=fun acc C=>compPost (model X.prog X.w) X.A X.xe (some (assign (.Name y r) X.env)) (fun _ F=>SP X pins L .next F) acc C) d hc O hN E T ac f2 hg gk ht he hW ?_;intro D C F H' ae ys its n j hD K hv hz q;obtain⟨m,U,_⟩:=id K.loc;have B:=d.compBack f2 j hD K hv hz;obtain⟨_,nD,aa,_,_⟩:=K.pin (D,{ cls:=.type "list",data:=.seq its.toArray n }) (yT _ (yH.mpr rfl));show wpAny _ X.A (assign (.Name y r) X.env (.ref D)) _ _ _;show wpAny_assign_Name (qcx (i:=i) (x:=y) (v:=.ref D) B P S (.inl hy) rfl (fun ab B' W=>?_) (.inr hy));obtain⟨a,sa,ha⟩:=W
 have M:C≠a:=by
  rintro rfl;rcases ha with z | z
  .show absurd (show X.env.locals<C from yj d.lt j) (by rw[z];show YC _)
  .obtain⟨_,q⟩:=d.cell y C z;show absurd (yj q.lt j) (YC _)
 show⟨m,U.sameBut sa M,fun h' sb=>⟨_,_,?_,q D nD⟩⟩;show B'.turned (it:=C) (h':=h') (t':=ab.toks) (fun b o hb e=>(sb.2 b hb).trans e) ((qf (H:=H') (a:=D) (b:=C) (o:=.lst ys) (Yo aa)).trans K.free) (Yn (yj d.lt j)) (.inr (yi d.sz j)) (fun x c e z=>?_) (fun p hp z=>?_)
 .obtain⟨_,q⟩:=d.cell x c e;show absurd (yj q.lt (by rw[z];show j)) (YC _)
 .show absurd (yj (yQ (d.pin p hp).1) (by rw[z];show j)) (YC _)
end
noncomputable def Its(x:Str):It:=⟨fun i _=>i<x.cps.size,fun i H v H'=>H'=H/\∃ c,x.cps[i]?=some c/\v=.str ⟨#[c]⟩,fun i _=>i=x.cps.size⟩
theorem qdJ{K:yg}{t:Tok}(W:∀ A:Around,A.handled=none->Walks P w A it [it] [it] x.cps.size (SignAt x) fun i h=>h.IsStrIter it T x t i)
  (L:∀(A:Around) (i:Nat) (s:Shared) (Q:Value->Shared->Prop) (E:Value->Shared->Prop),s.heap.IsStrIter it T x t i->Q (.ref it) s->wpAny (model P w) A (pyIter (.ref it)) Q E s)
  (C:∀ v,letOwnedTupleGo tg (.ref it) v=pure ()):Turn P w K tg (Its x) [it] it (fun i h=>h.IsStrIter it T x t i) where
 mem:=by simp
 obj:=fun i h st b a=>by
  have e:b=it:=by simpa using a
  subst e;obtain⟨o,e,c,d⟩:=st;show⟨o,e,fun v z=>by rw[d] at z;cases z⟩
 keep:=fun i h h' st k=>by
  obtain⟨o,e,r⟩:=st;show⟨o,k it (by simp) o e,r⟩
 item:=by
  intro X q hw p hc i pins s σ H E I f st B;subst q hw p;obtain⟨g,j,J,l,m,n⟩:=f it (by simp);show(W X.A (I.ok.hd hc)).item i s _ _ B st fun v h' tk hv F D=>?_;obtain⟨c,u,y,rfl⟩:=hv;have G:Inv X pins σ H { s with heap:=h',toks:=tk }:=I.turned (fun b o a e=>D b o (by simpa using a) e) g j l m n;show⟨_,rfl,Y6 (C _) ⟨.str ⟨#[c]⟩,H,G,⟨u,rfl⟩,⟨rfl,c,y,rfl⟩,F,fun b a=>(f b a).1⟩⟩
 done:=by
  intro X q hw p hc i pins s σ H E I f st B;subst q hw p;obtain⟨g,j,J,l,m,n⟩:=f it (by simp);have e:i=x.cps.size:=B;subst e;show(W X.A (I.ok.hd hc)).done s _ _ st fun h' tk D=>⟨rfl,I.turned (fun b o a e=>D b o (by simpa using a) e) g j l m n⟩
 self:=L
section
variable{X:Cx}{tg:Expr}
end
section
variable{K:yg}{a:Addr}{xs:List V}{g:TG}{tc:TT}{te:TE}{σ':St}{H1:Hp}{Q:V->Hp->Prop}
def qeD(J:It)(g:TG)(tc:TT)(te:TE)(σ':St)(H1:Hp)(Q:V->Hp->Prop):Prop:=
 ∃ W:Nat->Nat->List V->Hp->Prop,(∃ m,W 0 m [] H1)/\∀ i m ys H,W i m ys H ->
   (J.stop i H/\ys.length<=sizeLine/\∀ p,H p=none->Q (.ref p) (upd H p (.lst ys))) \/
   (J.go i H/\∃ M:List V->Hp->Prop,(∀ ys' H',M ys' H'->∃ d,d<m/\W (i+1) d ys' H')/\∀ x H',J.yld i H x H'->g x σ' H' fun a e=>tc a e fun b c =>
    if b=true then te a c fun v f=>ys.length<sizeLine/\M (ys++[v]) f else M ys c)
theorem qH(c:Nat->List V->Hp->Prop)(n:c 0 [] H1)(hl:∀ i ys H,i<=xs.length->c i ys H->SqL K H a xs)
  (s:∀ i x ys H,xs[i]?=some x->c i ys H->g x σ' H fun f j=>tc f j fun b h=>if b=true then te f h fun v l=>ys.length<sizeLine/\c (i+1) (ys++[v]) l else c (i+1) ys h)
  (o:∀ ys H,c xs.length ys H->ys.length<=sizeLine/\∀ p,H p=none->Q (.ref p) (upd H p (.lst ys))):qeD (Itl K a) g tc te σ' H1 Q:=by
 show⟨fun i m ys H=>m=xs.length-i/\i<=xs.length/\c i ys H,⟨xs.length,by simp,YS _,n⟩,?_⟩;rintro i m ys H ⟨rfl,r,p⟩;have q:=hl i ys H r p;by_cases d:i<xs.length
 .show .inr ⟨⟨xs,xs[i],q,by simp[d]⟩,c (i+1),fun ys' H' t=>⟨xs.length-(i+1),by lk,rfl,d,t⟩,fun x H' y=>?_⟩;obtain⟨e,y⟩:=y;subst e;show s i x ys _ (y xs q) p
 .have e:i=xs.length:=by lk
  subst e;show .inl ⟨⟨xs,q,yh _⟩,o ys H p⟩
theorem zg{lo:Int}(a:Nat->List V->Hp->Prop)(l:a 0 [] H1)
  (q:∀ i ys H,i<n->a i ys H->g (.int (lo+i)) σ' H fun d h=>tc d h fun b f=>if b=true then te d f fun v j=>ys.length<sizeLine/\a (i+1) (ys++[v]) j else a (i+1) ys f)
  (o:∀ ys H,a n ys H->ys.length<=sizeLine/\∀ p,H p=none->Q (.ref p) (upd H p (.lst ys))):qeD (Itr lo n) g tc te σ' H1 Q:=by
 show⟨fun i m ys H=>m=n-i/\i<=n/\a i ys H,⟨n,by simp,YS _,l⟩,?_⟩;rintro i m ys H ⟨rfl,s,p⟩;by_cases c:i<n
 .show .inr ⟨c,a (i+1),fun ys' H' r=>⟨n-(i+1),by lk,rfl,c,r⟩,fun x H' y=>?_⟩;obtain⟨e,y⟩:=y;subst e y;show q i ys _ c p
 .have e:i=n:=by lk
  subst e;show .inl ⟨yh _,o ys H p⟩
theorem comp_str(a:Nat->List V->Hp->Prop)(n:a 0 [] H1)
  (q:∀ i c ys H,x.cps[i]?=some c->a i ys H->g (.str ⟨#[c]⟩) σ' H fun f j=>tc f j fun b h=>if b=true then te f h fun v l=>ys.length<sizeLine/\a (i+1) (ys++[v]) l else a (i+1) ys h)
  (o:∀ ys H,a x.cps.size ys H->ys.length<=sizeLine/\∀ p,H p=none->Q (.ref p) (upd H p (.lst ys))):qeD (Its x) g tc te σ' H1 Q:=by
 show⟨fun i m ys H=>m=x.cps.size-i/\i<=x.cps.size/\a i ys H,⟨x.cps.size,by simp,YS _,n⟩,?_⟩;rintro i m ys H ⟨rfl,s,p⟩;by_cases d:i<x.cps.size
 .show .inr ⟨d,a (i+1),fun ys' H' r=>⟨x.cps.size-(i+1),by lk,rfl,d,r⟩,fun v H' y=>?_⟩;obtain⟨e,c,hc,y⟩:=y;subst e y;show q i c ys _ hc p
 .have e:i=x.cps.size:=by lk
  subst e;show .inl ⟨rfl,o ys H p⟩
end
noncomputable def qcP:V->Option Value
 | .ty n=>some (.type n)
 | .ref a=>some (.ref a)
 | _=>none
theorem qb7{c:Value}(h:qcP y=some c)(r:RelV y u):u=c:=by
 cases y with
 | ty n=>cases h;show r
 | ref a=>cases h;show r
 | _=>cases h
section
variable{X:Cx}{pins:List (Addr×Obj)}{σ:St}{H:Hp}{s:Shared}
theorem TyOf.kit{x:V}(I:Inv X pins σ H s)(b:RelV x u)(ty:TyOf X.K H x t):∃ P:Heap->Prop,PySem.W.KitX X.K u t P/\P s.heap/\u≠.builtin "__main__.__loader__#opaque":=by
 cases ty with
 | non=>cases (show u=Value.none from b);show⟨_,PySem.W.kitx_none,Y4,(fun z=>nomatch z)⟩
 | bl y=>cases (show u=Value.bool y from b);show⟨_,PySem.W.kitx_bool,Y4,(fun z=>nomatch z)⟩
 | int i=>obtain⟨t,q⟩:=(show ∃ t,u=Value.int i t from b);cases q;show⟨_,PySem.W.kitx_int,Y4,(fun z=>nomatch z)⟩
 | str y=>obtain⟨t,q⟩:=(show ∃ t,u=Value.str y t from b);cases q;show⟨_,PySem.W.kitx_str,Y4,(fun z=>nomatch z)⟩
 | flt y=>obtain⟨t,q⟩:=(show ∃ t,u=Value.float y t from b);cases q;show⟨_,PySem.W.kitx_float,Y4,(fun z=>nomatch z)⟩
 | @lst a xs ea =>
  cases (show u=Value.ref a from b);obtain⟨_,_,n,_,h1⟩:=(show ObjOk X.prog X.w H s.heap a (.lst xs) from I.hok a _ ea);show⟨_,PySem.W.kitx_list,⟨_,h1,rfl⟩,(fun z=>nomatch z)⟩
 | @frz a ob xs ea =>
  cases (show u=Value.ref a from b);obtain⟨_,_,_,n,_,h1⟩:=(show ObjOk X.prog X.w H s.heap a (.frz ob (.lst xs)) from I.hok a _ ea);show⟨_,PySem.W.kitx_list,⟨_,h1,rfl⟩,(fun z=>nomatch z)⟩
 | @tup a xs ea =>
  cases (show u=Value.ref a from b);obtain⟨_,_,_,p⟩:=(show ObjOk X.prog X.w H s.heap a (.tup xs) from I.hok a _ ea);obtain⟨o,h1,c,_⟩:=p;show⟨_,PySem.W.kitx_tuple,⟨o,h1,c⟩,(fun z=>nomatch z)⟩
 | @dK a kvs ea =>
  cases (show u=Value.ref a from b);obtain⟨_,_,vs,_,p⟩:=(show ObjOk X.prog X.w H s.heap a (.dK kvs) from I.hok a _ ea);obtain⟨o,d,ep,h1,c,_⟩:=p;show⟨_,PySem.W.kitx_dict,⟨o,h1,c.1⟩,(fun z=>nomatch z)⟩
 | @dT a kvs ea =>
  cases (show u=Value.ref a from b);obtain⟨_,_,xs,_,o,d,ep,h1,c,_⟩:=(show ObjOk X.prog X.w H s.heap a (.dT kvs) from I.hok a _ ea);show⟨_,PySem.W.kitx_dict,⟨o,h1,c.1⟩,(fun z=>nomatch z)⟩
 | @ins a C dx fs ea cl ha hn htk hm =>
  cases (show u=Value.ref a from b);obtain⟨e,O,_⟩:=qbb I.hok ea;obtain⟨od,J,_⟩:=O.look;show⟨_,PySem.W.kitx_own (cl.get _) cl.hd ha hn htk hm,J,(fun z=>nomatch z)⟩
end
section
variable{X:Cx}
theorem qbM:∀{ys:List V} {a us:List Value},ys.map qcP=a.map some->Vals ys us->us=a
 | [],[],_,_,.nil=>rfl
 | [],_::_,_,h,_=>by cases h
 | y::ys,[],_,h,_=>by cases h
 | y::ys,c::a,_,h,.cons r t=>by
  rw[YD,YD] at h
  injection h with h1 h2
  rw[qb7 h1 r,qbM h2 t]
theorem qcd:∀{bs:List Bool} {us:List Value},Vals (bs.map V.bl) us->us=bs.map Value.bool
 | [],_,.nil=>rfl
 | b::bs,_,.cons r t=>by
  have e:=qcd t;rw[e];cases r;rfl
def qhc(K:yg):List V->Hp->VK->Prop:=fun xs H Q=>∃(p:Addr) (bs:List Bool),xs=[.ref p]/\SqL K H p (bs.map V.bl)/\Q (.bl (bs.all id)) H
theorem call_all(hc:X.calm=true):qab X (.builtin "all") (qhc X.K):=by
 intro pins s σ H xs us Q I r h;obtain⟨p,bs,rfl,w,q⟩:=h;obtain⟨u,rfl,y⟩:=qbY r;cases y;obtain⟨its,z,pl,hz⟩:=I.list w;have e:=qcd z;subst e;have m:X.A.in1.handled=none:=I.ok.hd hc;show call_all_walk (XS pl.isList ?_)
 have f:p≠s.heap.objs.size:=by
  obtain⟨o,t,_⟩:=pl.isList;show yL (yQ t)
 show⟨s.heap.objs.size,_,_,_,_,_,fun i=>(bs[i]?).getD false,rfl,Walks.list m s.heap.objs.size p f (bs.map Value.bool).toArray,⟨⟨_,yZ _ rfl,rfl,rfl⟩,pl.isList.at fun o e=>yv _ e⟩,fun i v s Q E hv x=>?_,fun h' tk n=>?_⟩
 .have a:(bs.map Value.bool)[i]?=some v:=by simpa using hv
  rw[yd] at a
  cases e:bs[i]? with
  | none=>rw[e] at a;cases a
  | some b =>
   rw[e] at a;cases a;have c:Q ((bs[i]?).getD false) s:=x;rw[e] at c;show yw c
 .have e:((List.range (bs.map Value.bool).toArray.size).all fun i=>(bs[i]?).getD false)=bs.all id:=by
   rw[yx,ya]
   have g:∀ bs:List Bool,((List.range bs.length).all fun i=>(bs[i]?).getD false)=bs.all id:=by
    intro bs
    induction bs with
    | nil=>rfl
    | cons b r ih =>
     rw[yF,List.range_succ_eq_map,XZ,kS,XZ,<- ih];rfl
   show g bs
  rw[e];show⟨.bl _,H,?_,rfl,q⟩;have j:Inv X pins σ H { s with heap:=s.heap.push { cls:=.type "list_iterator",data:=.fields #[.ref p,.int 0 0] } }:=I.kept (t':=s.toks) fun b o e=>yv _ e;have d:=I.fpOk (b:=s.heap.objs.size) (yh _) (I.hok.fresh (yh _));show j.turned (it:=s.heap.objs.size) (h':=h') (t':=tk) (fun b o l e=>n b o (by simpa using l) e) d.1 d.2.1 d.2.2.2.1 d.2.2.2.2.1 d.2.2.2.2.2
theorem op_le_str:OpR X (compareOp .LtE) (fun x y H Q=>∃ i j,x=.str i/\y=.str j/\Q (.bl (!decide (j.cps.toList<i.cps.toList))) H):=by
 intro pins s σ H x y v u Q I a b h;obtain⟨i,j,rfl,rfl,q⟩:=h;obtain⟨t,rfl⟩:=a;obtain⟨t',rfl⟩:=b;show PySem.P.le_str (qdD I q (by rfl))
def qgP:R2:=fun x y H Q=>match x,y with
 | .int i,.int j=>Q (.bl (decide (i<=j))) H
 | .str i,.str j=>Q (.bl (!decide (j.cps.toList<i.cps.toList))) H
 | _,_=>False
theorem qgG:OpR X (compareOp .LtE) qgP:=by
 intro pins s σ H x y v u Q I a b h
 cases x with
 | int i=>cases y with
  | int j=>show op_le pins s σ H _ _ v u Q I a b ⟨i,j,rfl,rfl,h⟩
  | _=>show False.elim h
 | str i=>cases y with
  | str j=>show op_le_str pins s σ H _ _ v u Q I a b ⟨i,j,rfl,rfl,h⟩
  | _=>show False.elim h
 | _=>show False.elim h
theorem op_is_bl:OpR X (compareOp .Is) (fun x y H Q=>∃ i j,x=.bl i/\y=.bl j/\Q (.bl (i==j)) H):=by
 intro pins s σ H x y v u Q I a b h;obtain⟨i,j,rfl,rfl,q⟩:=h;cases a;cases b;show wpAny_is_plain (by cases i<;>cases j<;>rfl) (qdD I q (by cases i<;>cases j<;>rfl))
def qhd:R2:=fun x y H Q=>match x,y with
 | .bl i,.bl j=>Q (.bl (i==j)) H
 | x,.non=>Q (.bl (decide (x=.non))) H
 | _,_=>False
theorem qhe:OpR X (compareOp .Is) qhd:=by
 intro pins s σ H x y v u Q I a b h
 cases y with
 | non=>show op_isN pins s σ H x _ v u Q I a b ⟨rfl,by cases x<;>show h⟩
 | bl j=>cases x with
  | bl i=>show op_is_bl pins s σ H _ _ v u Q I a b ⟨i,j,rfl,rfl,h⟩
  | _=>show False.elim h
 | _=>cases x<;>show False.elim h
theorem op_rep_str:OpR X (binaryOp .Mult) (fun x y H Q=>∃ z k,x=.str z/\y=.int k/\MulOk z k/\Q (.str (Txt.mul z k)) H):=by
 intro pins s σ H x y v u Q I b c h;obtain⟨z,k,rfl,rfl,a,q⟩:=h;obtain⟨t,rfl⟩:=b;obtain⟨t',rfl⟩:=c;show SB.mul a fun t' k'=>⟨.str _,H,I.tok _,⟨_,rfl⟩,q⟩
def qgk:R2:=fun x y H Q=>match x,y with
 | .int i,.int j=>CMul i j/\Q (.int (i*j)) H
 | .str z,.int k=>MulOk z k/\Q (.str (Txt.mul z k)) H
 | .ref a,.int k=>qha (.ref a) (.int k) H Q
 | _,_=>False
theorem qce:OpR X (binaryOp .Mult) qgk:=by
 intro pins s σ H x y v u Q I b c h
 cases y with
 | int j=>cases x with
  | int i=>show op_mul pins s σ H _ _ v u Q I b c ⟨i,j,rfl,rfl,h.1,h.2⟩
  | str i=>show op_rep_str pins s σ H _ _ v u Q I b c ⟨i,j,rfl,rfl,h.1,h.2⟩
  | ref a=>show qeA pins s σ H _ _ v u Q I b c h
  | _=>show False.elim h
 | _=>cases x<;>show False.elim h
def qef(K:yg):R2:=fun x y H Q=>match x,y with
 | .int i,.int j=>Q (.int (i+j)) H
 | .str i,.str j=>i.length+j.length<=sizeLine/\Q (.str (i++j)) H
 | .ref a,.ref b=>qg9 (.ref a) (.ref b) H Q\/qgi K (.ref a) (.ref b) H Q
 | _,_=>False
theorem u_add:OpR X (binaryOp .Add) (qef X.K):=by
 intro pins s σ H x y v u Q I c d h
 cases x with
 | int i=>cases y with
  | int j=>show op_add pins s σ H _ _ v u Q I c d ⟨i,j,rfl,rfl,h⟩
  | _=>show False.elim h
 | str i=>cases y with
  | str j=>show op_add_str pins s σ H _ _ v u Q I c d ⟨i,j,rfl,rfl,h.1,h.2⟩
  | _=>show False.elim h
 | ref a=>cases y with
  | ref b=>show h.elim (fun h=>op_cat pins s σ H _ _ v u Q I c d h) fun h=>op_catT pins s σ H _ _ v u Q I c d h
  | _=>show False.elim h
 | _=>show False.elim h
def qeg(K:yg):List V->Hp->VK->Prop:=fun xs H Q=>match xs with
 | [.str z]=>z.length<=sizeLine/\Q (.int z.length) H
 | [.ref p]=>(∃ ys,(SqL K H p ys\/SqT K H p ys)/\Q (.int ys.length) H)\/∃ kvs,H p=some (.dK kvs)/\Q (.int kvs.length) H
 | _=>False
theorem call_lenU:qab X (.builtin "len") (qeg X.K):=by
 intro pins s σ H xs us Q I r h
 match xs,h with
 | [.str z],h=>show call_len_str pins s σ H _ us Q I r ⟨z,rfl,h.1,h.2⟩
 | [.ref p],.inl ⟨ys,h,q⟩=>show call_len_seq pins s σ H _ us Q I r ⟨p,ys,rfl,h,q⟩
 | [.ref p],.inr ⟨kvs,h,q⟩=>show call_lenD pins s σ H _ us Q I r ⟨p,kvs,rfl,h,q⟩
theorem sl_str:SlR X (fun x lo b H Q=>∃ z,x=.str z/\z.length<=sizeLine/\Q (.str (Txt.slice z lo b)) H):=by
 intro pins s σ H x v f g lo b e Q I d a pl c h;obtain⟨z,rfl,hz,q⟩:=h;obtain⟨t,rfl⟩:=d;show⟨"str",_,F.slot_str_getitem.lookup,typeIs_str _ _ _,?_⟩
 cases pl with
 | none =>
  cases c with
  | none=>show Xc (l:=none) (u:=none) (st:=none) a rfl (X4 ⟨yi (kT z _ _) hz,fun t' k=>⟨.str _,H,I.tok _,⟨_,rfl⟩,q⟩⟩)
  | int j uj=>show Xc (l:=none) (u:=some (j,uj)) (st:=none) a rfl (X4 ⟨yi (kT z _ _) hz,fun t' k=>⟨.str _,H,I.tok _,⟨_,rfl⟩,q⟩⟩)
 | int i ui =>
  cases c with
  | none=>show Xc (l:=some (i,ui)) (u:=none) (st:=none) a rfl (X4 ⟨yi (kT z _ _) hz,fun t' k=>⟨.str _,H,I.tok _,⟨_,rfl⟩,q⟩⟩)
  | int j uj=>show Xc (l:=some (i,ui)) (u:=some (j,uj)) (st:=none) a rfl (X4 ⟨yi (kT z _ _) hz,fun t' k=>⟨.str _,H,I.tok _,⟨_,rfl⟩,q⟩⟩)
def qgQ(K:yg):V->Option Int->Option Int->Hp->VK->Prop:=fun x lo b H Q=>match x with
 | .str z=>z.length<=sizeLine/\Q (.str (Txt.slice z lo b)) H
 | .ref a=>qg7 K (.ref a) lo b H Q\/qg3 K (.ref a) lo b H Q
 | _=>False
theorem u_sl:SlR X (qgQ X.K):=by
 intro pins s σ H x v g i lo b f Q I e c pl d h
 cases x with
 | str z=>show sl_str pins s σ H _ v g i lo b f Q I e c pl d ⟨z,rfl,h.1,h.2⟩
 | ref a=>show h.elim (fun h=>sl_list pins s σ H _ v g i lo b f Q I e c pl d h) fun h=>sl_tup pins s σ H _ v g i lo b f Q I e c pl d h
 | _=>show False.elim h
theorem qeE:∀{ys:LS} {us:List Value},Vals (ys.map V.str) us->StrsAre us ys
 | [],_,.nil=>.nil
 | y::ys,_,.cons r t=>by
  obtain⟨tk,rfl⟩:=r;show .cons y tk (qeE t)
def qgl(K:yg):V->List V->Hp->VK->Prop:=fun x vs H Q=>∃(z:Str) (p:Addr) (ys:LS),x=.str z/\vs=[.ref p]/\SqL K H p (ys.map V.str)/\(ys.map (·.length)).sum+ys.length*z.length<=16777216/\Q (.str (Txt.join z ys)) H
theorem mt_join:MtR X "str.join" (qgl X.K):=by
 intro pins s σ H x vs v us Q I d c h;obtain⟨z,p,ys,rfl,rfl,a,hz,q⟩:=h;obtain⟨t,rfl⟩:=d;obtain⟨u,rfl,b⟩:=c.one;cases b;obtain⟨its,r,pl,_⟩:=I.list a;show join_list pl.isList (by simpa using qeE r) hz fun t' k=>⟨.str _,H,I.tok _,⟨_,rfl⟩,q⟩
def qgR(K:yg)(te:TE):TI:=fun σ H R=>te σ H fun v b=>match v with
 | .str x=>R (Its x) b
 | .ref a=>((∃ xs,SqL K b a xs)/\R (Itl K a) b)\/((∃ xs,SqT K b a xs)/\R (Itt K a) b)
 | _=>False
theorem pi_any{e:Expr}(w:PE X e te)(g:∀ it v,letOwnedTupleGo tg it v=pure ():=by intro _ _;rfl):PI X tg e (qgR X.K te):=by
 intro pins s σ H R I h;show thn (w pins s σ H _ I h) fun v c ⟨y,f,d,u,j⟩=>?_
 cases y with
 | str x =>
  obtain⟨t,rfl⟩:=u
  have fp:∀ b∈[c.heap.objs.size],qc9 X pins f b:=fun b m=>by
   have e:b=c.heap.objs.size:=by simpa using m
   subst e;show d.fpOk (yh _) (d.hok.fresh (yh _))
  cases r:x.cps.all (· < 128)
  .show wpAny_pyIter_wide r ⟨c.heap.objs.size,[c.heap.objs.size],_,_,f,rfl,d.kept (t':=c.toks) fun b o e=>yv _ e,
    qdJ (T:="str_iterator") (fun A l=>Walks.strWide l _ x t) (fun A i s Q E st h=>wpAny_pyIter_striter_wide st h) (g _),⟨_,yZ _ rfl,rfl,rfl⟩,fp,j⟩
  .show wpAny_pyIter_ascii r ⟨c.heap.objs.size,[c.heap.objs.size],_,_,f,rfl,d.kept (t':=c.toks) fun b o e=>yv _ e,
    qdJ (T:="str_ascii_iterator") (fun A l=>Walks.strAscii l _ x t) (fun A i s Q E st h=>wpAny_pyIter_striter_ascii st h) (g _),⟨_,yZ _ rfl,rfl,rfl⟩,fp,j⟩
 | ref a =>
  cases u
  have fp:∀ b∈[c.heap.objs.size],qc9 X pins f b:=fun b m=>by
   have e:b=c.heap.objs.size:=by simpa using m
   subst e;show d.fpOk (yh _) (d.hok.fresh (yh _))
  rcases j with⟨⟨xs,n⟩,q⟩ | ⟨⟨xs,n⟩,q⟩
  .obtain⟨its,z,p,hz⟩:=d.list n;show XS p.isList ⟨c.heap.objs.size,[c.heap.objs.size],_,_,f,rfl,d.kept (t':=c.toks) fun b o e=>yv _ e,qcy a _,⟨_,yZ _ rfl,rfl,rfl⟩,fp,q⟩
  .obtain⟨its,z,p,hz⟩:=d.tuple n;show wpAny_pyIter_tuple (show c.heap.IsTuple a its.toArray from p) ⟨c.heap.objs.size,[c.heap.objs.size],_,_,f,rfl,d.kept (t':=c.toks) fun b o e=>yv _ e,turn_tuple a _,⟨_,yZ _ rfl,rfl,rfl⟩,fp,q⟩
 | _=>show False.elim j
end
section
variable{D:Ends}{σ:St}{H:Hp}{Q:VK}{QT:Bool->Hp->Prop}{QA:List V->Hp->Prop}{t u:TS}{te ta tb tc:TE}{c c':TT}{tr tas:TA}{r r':R2}{K:yg}
theorem vSeq(h:t { D with nx:=u D } σ H):qgK t u D σ H:=h
theorem vAsg{i:Nat}(h:te σ H fun x a=>D.nx (σ.set i (some x)) a):qf3 te (qcc i) D σ H:=h
theorem vAsgS{to a:TE}{s:qgd}(h:te σ H fun x b=>to σ b fun o c=>a σ c fun i d=>s o i x d fun e=>D.nx σ e):qf3 te (qgY to a s) D σ H:=h
theorem vIfS(h:c σ H fun b a=>if b=true then t D σ a else u D σ a):qgW c t u D σ H:=h
theorem vRet(h:te σ H D.rt):qgV te D σ H:=h
theorem vRetN(h:D.rt .non H):qgc D σ H:=h
theorem vDrop(h:te σ H fun _ a=>D.nx σ a):qgb te D σ H:=h
theorem vNext(h:D.nx σ H):qga D σ H:=h
theorem vC(h:Q v H):tC v σ H Q:=h
theorem vVar{i:Nat}(e:σ[i]?=some (some v))(h:Q v H):qgJ i σ H Q:=⟨v,e,h⟩
theorem vOp(h:ta σ H fun x a=>tb σ a fun y b=>r x y b Q):tOp r ta tb σ H Q:=h
theorem vUn{f:V->Hp->VK->Prop}(h:ta σ H fun x a=>f x a Q):tUn f ta σ H Q:=h
theorem vChain(h:ta σ H fun x b=>tb σ b fun y c=>r x y c fun z a=>∃ k,z=.bl k/\if k=true then tc σ a fun e d=>r' y e d Q else Q (.bl false) a):qeq r r' ta tb tc σ H Q:=h
theorem vNil(h:QA [] H):qgE σ H QA:=h
theorem vCons(h:ta σ H fun x a=>tr σ a fun xs b=>QA (x::xs) b):qgg ta tr σ H QA:=h
theorem vCB{f:List V->Hp->VK->Prop}(h:tas σ H fun vs a=>f vs a Q):tCB f tas σ H Q:=h
theorem vCall{sp:Sp}{E:XK}(h:tas σ H fun vs a=>sp (vs++[]) a Q E):qfR sp [] E tas σ H Q:=h
theorem vLst(h:tas σ H fun xs a=>xs.length<=sizeLine/\∀ p,a p=none->Q (.ref p) (upd a p (.lst xs))):qg2 tas σ H Q:=h
theorem vTup(h:tas σ H fun xs a=>xs.length<=sizeLine/\∀ p,a p=none->Q (.ref p) (upd a p (.tup xs))):qg1 tas σ H Q:=h
theorem vTest(h:te σ H fun x H'=>∃ k,x=.bl k/\QT k H'):qfP te σ H QT:=h
theorem vB(h:te σ H fun x H'=>∃ k,x=.bl k/\QT k H'):tB te σ H QT:=h
theorem vNot(h:c σ H fun b a=>QT (!b) a):qgU c σ H QT:=h
theorem vAnd(h:c σ H fun b a=>if b=true then c' σ a QT else QT false a):qgT c c' σ H QT:=h
theorem vOr(h:c σ H fun b a=>if b=true then QT true a else c' σ a QT):tOr c c' σ H QT:=h
theorem vAndV(h:ta σ H fun x a=>∃ k,x=.bl k/\if k=true then tb σ a Q else Q (.bl false) a):qf9 ta tb σ H Q:=h
theorem vOrV(h:ta σ H fun x a=>∃ k,x=.bl k/\if k=true then Q (.bl true) a else tb σ a Q):tOrV ta tb σ H Q:=h
theorem vNotV(h:ta σ H fun x a=>∃ k,x=.bl k/\Q (.bl (!k)) a):tNotV ta σ H Q:=h
theorem vIf(h:c σ H fun b a=>if b=true then ta σ a Q else tb σ a Q):tIf c ta tb σ H Q:=h
theorem vYes(h:QT true H):qhb σ H QT:=h
theorem vI0{g:Int->Int->V}(h:Q (g i j) H):rI0 g (.int i) (.int j) H Q:=⟨i,j,rfl,rfl,h⟩
theorem vI{C:Int->Int->Prop}{g:Int->Int->V}(hc:C i j)(h:Q (g i j) H):rI C g (.int i) (.int j) H Q:=⟨i,j,rfl,rfl,hc,h⟩
theorem vU{g:Int->V}(h:Q (g i) H):rU g (.int i) H Q:=⟨i,rfl,h⟩
theorem vEqI(h:Q (.bl (decide (i=j))) H):rEq (.int i) (.int j) H Q:=⟨rfl,by
 have e:decide (V.int i=V.int j)=decide (i=j):=by
  by_cases h:i=j
  .subst h;simp
  .rw [yl h,yl (fun e=>h (V.int.inj e))]
 rw[e];show h⟩
theorem vEqB{i j:Bool}(h:Q (.bl (i==j)) H):rEq (.bl i) (.bl j) H Q:=⟨rfl,by rw[dec_bl];show h⟩
theorem zN(b:H p=some (.lst xs))(a:atI xs i=some v)(h:Q v H):rIx K (.ref p) (.int i) H Q:=.inl ⟨p,xs,i,v,rfl,rfl,SqL.of b,a,h⟩
theorem vIxLs(b:SqL K H p xs)(a:atI xs i=some v)(h:Q v H):rIx K (.ref p) (.int i) H Q:=.inl ⟨p,xs,i,v,rfl,rfl,b,a,h⟩
theorem zO(b:H p=some (.tup xs))(a:atI xs i=some v)(h:Q v H):rIx K (.ref p) (.int i) H Q:=.inr (.inl ⟨p,xs,i,v,rfl,rfl,SqT.of b,a,h⟩)
theorem qhf{ch:Nat}(hz:z.length<=sizeLine)(a:atI z.cps.toList i=some ch)(h:Q (.str ⟨#[ch]⟩) H):rIx K (.str z) (.int i) H Q:=.inr (.inr ⟨z,i,ch,rfl,rfl,hz,a,h⟩)
theorem qeh{k:Int}{j:Nat}{a:Hp->Prop}(c:H p=some (.lst xs))(b:ixN xs.length k=some j)(h:a (upd H p (.lst (xs.set j v)))):qfT (.ref p) (.int k) v H a:=⟨p,xs,k,j,rfl,rfl,c,b,h⟩
theorem vEx{k:Bool}{P:Bool->Prop}(h:P k):∃ k',V.bl k=.bl k'/\P k':=⟨k,rfl,h⟩
theorem vLeI(h:Q (.bl (decide (i<=j))) H):qgP (.int i) (.int j) H Q:=h
theorem vLeS{i j:Str}(h:Q (.bl (!decide (j.cps.toList<i.cps.toList))) H):qgP (.str i) (.str j) H Q:=h
theorem vIsB{i j:Bool}(h:Q (.bl (i==j)) H):qhd (.bl i) (.bl j) H Q:=h
theorem vAddI(h:Q (.int (i+j)) H):qef K (.int i) (.int j) H Q:=h
theorem qfU{i j:Str}(hz:i.length+j.length<=sizeLine)(h:Q (.str (i++j)) H):qef K (.str i) (.str j) H Q:=⟨hz,h⟩
theorem qcf(hc:CMul i j)(h:Q (.int (i*j)) H):qgk (.int i) (.int j) H Q:=⟨hc,h⟩
theorem vLenS(hz:z.length<=sizeLine)(h:Q (.int z.length) H):qeg K [.str z] H Q:=⟨hz,h⟩
theorem qac(a:H p=some (.lst ys))(h:Q (.int ys.length) H):qeg K [.ref p] H Q:=.inl ⟨ys,.inl (SqL.of a),h⟩
theorem vLenLs(a:SqL K H p ys)(h:Q (.int ys.length) H):qeg K [.ref p] H Q:=.inl ⟨ys,.inl a,h⟩
theorem qfk(a:H p=some (.tup ys))(h:Q (.int ys.length) H):qeg K [.ref p] H Q:=.inl ⟨ys,.inr (SqT.of a),h⟩
theorem qgS{lo a:Option Int}(hz:z.length<=sizeLine)(h:Q (.str (Txt.slice z lo a)) H):qgQ K (.str z) lo a H Q:=⟨hz,h⟩
theorem vSl{f:V->Option Int->Option Int->Hp->VK->Prop}{tl a:TO}(h:te σ H fun x b=>tl σ b fun l c=>a σ c fun u d=>f x l u d Q):tSl f te tl a σ H Q:=h
theorem vNoPart(h:QO none H):qeu σ H QO:=h
theorem vPart(h:te σ H fun x a=>∃ i,x=.int i/\QO (some i) a):qgh te σ H QO:=h
theorem vExI{P:Int->Prop}(h:P i):∃ j,V.int i=.int j/\P j:=⟨i,rfl,h⟩
theorem vBM(h:te σ H fun x a=>tyV K T x a/\tas σ a fun xs b=>f x xs b Q):tBM K T f te tas σ H Q:=h
theorem vBM0(h:te σ H fun x a=>tyV K T x a/\f x [] a Q):qgN K T f te σ H Q:=h
theorem vComp(h:wi σ H fun J a=>qeD J g c te (qel nl ixs σ) a Q):qfj wi g c te nl ixs σ H Q:=h
theorem vFor (h:wi σ H fun J d=>∃ W:Nat->Nat->St->Hp->Prop,(∃ m,W 0 m σ d)/\∀ i m σ H,W i m σ H ->
 (J.stop i H/\D.nx σ H)\/(J.go i H/\∃ N:St->Hp->Prop,(∀ a H',N a H'->∃ c,c<m/\W (i+1) c a H')/\∀ x H',J.yld i H x H'->g x σ H' fun b e=>t { D with nx:=N,ct:=N,bk:=D.nx } b e)):qgZ wi g t D σ H:=h
theorem vRng1(h:tas σ H fun vs a=>∃ j:Int,vs=[.int j]/\-(2 ^ 62)<=j/\j<2 ^ 62/\R (Itr 0 j.toNat) a):qge tas σ H R:=h
theorem vAny (h:te σ H fun v b=>match v with
 | .str x=>R (Its x) b
 | .ref a=>((∃ xs,SqL K b a xs)/\R (Itl K a) b)\/((∃ xs,SqT K b a xs)/\R (Itt K a) b)
 | _=>False):qgR K te σ H R:=h
theorem vGN{i:Nat}{a:St->Hp->Prop}(h:a (σ.set i (some v)) H):qcc i v σ H a:=h
end
section
variable{X:Cx}{K:yg}{o e:Expr}{es:List Expr}{to ta:TE}{t:TA}{name f:Str}{apos cpos pos:Pos}{T id:String}{r:V->List V->Hp->VK->Prop}{tg:Expr}
theorem jY(a:X.K=K):qab X (.builtin "len") (qeg K):=by subst a;show call_lenU
theorem qfV(a:X.K=K)(hc:X.calm=true):qab X (.builtin "all") (qhc K):=by subst a;show call_all hc
theorem qeF(a:X.K=K):SlR X (qgQ K):=by subst a;show u_sl
theorem j8(a:X.K=K):OpR X (binaryOp .Add) (qef K):=by subst a;show u_add
theorem k_join(a:X.K=K):MtR X "str.join" (qgl K):=by subst a;show mt_join
theorem qS(b:X.K=K)(c:PE X e ta)(a:∀ it v,letOwnedTupleGo tg it v=pure ():=by intro _ _;rfl):PI X tg e (qgR K ta):=by subst b;show pi_any c a
theorem qgm(e:X.K=K)(h:PlainAttrs T)(c:Slot T name id)(d:typeOf (.builtin id)=pure (.type "method_descriptor"))(f:MtR X id r)(g:PE X o to)
  (a:attributeBase o name X.env (eval o X.env)=eval o X.env:=by rfl) (b:(apos.endLine==cpos.line)=true:=by rfl):PE X (.Call (.Attribute o name apos) [] [] cpos) (qgN K T r to):=by
 subst e;show pe_bm0 h c d f g a b
theorem qaW(h:X.K=K)(n:PlainAttrs T)(f:Slot T name id)(g:typeOf (.builtin id)=pure (.type "method_descriptor"))(j:MtR X id r)(l:PE X o to)(i:PA X (e::es) t)
  (b:attributeBase o name X.env (eval o X.env)=eval o X.env:=by rfl)
  (d:((backTo cpos (starEach (e::es) X.env)).all (fun x=>!x.1)&&(backToKw cpos (keywordEach [] X.env)).all (fun x=>x.1.isSome)
   && decide ((e::es).length+([]:List Keyword).length+(if ([]:List Keyword).isEmpty then 0 else 1)<30))=true:=by rfl)
  (c:(apos.endLine==cpos.line)=true:=by rfl) (m:starEach (e::es) X.env=(false,eval e X.env)::starEach es X.env:=by rfl) (a:(backTo cpos (starEach es X.env)).any (·.1)=false:=by rfl) :
  PE X (.Call (.Attribute o name apos) (e::es) [] cpos) (tBM K T r to t):=by
 subst h;show pe_bm n f g j l i b d c m a
end
structure DefOk(P:Program)(w:World)(K:yg)(mg:Str->Option Value)(base:Heap)(CX:CXT)(k:Nat)(x:Str)(ps:LS)(sp:Sp):Prop where
 ex:∃ f fd,FnOk P w K mg base CX k f fd ps sp/\mg x=some (.ref f)/\PySem.W.keepIn K (.ref f)=true/\Binds K fd ps []
section
variable{X:Cx}{CX:CXT}{k:Nat}{ps:LS}{sp:Sp}{E:XK}{x:Str}{p pos:Pos}{e:Expr}{es:List Expr}{t:TA}
theorem qp(D:DefOk X.prog X.w X.K X.mg X.base CX k x ps sp)(l:Room k X.A)(m:qbi CX X E)(c:PA X (e::es) t)(h:Gl X x:=by rfl)(a:(x==("__debug__":Str))=false:=by decide)
  (g:starEach (e::es) X.env=(false,eval e X.env)::starEach es X.env:=by rfl) (b:(backTo pos (starEach es X.env)).any (·.1)=false:=by rfl):PE X (.Call (.Name x p) (e::es) [] pos) (qfR sp [] E t):=by
 obtain⟨f,n,F,j,i,d⟩:=D.ex;show pe_call F l h j i d .nil m c a g b
theorem qcg(c:Gl X x)(a:∃ tk,X.mg x=some (.int i tk))(b:(x==("__debug__":Str))=false:=by decide):PE X (.Name x pos) (tC (.int i)):=by
 obtain⟨tk,a⟩:=a;show pe_glob c a ⟨tk,rfl⟩ b
end
noncomputable def isaT(t c:String):Bool:=t==c||(t=="bool"&&c=="int")
theorem zP(K:yg):∀ t∈["NoneType","bool","int","str","list","tuple","dict"],∀ c∈["bool","int","str","list","tuple","dict"],PySem.W.kitOne K (.type t) (.type c)=some (isaT t c):=by
 intro t a c hc;simp only[yy,Yb,YL] at a hc;rcases a with rfl | rfl | rfl | rfl | rfl | rfl | rfl<;>rcases hc with rfl | rfl | rfl | rfl | rfl | rfl<;>rfl
noncomputable def qfw:List Value->Bool
 | [.type a,.type b,.type c,.type d]=>a=="ValueError"&&b=="Exception"&&c=="BaseException"&&d=="object"
 | .ref _::r=>qfw r
 | _=>false
noncomputable def xcIn(K:yg)(C:Addr):Bool:=match K.lookup C with
 | some ⟨.type "type",_,.cls cd,sl⟩=>(match cd.mro,sl.toList with
  | .ref D::bm,[_,_,_,_,some (.builtin n),_]=>D==C&&!cd.hasDel&&qfw bm&&n=="ValueError.__new__"
  | _,_=>false)
 | _=>false
structure XAt(K:yg)(C:Addr):Prop where
 ga:PySem.W.findIn K (.ref C) "__getattribute__"=some (some (.builtin "BaseException.__getattribute__"))
 gn:PySem.W.findIn K (.ref C) "__getattr__"=some none
 bx:PySem.W.mroIn K C (.type "BaseException")=some true
 ob:PySem.W.mroIn K C (.type "object")=some true
 hd:PySem.W.hasDictIn K C=true
 cl:PySem.W.findIn K (.ref C) "__class__"=some (some (.builtin "object.__class__"))
 cg:PySem.W.specialIn K (.builtin "object.__class__") "__get__"=some (some (.builtin "getset_descriptor.__get__"))
 ct:PySem.W.takesIn K (.builtin "object.__class__")=some true
 sa:PySem.W.findIn K (.ref C) "__setattr__"=some (some (.builtin "object.__setattr__"))
 mr:(PySem.W.clsIn K C).any (fun cd=>qfw cd.mro)=true
 xc:xcIn K C=true
theorem bexc_ga_slot:Slot "ValueError" "__getattribute__" "BaseException.__getattribute__":=PySem.F.attr_ValueError.ga
section
variable{prog:Program}{w:World}{A:Around}{E:Value->Shared->Prop}{s:Shared}{K:yg}{x C:Addr}{ox:Obj}{od:Option Obj}{name:Str}{v:Value}
theorem xga_value{Q:Fin->Shared->Prop}(X:K.In s.heap)(I:PySem.W.InstAt s.heap x ox C od)(a:PySem.W.findObj K C od name=some (.value v))(h:Q (.done (.ret v)) s) :
  wpAny (model prog w) A (Builtin.«object.__getattribute__» ⟨[.ref x,.str name tk],[]⟩) Q E s:=by
 have F:=PySem.W.looks_find (M:=model prog w) X I a;show yr (yw (yr (yw (yr (I.type.here (yr (F.here ?_)))))));show yw h
theorem xga_call{R:Result->Shared->Prop}(X:K.In s.heap)(I:PySem.W.InstAt s.heap x ox C od)(c:PySem.W.mroIn K C (.type "BaseException")=some true)
  (h:wpAny (model prog w) A.in1 (Builtin.«object.__getattribute__» ⟨[.ref x,.str name tk],[]⟩) (fun b a=>match b with | .done f=>R (.ok f) a | .again c'=>c'.quiet=true/\codeAny (model prog w) A c' R a) (fun e a=>R (.error e) a) s) :
  codeAny (model prog w) A (.call (.builtin "BaseException.__getattribute__") ⟨[.ref x,.str name tk],[]⟩) R s:=by
 show Xq bexc_ga_slot.plain PySem.F.entry_bexc_ga ?_;show @PySem.W.check_slot (model prog w) _ _ s "BaseException.__getattribute__" "BaseException" "__getattribute__" (.ref x) [.str name tk] [] _ (by room) (by room) (I.type.andThen (xW X c)) (PySem.F.args_bexc_ga _ _) h
theorem qeG{b:Bool}{Q:Value->Shared->Prop}(X:K.In s.heap)(I:PySem.W.InstAt s.heap x ox C od)(c:XAt K C)
  (h:wpAny (model prog w) A.in1 (Builtin.«object.__getattribute__» ⟨[.ref x,.str name tk],[]⟩) (fun a d=>match a with | .done (.ret v)=>wpAny (model prog w) A (handedOut v) Q E d | _=>False) (fun _ _=>False) s) :
  wpAny (model prog w) A (getAttrBy (.ref x) (.str name tk) b expr) Q E s:=by
 unfold getAttrBy;show Yv (yr (I.type.here (yr ((xl X c.ga).here ?_))))
 have e:(onTheHeap (Value.ref C)&&Value.builtin "BaseException.__getattribute__"==Value.builtin "object.__getattribute__")=false:=by
  rw[show(Value.builtin "BaseException.__getattribute__"==Value.builtin "object.__getattribute__")=false by room];rfl
 dsimp only;rw[e,yA (by decide)];unfold getAttrByItsOwn hookBefore;rw[yG (show onTheHeap (Value.ref C)=true from rfl)];show yr ((xl X c.gn).here (yr (kD (Yv ?_))));have f:(expr&&onTheHeap (Value.builtin "BaseException.__getattribute__"))=false:=by cases expr<;>rfl
 unfold callGetattribute;rw[f,yA (by decide)];unfold boundAndCalled;rw[bexc_ga_slot.bind];show yr (yw ?_);show wpAny _ _ (call (.builtin "BaseException.__getattribute__") [.ref x,.str name tk]) _ _ _;show km (xga_call X I c.bx (Y3 h (fun a d z=>?_) fun _ _ z=>z.elim));rcases a with(_ | _ | _ | _) | _<;>first | show z | show z.elim
theorem xget{Q:Value->Shared->Prop}(X:K.In s.heap)(I:PySem.W.InstAt s.heap x ox C od)(c:XAt K C)(a:PySem.W.findObj K C od name=some (.value v))(b:PySem.W.handedIn v=true)
  (h:Q v { s with toks:=s.toks+1 }):wpAny (model prog w) A (getAttr (.ref x) name expr) Q E s:=by
 unfold getAttr;show yr (wpAny_mkText (qeG (s:={ s with toks:=s.toks+1 }) X I c (xga_value (s:={ s with toks:=s.toks+1 }) X I a ?_)));show wpAny _ _ (handedOut v) _ _ _;rw[PySem.W.handedOut_of b];show yw h
theorem xclass{Q:Option Value->Shared->Prop}(X:K.In s.heap)(I:PySem.W.InstAt s.heap x ox C od)(c:XAt K C)(a:PySem.W.findObj K C od "__class__"=some (.bind (.builtin "getset_descriptor.__get__") (.builtin "object.__class__")))
  (h:Q (some (.ref C)) { s with toks:=s.toks+1 }):wpAny (model prog w) A (getAttr? (.ref x) "__class__") Q E s:=by
 unfold getAttr? getAttrBy?;show yr (wpAny_mkText (yr (kD (qeG (s:={ s with toks:=s.toks+1 }) X I c ?_))));have F:=PySem.W.looks_find (M:=model prog w) X I a;show yr (yw (yr (yw (yr (I.type.here (s:={ s with toks:=s.toks+1 }) (yr (F.here (s:={ s with toks:=s.toks+1 }) ?_)))))));show wpAny _ _ (holding [Value.builtin "object.__class__"] (call (.builtin "getset_descriptor.__get__") [.builtin "object.__class__",.ref x,.ref C])>>=ret) _ _ _;show yr (Yv (km (PySem.W.class_get (s:={ s with toks:=s.toks+1 }) X I c.ob ?_)));show yw ?_;show wpAny _ _ (handedOut (.ref C)) _ _ _;show yw (yw h)
theorem findObj_class(c:XAt K C):PySem.W.findObj K C od "__class__"=some (.bind (.builtin "getset_descriptor.__get__") (.builtin "object.__class__")):=by
 obtain⟨a,hc,_⟩:=xZ c.hd;unfold PySem.W.findObj;rw[hc,Option.bind_some,c.cl,Option.bind_some];simp[c.cg,c.ct]
theorem qdK(c:XAt K C):PySem.W.KitX K (.ref x) (.ref C) (fun h=>PySem.W.InstAt h x ox C od) where
 ty:=fun _ _ _ I=>I.type
 it:=fun _ _ X _=>by
  obtain⟨b,hc,_⟩:=xZ c.hd;unfold PySem.W.clsIn at hc;split at hc
  .rename_i c1 d1 cd1 sl1 ho
   intro f i g l k q;unfold isType loadHead;show yr (wpAny_loadPart (k _ _ (X _ _ ho)) (yw q))
  .cases hc
 ne:=fun h d j its n m X a=>by
  obtain⟨b,hc,_⟩:=xZ c.hd;show Bool.eq_false_iff.mpr fun q=>?_;have e:C=d:=Value.ref.inj (Yw.mp q);subst e;unfold PySem.W.clsIn at hc;split at hc
  .rename_i c1 d1 cd1 sl1 ho
   have z:=(X _ _ ho).symm.trans a;cases z
  .cases hc
 ca:=fun X I k=>xclass X I c (findObj_class c) k
end
theorem qcQ{r:List Value}(e:qfw (.ref c::r)=true):qfw r=true:=by
 cases r with
 | nil=>cases e
 | cons a r=>show e
theorem qcR:∀{l:List Value},qfw l=true->∃ f:LX,l=f.map Value.ref++[.type "ValueError",.type "Exception",.type "BaseException",.type "object"]
 | [],e=>by cases e
 | .ref c::r,e=>by
  obtain⟨f,q⟩:=qcR (qcQ e);show⟨c::f,by rw[q];rfl⟩
 | .type a::r,e=>by
  match r,e with
  | [.type b,.type c,.type d],e =>
   simp only[qfw,yX,Yw] at e;obtain⟨⟨⟨rfl,rfl⟩,rfl⟩,rfl⟩:=e;show⟨[],rfl⟩
theorem refuse_exc(self:Value){l:List Value}(e:qfw l=true):refuseLoop self "__setattr__" l=pure ():=by
 obtain⟨a,rfl⟩:=qcR e
 induction a with
 | nil=>show PySem.F.store_ValueError.passes self
 | cons c a ih=>rw[YD,kI,refuseLoop_ref];show ih (qcQ e)
section
variable{prog:Program}{w:World}{A:Around}{E:Value->Shared->Prop}{s:Shared}{K:yg}{x C:Addr}{name:Str}{v:Value}{R:Result->Shared->Prop}
theorem xosa(X:K.In s.heap)(I:PySem.W.InstAt s.heap x ox C od)(c:XAt K C)(n:NoAttr K C name)
  (h:wpAny (model prog w) A.in1 (Builtin.ObjectAttr.storeInOwnDict (.ref x) (.ref C) (.str name tk) name v false)
   (fun d b=>match d with | .done f=>R (.ok f) b | .again c'=>c'.quiet=true/\codeAny (model prog w) A c' R b) (fun e b=>R (.error e) b) s) :
  codeAny (model prog w) A (.call (.builtin "object.__setattr__") ⟨[.ref x,.str name tk,v],[]⟩) R s:=by
 have a:=PySem.F.store_object;obtain⟨g,hc,j⟩:=xZ c.mr;have i:PySem.W.Looks (model prog w) s.heap (mroOf (.ref C)) g.mro:=(X9 X hc).andThen .now;show Xq a.slot.plain a.entry (@PySem.W.check_slot (model prog w) _ _ s "object.__setattr__" "object" "__setattr__" (.ref x) [.str name tk,v] [] _ a.kind a.split (I.type.andThen (xW X c.ob)) (a.args (.ref x) (.str name tk) v) ?_);rw[PySem.W.osa_eq,refuse_eq];show yr (yr (I.type.here (yr (i.here ?_))));rw[refuse_exc _ j];show yw (yr (I.type.here (yr ((xl X n).here (yr (yw ?_))))));show h
theorem xset{vs:Array Value}(X:K.In s.heap)(m:s.heap.get? x=some ⟨.ref C,none,.fields vs,#[]⟩)(c:XAt K C)(n:NoAttr K C name){Q:Unit->Shared->Prop}
  (h:∀ h',h'.get? x=some ⟨.ref C,some s.heap.objs.size,.fields vs,#[]⟩->h'.Ns1 s.heap.objs.size (fun y=>if y=name then some v else none)->(∀ b o,b≠x->s.heap.get? b=some o->h'.get? b=some o) ->
   Q () { s with heap:=h',toks:=s.toks+2 }):wpAny (model prog w) A (setAttr (.ref x) name v) Q E s:=by
 have I:PySem.W.InstAt s.heap x ⟨.ref C,none,.fields vs,#[]⟩ C none:=⟨m,rfl,rfl,Y4⟩;obtain⟨J,hc,F⟩:=xZ c.hd;show PySem.W.set_plain X I c.sa (xosa (s:={ s with toks:=s.toks+1 }) X I c n ?_);show yr (yw (yr (yr (wpAny_loadPart m (yr ((X9 X hc).here (s:={ s with toks:=s.toks+1 }) ?_))))));rw[F];obtain⟨a,g,L,tk,N⟩:=s;show wpAny _ _ (alloc { cls:=.type "dict",data:=.dict #[] }>>=fun d=>update x (fun o=>{ cls:=o.cls,dict:=some d,data:=o.data,slots:=o.slots })>>=fun _=>pure (some d)) _ _ _;have l:x≠a.objs.size:=yL (yQ m);have i:=yv { cls:=.type "dict",data:=.dict #[] } m;show yr (wpAny_alloc' (yr (wpAny_update' i (yw ?_))));have j:=Y7 (fun o:Obj=>{ cls:=o.cls,dict:=some a.objs.size,data:=o.data,slots:=o.slots }) i rfl;have f:=(Xy (a.push { cls:=.type "dict",data:=.dict #[] }) a.objs.size x (fun o:Obj=>{ cls:=o.cls,dict:=some a.objs.size,data:=o.data,slots:=o.slots }) l.symm).trans (Heap.get?_push_at rfl rfl);generalize H:(a.push { cls:=.type "dict",data:=.dict #[] }).update x (fun o:Obj=>{ cls:=o.cls,dict:=some a.objs.size,data:=o.data,slots:=o.slots })=h2 at j f ⊢;have nd:h2.Ns a.objs.size (fun _=>none):=⟨_,#[],_,f,rfl,fun e G=>absurd G (by simp),fun _=>rfl⟩;show wpAny _ _ (Builtin.ObjectAttr.storeInDict a.objs.size (.str name tk) name v) _ _ _;unfold Builtin.ObjectAttr.storeInDict Builtin.ObjectAttr.newKeyGuard;show yr (yw (yr (wpAny_nsSet1 (Heap.Ns1.of_empty nd) fun h' u z=>?_)));obtain⟨M,p,B,t,r,q⟩:=u.count (PySem.Within.cons name v PySem.Within.nil);have hz:p.size<=sizeLine:=yi q (by rw[yF,Y0,YF];lk);show yr (wpAny_lookBehind t (by rw[r];show pastItsLine_dict (kz hz)) ?_);show yw (h h' ((z.2 x l).trans j) u fun b o D e=>(z.2 b (yL (yQ e))).trans ?_);rw[<- H];show(Xy _ _ _ _ D).trans (yv _ e)
noncomputable abbrev xfs(a:Addr):Array Value:=#[.ref a,.none,.none,.none,.bool false,.none]
end
section
variable{prog:Program}{w:World}{A:Around}{R:Result->Shared->Prop}{E:Value->Shared->Prop}{h:Heap}{g:Array GenState}{d:Drawn}{t:Nat}{os:OsState}
variable{nm q:Str}{C N:Addr}{bs bm:List Value}{hdct:Bool}{sn:LS}{sub:List Value}{ab:Bool}{col:Option Bool}{dd:Option Addr}{k0 k1 k2 k3 k5:Option Value}
end
noncomputable def XN(e C:Addr)(dx:Option Addr):HO:=.ext fun h=>∃ a,h.get? e=some ⟨.ref C,dx,.fields (xfs a),#[]⟩
noncomputable def XO(e C:Addr)(dx:Option Addr):HO:=.ext fun h=>∃ vs,h.get? e=some ⟨.ref C,dx,.fields vs,#[]⟩
theorem XN.ok{b:Addr}(q:h.get? e=some ⟨.ref C,dx,.fields (xfs b),#[]⟩):ObjOk P w H h e (XN e C dx):=
 ⟨⟨b,q⟩,⟨_,q⟩,fun _ _ ⟨a,x⟩ k=>⟨a,k _ x⟩⟩
def IsX(H:Hp)(e C:Addr)(dx:Option Addr):Prop:=H e=some (XN e C dx)\/H e=some (XO e C dx)
theorem IsX.get(q:IsX H e C dx)(b:HOk P w H h):∃ vs,h.get? e=some ⟨.ref C,dx,.fields vs,#[]⟩:=by
 rcases q with q | q
 .obtain⟨⟨a,x⟩,_⟩:=(show ObjOk P w H h e (XN e C dx) from b e _ q);show⟨_,x⟩
 .obtain⟨⟨a,x⟩,_⟩:=(show ObjOk P w H h e (XO e C dx) from b e _ q);show⟨_,x⟩
section
variable{X:Cx}{pins:List (Addr×Obj)}{σ:St}{H:Hp}{s:Shared}{e C:Addr}{dx:Option Addr}
theorem qfx(I:Inv X pins σ H s){d:Addr}{fs:List (Str×V)}(h:H d=some (.xd fs)):∃(od:Obj) (a:Str->Option Value),s.heap.get? d=some od/\(∀ name,PySem.W.lookIn name od=some (a name))/\∀ f,RelO (fs.lookup f) (a f):=by
 obtain⟨a,n,r⟩:=(show ObjOk X.prog X.w H s.heap d (.xd fs) from I.hok d _ h);obtain⟨od,h1,b⟩:=qcC n;show⟨od,a,h1,b,r⟩
end
section
variable{X:Cx}{pins:List (Addr×Obj)}{σ:St}{H:Hp}{s:Shared}{a d:Addr}{h':Heap}{o u:HO}{t':Nat}
theorem Inv.both(I:Inv X pins σ H s)(i:Mut (H a))(l:s.heap.objs.size<=d)(k:∀ b v,b≠a->s.heap.get? b=some v->h'.get? b=some v)(m:∃ v,h'.get? a=some v)
  (p:ObjOk X.prog X.w (upd (upd H d u) a o) h' a o) (t:ObjOk X.prog X.w (upd (upd H d u) a o) h' d u) (ne:d≠a):Inv X pins σ (upd (upd H d u) a o) { s with heap:=h',toks:=t' }:=by
 have nd:H d=none:=I.hok.fresh l;have g:∀ b q,H b=some q->¬ Mut (some q)->b≠a:=fun b q e x z=>by subst z;rw[e] at i;show x i
 have j:∀ b,H b=none->b≠a:=fun b e z=>by subst z;rw[e] at i;show i
 have big:∀ b v,s.heap.get? b=some v->b≠d:=fun b v e=>yL (yj (yQ e) l);have up:∀ b q,H b=some q->b≠a->upd (upd H d u) a o b=some q:=fun b q e n=>by rw[qf n,qf (qJ e nd)];show e
 show I.un ⟨fun b v e n _ _=>k b v (j b n) e,fun b v e n _ _=>⟨v.slots,k b v (j b n) e⟩,fun b v e n _=>by rw[qf (j b n),qf (big b v e)];show n,fun b v e _=>?_,fun b xs e=>up b _ e (g b _ e fun z=>z),fun b q xs e=>up b _ e (g b _ e fun z=>z),
  fun b ps e=>⟨#[],by rw[up b _ e (g b _ e fun z=>z)];simp⟩⟩ fun b q e=>?_
 .by_cases f:b=a
  .subst f;show m
  .show⟨v,k b v f e⟩
 .by_cases f:b=a
  .subst f;rw[qb] at e;cases e;show p
  .rw [qf f] at e;by_cases h:b=d
   .subst h;rw[qb] at e;cases e;show t
   .rw [qf h] at e;show(I.hok b q e).stay (fun c v hc r=>k c v ?_ r) (fun c r=>up c _ r (g c _ r fun z=>z)) fun c xs r=>up c _ r (g c _ r fun z=>z);rcases hc with rfl | hc
    .show f
    .show g c _ hc fun z=>z
end
def qgn(K:yg)(c:TE)(f:Str):TE:=fun σ H Q=>c σ H fun x b=>(∃ a C dx fs v,x=.ref a/\b a=some (.ins C dx fs)/\Cls K C/\NoAttr K C f/\fs.lookup f=some v/\Q v b) \/
 (∃ a C dx fs v,x=.ref a/\IsX b a C (some dx)/\XAt K C/\NoAttr K C f/\b dx=some (.xd fs)/\fs.lookup f=some v/\Q v b)
def qgo(K:yg)(d e:TE)(f:Str):TS:=fun D σ H=>e σ H fun y c=>d σ c fun x b=>(∃ a C dx fs,x=.ref a/\b a=some (.ins C dx fs)/\Cls K C/\NoAttr K C f/\fs.length<1000 /\
  D.nx σ (upd b a (.ins C dx (qI f y fs)))) \/
 (∃ a C,x=.ref a/\b a=some (XN a C none)/\XAt K C/\NoAttr K C f/\∀ dx,b dx=none->D.nx σ (upd (upd b dx (.xd [(f,y)])) a (XN a C (some dx))))
section
variable{X:Cx}{o e value:Expr}{f:Str}{pos pos':Pos}{ta tv:TE}{K:yg}
theorem qC(w:X.K=K)(A:PE X e ta)(y:attributeBase e f X.env (eval e X.env)=eval e X.env):PE X (.Attribute e f pos) (qgn K ta f):=by
 subst w;intro pins s σ H Q I h;show attr_of y (thn (A pins s σ H _ I h) fun u F ⟨x,j,b,m,i⟩=>?_);rcases i with⟨a,C,dx,fs,v,rfl,g,c,n,l,q⟩ | ⟨a,C,dx,fs,v,rfl,g,c,n,z,l,q⟩
 .obtain rfl:u=Value.ref a:=m;show getattr_ok b g c n l fun E G p d=>⟨v,j,p,d,q⟩
 .obtain rfl:u=Value.ref a:=m;obtain⟨vs,i⟩:=g.get b.hok;obtain⟨od,D,h1,t,r⟩:=qfx b z;obtain⟨E,B,d⟩:=RelO.some_of (v:=v) (o:=D f) (by rw[<- l];show r f);show xget b.kIn (od:=some od) ⟨i,rfl,rfl,h1⟩ c (PySem.W.findObj_own c.hd n rfl (by rw[t,B])) (qcD d) ⟨v,j,b.tok _,d,q⟩
theorem j5(J:X.K=K)(L:PE X o ta)(hv:PE X value tv)(N:swapsWith value (some (.Attribute o f pos')) pos.line X.env=pure false):PS X (.Assign [.Attribute o f pos'] value pos) (qgo K ta tv f):=by
 subst J;intro pins s σ H D I h;show plainObj_wpAny_Assign_Attribute (thn (hv pins s σ H _ I h) fun u O ⟨y,A,B,z,q⟩=>thn (L pins O σ A _ B q) fun t i ⟨x,p,b,v,e⟩=>?_) N;rcases e with⟨a,C,dx,fs,rfl,d,c,n,l,m⟩ | ⟨a,C,rfl,d,c,n,m⟩
 .obtain rfl:t=Value.ref a:=v;show setattr_ok b d c n l z fun R E=>⟨σ,_,E,m⟩
 .obtain rfl:t=Value.ref a:=v;obtain⟨⟨P,e⟩,_⟩:=(show ObjOk X.prog X.w p i.heap a (XN a C none) from b.hok a _ d);show xset b.kIn e c n fun h' r F G=>?_;have nd:p i.heap.objs.size=none:=b.hok.fresh (yh _);have ne:i.heap.objs.size≠a:=Yn (yQ e);show⟨σ,_,b.both (o:=XN a C (some i.heap.objs.size)) (u:=.xd [(f,y)]) (by rw[d];show Y4) (yh _) G ⟨_,r⟩ (XN.ok r) ⟨_,F,fun g=>?_⟩ ne,m _ nd⟩;by_cases j:g=f
  .subst j;simp only[List.lookup,xx,Xv];show z
  .have M:(g==f)=false:=YV.mpr j;simp only[List.lookup,M,yA j];show Y4
end
def tXMake(C:Addr)(sp:Sp)(E:XK)(t:TA):TE:=fun σ H Q=>t σ H fun vs a=>vs.length<=1000/\∀ x,a x=none->sp (.ref x::vs) (upd a x (XN x C none)) (fun v b=>v=.non/\Q (.ref x) b) E
structure XMk(K:yg)(C f:Addr):Prop where
 at_:XAt K C
 init:PySem.W.findIn K (.ref C) "__init__"=some (some (.ref f))
 fn:PySem.W.isFn K (.ref f)=true
 kp:PySem.W.keepIn K (.ref C)=true
section
variable{X:Cx}{CX:CXT}{k:Nat}{f C:Addr}{fd:FuncData}{ps:LS}{sp:Sp}{E:XK}{x m:Str}{p pos apos:Pos}{e o:Expr}{es:List Expr}{ta:TE}{t:TA}
structure CMeth(K:yg)(C:Addr)(m:Str)(f:Addr):Prop where
 rd:PySem.W.readsIn K C (.type "type")=true
 at_:PySem.W.findCls K (.ref C) (.type "type") m=some (.val (.ref f))
 ga:PySem.W.specialIn K (.ref C) "__getattribute__"=some (some (.builtin "type.__getattribute__"))
 kp:PySem.W.keepIn K (.ref f)=true
end
def tVinit(K:yg)(t:TA):TE:=fun σ H Q=>t σ H fun vs b=>∃ a C y,vs=[.ref a,y]/\b a=some (XN a C none)/\XAt K C/\Q .non b
structure VInit(K:yg):Prop where
 ga:PySem.W.findIn K (.type "type") "__getattribute__"=some (some (.builtin "type.__getattribute__"))
 su:PySem.W.subIn K (.type "type") (.type "type")=some true
 at_:PySem.W.findCls K (.type "ValueError") (.type "type") "__init__"=some (.val (.builtin "ValueError.__init__"))
section
variable{X:Cx}{p pos apos:Pos}{e:Expr}{es:List Expr}{t:TA}{K:yg}
end
structure Keep(fs zs:LX)(h h':Heap):Prop where
 keep:∀ b o,h.get? b=some o->b∉zs->b∉fs->h'.get? b=some o
 slot:∀ b o,h.get? b=some o->b∉zs->b∈fs->∃ sl,h'.get? b=some { o with slots:=sl }
structure Trc(h:Heap)(e:Addr)(C:Value)(dx:Option Addr)(T:Addr)(fl:Value):Prop where
 ex:∃ vs,h.get? e=some ⟨C,dx,.fields vs,#[]⟩/\vs[1]?=some (.ref T)/\vs[2]?=some .none
 tb:∃ ts,h.get? T=some ⟨.type "traceback",none,.fields ts,#[]⟩/\ts[3]?=some fl
 ne:T≠e
section
variable{M:Model}{A:Around}{E:Value->Shared->Prop}{s:Shared}{base:Heap}{env:Env}{outer:List Env}{L e:Addr}{C:Value}{dx:Option Addr}{vs:Array Value}
end
def CX1(P:Program)(w:World):CXT:=fun b H s E d c=>∃(a C:Addr) (dx:Option Addr) (T:Addr) (H':Hp),d=.ref a/\c.os=s.os/\AllBare c.gens/\Un (frs b) [] H H' s.heap c.heap/\HOk P w H' c.heap /\
 H' a=some (XO a C dx)/\Trc c.heap a (.ref C) dx T .none/\s.heap.objs.size<=T/\H' T=none/\E (.ref C) dx H'
section
variable{X:Cx}{pins:List (Addr×Obj)}{σ:St}{H:Hp}{s:Shared}
end
structure XOk(X:Cx)(EK:St->XK):Prop where
 pass:∀(pins:List (Addr×Obj)) (σ:St) (H:Hp) (s:Shared) (e:Value) (s':Shared),Inv X pins σ H s->CX1 X.prog X.w X.stack H s (EK σ) e s'->X.xe e s'
 rais:∀(pins:List (Addr×Obj)) (σ:St) (H:Hp) (s:Shared) (a C:Addr) (dx:Option Addr),Inv X pins σ H s->H a=some (XN a C dx)->EK σ (.ref C) dx (upd H a (XO a C dx))->X.xe (.ref a) s
 calm:X.calm=true
section
variable{P:Program}{w:World}{K:yg}{mg:Str->Option Value}{base:Heap}{N:LS}{qual:Str}{scope:Scope}{f:Addr}{cd:Value}{A:Around}{outer:List Env}{s0:Shared}{H0:Hp}{E:XK}
end
def tRaise(K:yg)(c:St->XK)(te:TE):TS:=fun _ σ H=>te σ H fun x b=>∃ a C dx,x=.ref a/\b a=some (XN a C dx)/\XAt K C/\c σ (.ref C) dx (upd b a (XO a C dx))
section
variable{X:Cx}{EK:St->XK}{e:Expr}{te:TE}{pos:Pos}{K:yg}
end
def tCallS(sp:Sp)(a:St->XK)(t:TA):TE:=fun σ H Q=>t σ H fun vs b=>sp vs b Q (a σ)
def tMethS(C:Addr)(m:Str)(sp:Sp)(c:St->XK)(e:TE)(t:TA):TE:=fun σ H Q=>e σ H fun x b=>∃ a dx fs,x=.ref a/\b a=some (.ins C dx fs)/\fs.lookup m=none/\t σ b fun vs d=>sp (x::vs) d Q (c σ)
def tMakeS(C:Addr)(sp:Sp)(b:St->XK)(t:TA):TE:=fun σ H Q=>t σ H fun vs a=>∀ x dx,a x=none->a dx=none->dx≠x ->
 sp (.ref x::vs) (upd (upd a dx (.own x)) x (.ins C dx [])) (fun v c=>v=.non/\Q (.ref x) c) (b σ)
structure MethOk(P:Program)(w:World)(K:yg)(mg:Str->Option Value)(base:Heap)(CX:CXT)(k:Nat)(C:Addr)(m:Str)(ps:LS)(sp:Sp):Prop where
 ex:∃ f fd,FnOk P w K mg base CX k f fd ps sp/\Meth K C m f/\Binds K fd ps []
 cl:Cls K C
structure MakeOk(P:Program)(w:World)(K:yg)(mg:Str->Option Value)(base:Heap)(CX:CXT)(k:Nat)(C:Addr)(x:Str)(ps:LS)(sp:Sp):Prop where
 ex:∃ f fd,FnOk P w K mg base CX k f fd ps sp/\Mk K C f/\Binds K fd ps []
 mg_:mg x=some (.ref C)
structure XMakeOk(P:Program)(w:World)(K:yg)(mg:Str->Option Value)(base:Heap)(k:Nat)(C:Addr)(x:Str)(ps:LS)(sp:Sp):Prop where
 ex:∃ f fd,FnOk P w K mg base CX0 k f fd ps sp/\XMk K C f/\Binds K fd ps []
 mg_:mg x=some (.ref C)
section
variable{X:Cx}{EK:St->XK}{k:Nat}{f C:Addr}{fd:FuncData}{ps:LS}{sp:Sp}{x m:Str}{p pos apos:Pos}{e o:Expr}{es:List Expr}{ta:TE}{t:TA}
theorem qF(D:MethOk X.prog X.w X.K X.mg X.base CX0 k C m ps sp)(i:Room k X.A)(g:PE X o ta)(c:PA X (e::es) t)
  (b:starEach (e::es) X.env=(false,eval e X.env)::starEach es X.env:=by rfl) (a:(backTo pos (starEach es X.env)).any (·.1)=false:=by rfl)
  (j:eval (.Call (.Attribute o m apos) (e::es) [] pos) X.env=(do
   let ov <- eval o X.env
   standAt apos.atName
   let (f,first) <- holding [ov] (getMethod ov m pl)
   callWith pos f first (backTo pos (starEach (e::es) X.env)) (backToKw pos (keywordEach [] X.env))):=by rfl) :
  PE X (.Call (.Attribute o m apos) (e::es) [] pos) (qer C m sp [] E0 ta t):=by
 obtain⟨f,fd,F,h,d⟩:=D.ex;show pe_meth (pl:=pl) g D.cl h F i d .nil qB c b a j
theorem jd(D:MethOk X.prog X.w X.K X.mg X.base CX0 k C m ps sp)(d:Room k X.A)(b:PE X o ta)
  (e:eval (.Call (.Attribute o m apos) [] [] pos) X.env=(do
   let ov <- eval o X.env
   standAt apos.atName
   let (f,first) <- holding [ov] (getMethod ov m pl)
   callWith pos f first (backTo pos (starEach [] X.env)) (backToKw pos (keywordEach [] X.env))):=by rfl) :
  PE X (.Call (.Attribute o m apos) [] [] pos) (qer C m sp [] E0 ta qgE):=by
 obtain⟨f,fd,F,c,a⟩:=D.ex;show pe_meth0 (pl:=pl) b D.cl c F d a .nil qB e
end
section
variable{P:Program}{w:World}{K:yg}{mg:Str->Option Value}{base:Heap}
end
noncomputable abbrev Cx.tried(X:Cx)(pn:List (Addr×Obj))(E:Value->Shared->Prop):Cx:={ X with pn:=pn,xe:=E }
noncomputable abbrev Cx.hand(X:Cx)(a:Addr):Cx:={ X with A:=X.A.mark (some (.ref a)),calm:=false,xe:=fun _ _=>False }
section
variable{X:Cx}{pins pins':List (Addr×Obj)}{σ:St}{H:Hp}{s:Shared}{E:Value->Shared->Prop}{a:Addr}
structure Loose(X:Cx)(pins:List (Addr×Obj))(H:Hp)(T:Addr):Prop where
 hn:H T=none
 lo:X.s₀.heap.objs.size<=T
 nl:T≠X.env.locals
 nf:T∉X.fs
 nc:∀ x c,X.env.cells.lookup x=some c->c≠T
 np:∀ p∈X.pn++pins,p.1≠T
end
structure Held(X:Cx)(pins:List (Addr×Obj))(H:Hp)(h:Heap)(a C:Addr)(dx:Option Addr):Prop where
 at_:H a=some (XO a C dx)
 tr:∃ T,Trc h a (.ref C) dx T .none/\Loose X pins H T
section
variable{X:Cx}{a C D:Addr}{dx:Option Addr}{c n:Str}{cp pos:Pos}{b0:Stmt}{body:List Stmt}{qen:List ExceptHandler}{tb tr:TS}{i:Nat}{K:yg}
end
section
variable{X:Cx}{body orelse:List Stmt}{h0:ExceptHandler}{hs:List ExceptHandler}{pos:Pos}{te:TS}
end
def TyX(K:yg)(H:Hp)(x:V)(t:Value):Prop:=TyOf K H x t\/∃ a C dx,x=.ref a/\t=.ref C/\IsX H a C dx/\XAt K C/\∀ d,dx=some d->∃ fs,H d=some (.xd fs)
theorem TyX.kit{x:V}(I:Inv X pins σ H s)(e:RelV x u)(ty:TyX X.K H x t):∃ P:Heap->Prop,PySem.W.KitX X.K u t P/\P s.heap/\u≠.builtin "__main__.__loader__#opaque":=by
 rcases ty with ty | ⟨a,C,dx,rfl,rfl,hx,c,hd⟩
 .show ty.kit I e
 .cases e;obtain⟨vs,b⟩:=hx.get I.hok
  cases dx with
  | none=>show⟨_,qdK (od:=none) c,⟨b,rfl,rfl,Y4⟩,fun z=>nomatch z⟩
  | some d =>
   obtain⟨fs,f⟩:=hd d rfl;obtain⟨od,g,h1,_⟩:=qfx I f;show⟨_,qdK (od:=some od) c,⟨b,rfl,rfl,h1⟩,fun z=>nomatch z⟩
def qgp(K:yg):List V->Hp->VK->Prop:=fun xs H Q=>∃ x y t c b,xs=[x,y]/\TyX K H x t/\qcP y=some c/\PySem.W.kitOne K t c=some b/\Q (.bl b) H
def qfy(K:yg):List V->Hp->VK->Prop:=fun xs H Q=>∃ x p ys t a b,xs=[x,.ref p]/\TyX K H x t/\H p=some (.tup ys)/\ys.map qcP=a.map some/\PySem.W.kitAny K t a=some b/\Q (.bl b) H
section
variable{X:Cx}{K:yg}
theorem qaX(a:X.K=K):qab X (.builtin "isinstance") (qgp K):=by
 subst a;intro pins s σ H xs us Q I r h;obtain⟨x,y,t,c,b,rfl,ty,f,d,q⟩:=h;obtain⟨u,v,rfl,g,i⟩:=qfQ r;have e:=qb7 f i;subst e;obtain⟨P,Z,p,ne⟩:=ty.kit I g;show PySem.W.kia_one Z I.kIn p d ne fun tk=>⟨.bl b,H,I.tok tk,rfl,q⟩
theorem qdh(i:X.K=K):qab X (.builtin "isinstance") (qfy K):=by
 subst i;intro pins s σ H xs us Q I r h;obtain⟨x,p,ys,t,C,b,rfl,ty,y,z,j,q⟩:=h;obtain⟨u,v,rfl,B,f⟩:=qfQ r;cases f;obtain⟨P,Z,A,ne⟩:=ty.kit I B;obtain⟨_,its,f,o,m,hc,n,l⟩:=(show ObjOk X.prog X.w H s.heap p (.tup ys) from I.hok p _ y);have e:=qbM z f;subst e;obtain⟨c,D,g,E⟩:=o;have a:c=.type "tuple":=hc;have d:g=.seq its.toArray n:=l;subst a d;show PySem.W.kia_tup Z I.kIn A m j ne fun tk=>⟨.bl b,H,I.tok tk,rfl,q⟩
end
mutual
inductive EqD(K:yg)(H:Hp):Nat->V->V->Bool->Prop
 | flat {n:Nat} {x y:V} (fx:qaD x=true) (fy:qaD y=true):EqD K H n x y (eqV x y)
 | self {n:Nat} {a:Addr}:EqD K H n (.ref a) (.ref a) true
 | deep {n:Nat} {a b:Addr} {k:Bool} (h:EqT K H n a b k) (ne:a≠b):EqD K H n (.ref a) (.ref b) k
inductive EqT(K:yg)(H:Hp):Nat->Addr->Addr->Bool->Prop
 | lst {n:Nat} {a b:Addr} {xs ys:List V} {e:Nat->Bool} (ha:SqL K H a xs) (hb:SqL K H b ys) (hl:xs.length=ys.length) (he:∀ j x y,xs[j]?=some x->ys[j]?=some y->EqD K H n x y (e j)):EqT K H (n+1) a b ((List.range xs.length).all e)
 | lstL {n:Nat} {a b:Addr} {xs ys:List V} (ha:SqL K H a xs) (hb:SqL K H b ys) (hl:xs.length≠ys.length):EqT K H (n+1) a b false
 | tup {n:Nat} {a b:Addr} {xs ys:List V} {e:Nat->Bool} (ha:SqT K H a xs) (hb:SqT K H b ys) (he:∀ j x y,xs[j]?=some x->ys[j]?=some y->EqD K H n x y (e j)):EqT K H (n+1) a b ((List.range (min xs.length ys.length)).all e&&xs.length==ys.length)
 | lt {n:Nat} {a b:Addr} {xs ys:List V} (ha:SqL K H a xs) (hb:SqT K H b ys):EqT K H (n+1) a b false
 | tl {n:Nat} {a b:Addr} {xs ys:List V} (ha:SqT K H a xs) (hb:SqL K H b ys):EqT K H (n+1) a b false
end
theorem jv:∀{xs:List V} {us:List Value} {j:Nat} {u:Value},Vals xs us->us[j]?=some u->∃ x,xs[j]?=some x/\RelV x u
 | _,_,_,_,.nil,e=>by simp at e
 | _,_,0,_,.cons r _,e=>by simp at e;subst e;show⟨_,rfl,r⟩
 | _,_,j+1,u,.cons _ t,e=>by
  obtain⟨x,h1,a⟩:=jv (j:=j) (u:=u) t (by simpa using e);show⟨x,by simpa using h1,a⟩
section
variable{X:Cx}{pins:List (Addr×Obj)}{σ:St}{H:Hp}{s:Shared}
theorem qdi(I:Inv X pins σ H s):∀ n,(∀(A:Around) (x y:V) (k:Bool) (u v:Value),EqD X.K H n x y k->RelV x u->RelV y v->A.units+n<cLine->SeqAt.EqAt A s u v k)/\(∀(A:Around) (a b:Addr) (k:Bool),EqT X.K H n a b k->A.units+n<cLine->SeqAt.RcAt A s (.ref a) (.ref b) k):=by
 intro n
 induction n with
 | zero =>
  have F:∀(A:Around) (a b:Addr) (k:Bool),EqT X.K H 0 a b k->A.units+0<cLine->SeqAt.RcAt A s (.ref a) (.ref b) k:=fun A a b k h=>by cases h
  show⟨fun A x y k u v h g i z=>?_,F⟩
  cases h with
  | flat fx fy=>show qew g i fx fy
  | self=>cases g;cases i;show X2 _
  | deep h ne=>cases h
 | succ n ih =>
  have D:∀(A:Around) (a b:Addr) (k:Bool),EqT X.K H (n+1) a b k->A.units+(n+1)<cLine->SeqAt.RcAt A s (.ref a) (.ref b) k:=fun A a b k h z=>by
   have f:A.units<cLine:=by lk
   have o:A.in1.units+n<cLine:=by show A.units+1+n<cLine;lk
   cases h with
   | @lst _ _ _ xs ys e ha hb hl he =>
    obtain⟨its,r,pl,hz⟩:=I.list ha;obtain⟨c,m,d,l⟩:=I.list hb;have p:xs.length=its.toArray.size:=by rw[yx];show r.length
    have q:ys.length=c.toArray.size:=by rw[yx];show m.length
    rw[p];show SeqAt.RcAt.lists pl.isList d.isList (by rw[<- p,<- q,hl]) f fun j h1 E=>?_;have t:its[j]?=some its.toArray[j]:=by simp
    have w:c[j]?=some c.toArray[j]:=by simp
    obtain⟨x,B,g⟩:=jv r t;obtain⟨y,C,i⟩:=jv m w;show ih.1 A.in1 x y (e j) _ _ (he j x y B C) g i o
   | @lstL _ _ _ xs ys ha hb hl =>
    obtain⟨its,r,pl,hz⟩:=I.list ha;obtain⟨c,m,d,l⟩:=I.list hb;show SeqAt.RcAt.lists_lengths pl.isList d.isList ?_ f;rw[yx,yx,<- r.length,<- m.length];simp[hl]
   | @tup _ _ _ xs ys e ha hb he =>
    obtain⟨its,r,pl,hz⟩:=I.tuple ha;obtain⟨c,m,d,l⟩:=I.tuple hb;have p:xs.length=its.toArray.size:=by rw[yx];show r.length
    have q:ys.length=c.toArray.size:=by rw[yx];show m.length
    rw[p,q];show SeqAt.RcAt.tuples pl d f fun j h1 E=>?_;have t:its[j]?=some its.toArray[j]:=by simp
    have w:c[j]?=some c.toArray[j]:=by simp
    obtain⟨x,B,g⟩:=jv r t;obtain⟨y,C,i⟩:=jv m w;show ih.1 A.in1 x y (e j) _ _ (he j x y B C) g i o
   | lt ha hb =>
    obtain⟨its,r,pl,hz⟩:=I.list ha;obtain⟨c,m,d,l⟩:=I.tuple hb;show SeqAt.RcAt.list_tuple pl.isList d f
   | tl ha hb =>
    obtain⟨its,r,pl,hz⟩:=I.tuple ha;obtain⟨c,m,d,l⟩:=I.list hb;show SeqAt.RcAt.tuple_list pl d.isList f
  show⟨fun A x y k u v h g i z=>?_,D⟩
  cases h with
  | flat fx fy=>show qew g i fx fy
  | self=>cases g;cases i;show X2 _
  | deep h ne=>cases g;cases i;show SeqAt.EqAt.of_refs ne (D A _ _ k h z)
theorem ne_refs(I:Inv X pins σ H s){n:Nat}{A:Around}{a b:Addr}{k:Bool}(h:EqT X.K H n a b k)(z:A.units+n<cLine):SeqAt.RcNeAt A s (.ref a) (.ref b) (!k):=by
 cases n with
 | zero=>cases h
 | succ n =>
  have v:=qdi I n;have f:A.units<cLine:=by lk
  have l:A.in1.units+n<cLine:=by show A.units+1+n<cLine;lk
  cases h with
  | @lst _ _ _ xs ys e ha hb hl he =>
   obtain⟨its,r,pl,hz⟩:=I.list ha;obtain⟨c,i,d,g⟩:=I.list hb;have m:xs.length=its.toArray.size:=by rw[yx];show r.length
   have o:ys.length=c.toArray.size:=by rw[yx];show i.length
   rw[m];show SeqAt.RcNeAt.lists pl.isList d.isList (by rw[<- m,<- o,hl]) f fun j h1 w=>?_;obtain⟨x,p,t⟩:=jv r (show its[j]?=some its.toArray[j] by simp);obtain⟨y,q,u⟩:=jv i (show c[j]?=some c.toArray[j] by simp);show v.1 A.in1 x y (e j) _ _ (he j x y p q) t u l
  | @lstL _ _ _ xs ys ha hb hl =>
   obtain⟨its,r,pl,hz⟩:=I.list ha;obtain⟨c,i,d,g⟩:=I.list hb;show SeqAt.RcNeAt.lists_lengths pl.isList d.isList ?_ f;rw[yx,yx,<- r.length,<- i.length];simp[hl]
  | @tup _ _ _ xs ys e ha hb he =>
   obtain⟨its,r,pl,hz⟩:=I.tuple ha;obtain⟨c,i,d,g⟩:=I.tuple hb;have m:xs.length=its.toArray.size:=by rw[yx];show r.length
   have o:ys.length=c.toArray.size:=by rw[yx];show i.length
   rw[m,o];show SeqAt.RcNeAt.tuples pl d f fun j h1 w=>?_;obtain⟨x,p,t⟩:=jv r (show its[j]?=some its.toArray[j] by simp);obtain⟨y,q,u⟩:=jv i (show c[j]?=some c.toArray[j] by simp);show v.1 A.in1 x y (e j) _ _ (he j x y p q) t u l
  | lt ha hb =>
   obtain⟨its,r,pl,hz⟩:=I.list ha;obtain⟨c,i,d,g⟩:=I.tuple hb;show SeqAt.RcNeAt.list_tuple pl.isList d f
  | tl ha hb =>
   obtain⟨its,r,pl,hz⟩:=I.tuple ha;obtain⟨c,i,d,g⟩:=I.list hb;show SeqAt.RcNeAt.tuple_list pl d.isList f
theorem qfz{A:Around}{x y:V}{u v:Value}(e:RelV x u)(c:RelV y v)(f:qaD x=true)(d:qaD y=true):SeqAt.RcAt A s u v (eqV x y)/\SeqAt.RcNeAt A s u v (!eqV x y):=by
 cases x with
 | non =>
  cases e
  cases y with
  | non=>cases c;show⟨SeqAt.RcAt.none_none,SeqAt.RcNeAt.none_none⟩
  | bl b=>cases c;show⟨SeqAt.RcAt.none_bool b,SeqAt.RcNeAt.none_bool b⟩
  | int b=>obtain⟨t,rfl⟩:=c;show⟨SeqAt.RcAt.none_int b t,SeqAt.RcNeAt.none_int b t⟩
  | str b=>obtain⟨t,rfl⟩:=c;show⟨SeqAt.RcAt.none_str b t,SeqAt.RcNeAt.none_str b t⟩
  | _=>cases d
 | bl a =>
  cases e
  cases y with
  | non=>cases c;show⟨SeqAt.RcAt.bool_none a,SeqAt.RcNeAt.bool_none a⟩
  | bl b=>cases c;show⟨SeqAt.RcAt.bool_bool a b,SeqAt.RcNeAt.bool_bool a b⟩
  | int b=>obtain⟨t,rfl⟩:=c;show⟨SeqAt.RcAt.bool_int a b t,SeqAt.RcNeAt.bool_int a b t⟩
  | str b=>obtain⟨t,rfl⟩:=c;show⟨SeqAt.RcAt.bool_str a b t,SeqAt.RcNeAt.bool_str a b t⟩
  | _=>cases d
 | int a =>
  obtain⟨t',rfl⟩:=e
  cases y with
  | non=>cases c;show⟨SeqAt.RcAt.int_none a t',SeqAt.RcNeAt.int_none a t'⟩
  | bl b=>cases c;show⟨SeqAt.RcAt.int_bool a t' b,SeqAt.RcNeAt.int_bool a t' b⟩
  | int b=>obtain⟨t,rfl⟩:=c;show⟨SeqAt.RcAt.int_int a t' b t,SeqAt.RcNeAt.int_int a t' b t⟩
  | str b=>obtain⟨t,rfl⟩:=c;show⟨SeqAt.RcAt.int_str a t' b t,SeqAt.RcNeAt.int_str a t' b t⟩
  | _=>cases d
 | str a =>
  obtain⟨t',rfl⟩:=e
  cases y with
  | non=>cases c;show⟨SeqAt.RcAt.str_none a t',SeqAt.RcNeAt.str_none a t'⟩
  | bl b=>cases c;show⟨SeqAt.RcAt.str_bool a t' b,SeqAt.RcNeAt.str_bool a t' b⟩
  | int b=>obtain⟨t,rfl⟩:=c;show⟨SeqAt.RcAt.str_int a t' b t,SeqAt.RcNeAt.str_int a t' b t⟩
  | str b=>obtain⟨t,rfl⟩:=c;show⟨SeqAt.RcAt.str_str a t' b t,SeqAt.RcNeAt.str_str a t' b t⟩
  | _=>cases d
 | _=>cases f
end
def qf6(K:yg)(c:Bool):R2:=fun x y H Q=>(qaD x=true/\qaD y=true/\Q (.bl (if c then !eqV x y else eqV x y)) H) \/
 (∃ a b k n,x=.ref a/\y=.ref b/\n<=60/\EqT K H n a b k/\Q (.bl (if c then !k else k)) H) \/
 (∃ a kvs,x=.ref a/\y=.ref a/\H a=some (.dK kvs)/\Q (.bl (!c)) H)
theorem qbN{b:Type}[DecidableEq b]:∀{a:List (b×Value)} {k:b} {v:Value},(a.map (·.1)).Nodup->(k,v)∈a->valueAt a k=some v
 | [],_,_,_,h=>by cases h
 | (k',v')::r,k,v,hn,h=>by
  obtain⟨h1,c⟩:=yo.mp (show(k'::r.map (·.1)).Nodup from hn);unfold valueAt;rw[xF];by_cases e:k'=k
  .subst e;simp only[decide_true];rcases yy.mp h with z | z
   .cases z;rfl
   .show absurd (yE.mpr ⟨(k',v),z,rfl⟩) h1
  .simp only[e,Ka];rcases yy.mp h with z | z
   .cases z;show absurd rfl e
   .show qbN c z
theorem qdj{A:Around}{s:Shared}{c:Type}[DecidableEq c](a:List (c×Value))(d:(a.map (·.1)).Nodup):∀ f:List (c×Value),(∀ p∈f,p∈a)->PySem.W.KeqHits A s a f true
 | [],_=>.nil
 | (k,v)::r,h=>by
  have hv:valueAt a k=some v:=qbN d (h (k,v) yO);show .hit (e:=true) (b:=true) hv (X2 v) (qdj a d r fun p g=>h p (yz _ g))
section
variable{X:Cx}{K:yg}
theorem k_eqU(m:X.K=K)(p:X.A.units+100<cLine):OpR X (compareOp .Eq) (qf6 K false):=by
 subst m;intro pins s σ H x y u v Q I c f h;rcases h with⟨j,l,q⟩ | ⟨a,b,k,n,rfl,rfl,o,e,q⟩ | ⟨a,kvs,rfl,rfl,i,q⟩
 .show(qfz c f j l).1 _ _ _ _ ⟨.bl _,H,I,rfl,q⟩
 .cases c;cases f;show(qdi I n).2 X.A a b k e (by lk) _ _ _ _ ⟨.bl _,H,I,rfl,q⟩
 .cases c;cases f;obtain⟨_,g,vs,r,d⟩:=(show ObjOk X.prog X.w H s.heap a (.dK kvs) from I.hok a _ i);obtain⟨_,_,_,_,_,_,_,_,nd⟩:=id d;show PySem.W.keq_eq g g d d (by lk) (fun _=>qdj vs nd vs fun _ h=>h) ?_;rw[xx];show⟨.bl true,H,I,rfl,q⟩
theorem qaJ(m:X.K=K)(p:X.A.units+100<cLine):OpR X (compareOp .NotEq) (qf6 K true):=by
 subst m;intro pins s σ H x y u v Q I c f h;rcases h with⟨j,l,q⟩ | ⟨a,b,k,n,rfl,rfl,o,e,q⟩ | ⟨a,kvs,rfl,rfl,i,q⟩
 .show(qfz c f j l).2 _ _ _ _ ⟨.bl _,H,I,rfl,q⟩
 .cases c;cases f;show ne_refs I e (by lk) _ _ _ _ ⟨.bl _,H,I,rfl,q⟩
 .cases c;cases f;obtain⟨_,g,vs,r,d⟩:=(show ObjOk X.prog X.w H s.heap a (.dK kvs) from I.hok a _ i);obtain⟨_,_,_,_,_,_,_,_,nd⟩:=id d;show PySem.W.keq_ne g g d d (by lk) (fun _=>qdj vs nd vs fun _ h=>h) ?_;rw[xx];show⟨.bl false,H,I,rfl,q⟩
end
section
variable{X:Cx}{K:yg}
def qgH(K:yg):R2:=fun x y H Q=>rIx K x y H Q\/∃ a v,x=.ref a/\DGet H a y (some v)/\Q v H
theorem qv(f:X.K=K)(m:X.A.units+100<cLine):IxR X (qgH K):=by
 subst f;show IxR.or ix_seq ?_;intro d c pins s σ H x y v u Q I j l h i;obtain⟨a,z,rfl,g,q⟩:=h;cases j;show tail_any (dict_typeIs I g) PySem.F.slot_dict_getitem.lookup (d_getItem (by lk) I g l fun o n e b=>⟨z,H,e,b,q⟩) i
def rSetU:qgd:=fun o i v H Q=>qfT o i v H Q\/∃ a H',o=.ref a/\DPut H a i v H'/\Q H'
theorem jP(l:X.A.units+100<cLine):qgL X rSetU:=by
 intro pins s σ H o i v j f u Q I c b d h;rcases h with h | ⟨a,H',rfl,g,q⟩
 .show set_list pins s σ H o i v j f u Q I c b d h
 .cases c;show d_setItem (by lk) I g b d fun m e=>⟨H',e,q⟩
def qem(K:yg)(b:Bool):R2:=fun x y H Q=>rIn K b x y H Q\/(∃ a o,y=.ref a/\DGet H a x o/\Q (.bl (if b then !o.isSome else o.isSome)) H) \/
 (∃ p xs e n,y=.ref p/\SqL K H p xs/\n<=60/\(∀ z∈xs,EqD K H n z x (e z))/\Q (.bl (if b then !xs.any e else xs.any e)) H)
theorem qfA{pins:List (Addr×Obj)}{σ:St}{H:Hp}{s:Shared}{xs:List V}{its:List Value}{x:V}{u:Value}{e:V->Bool}{n:Nat}{A:Around}(I:Inv X pins σ H s)(r:Vals xs its)(p:RelV x u)(o:A.units+n<cLine)(m:∀ z∈xs,EqD X.K H n z x (e z)) :
  ∃ g:Value->Bool,(∀ w,w∈its.toArray->SeqAt.EqAt A s w u (g w))/\its.toArray.any g=xs.any e:=by
 classical
 show⟨fun w=>decide (∃ z∈xs,RelV z w/\e z=true),fun w hw=>?_,?_⟩
 .have d:w∈its:=by simpa using hw
  obtain⟨j,c⟩:=Xn.mp d;obtain⟨z,hz,a⟩:=jv r c;have i:=ye hz
  have eq:decide (∃ z∈xs,RelV z w/\e z=true)=e z:=by
   cases q:e z with
   | true=>show yB ⟨z,i,a,q⟩
   | false =>
    show yl fun⟨t,_,f,l⟩=>?_;rw[RelV.inj f a,q] at l;cases l
  show SeqAt.EqAt A s w u (decide (∃ z∈xs,RelV z w/\e z=true));rw[eq];show(qdi I n).1 A z x (e z) w u (m z i) a p o
 .rw [Yr,YJ];constructor
  .intro h;have h':its.any (fun w=>decide (∃ z∈xs,RelV z w/\e z=true))=true:=by simpa using h
   obtain⟨w,_,q⟩:=YJ.mp h';obtain⟨z,hz,_,b⟩:=yk q;show⟨z,hz,b⟩
  .rintro ⟨z,hz,b⟩;obtain⟨j,c⟩:=Xn.mp hz;obtain⟨w,hw,a⟩:=r.get c;have:its.any (fun w=>decide (∃ z∈xs,RelV z w/\e z=true))=true:=YJ.mpr ⟨w,ye hw,yB ⟨z,hz,a,b⟩⟩;simpa using this
theorem zQ(j:X.K=K)(l:X.A.units+100<cLine):OpR X (compareOp .In) (qem K false):=by
 subst j;intro pins s σ H x y u v Q I b c h;rcases h with h | ⟨a,o,rfl,g,q⟩ | ⟨p,xs,e,n,rfl,hl,hn,he,q⟩
 .show op_in_seq pins s σ H x y u v Q I b c h
 .cases c;show d_in (by lk) I g b fun m d=>⟨.bl _,H,d,rfl,q⟩
 .cases c;obtain⟨its,r,pl,hz⟩:=I.list hl;obtain⟨f,h1,i⟩:=qfA (A:=X.A.in1) I r b (by show X.A.units+1+n<cLine;lk) he;show SeqAt.in_listAt f pl.isList h1 (by rw[i];show⟨.bl _,H,I,rfl,q⟩)
theorem j9(j:X.K=K)(l:X.A.units+100<cLine):OpR X (compareOp .NotIn) (qem K true):=by
 subst j;intro pins s σ H x y u v Q I b c h;rcases h with h | ⟨a,o,rfl,g,q⟩ | ⟨p,xs,e,n,rfl,hl,hn,he,q⟩
 .show op_notIn_seq pins s σ H x y u v Q I b c h
 .cases c;show d_notIn (by lk) I g b fun m d=>⟨.bl _,H,d,rfl,q⟩
 .cases c;obtain⟨its,r,pl,hz⟩:=I.list hl;obtain⟨f,h1,i⟩:=qfA (A:=X.A.in1) I r b (by show X.A.units+1+n<cLine;lk) he;show SeqAt.notIn_listAt f pl.isList h1 (by rw[i];show⟨.bl _,H,I,rfl,q⟩)
def rListU(K:yg):List V->Hp->VK->Prop:=fun xs H Q=>(∃ p ys,xs=[.ref p]/\(SqL K H p ys\/SqT K H p ys)/\∀ l,H l=none->Q (.ref l) (upd H l (.lst ys))) \/
 (∃ p kvs,xs=[.ref p]/\H p=some (.dK kvs)/\∀ l,H l=none->Q (.ref l) (upd H l (.lst (kvs.map fun a=>kV a.1)))) \/
 (∃ x,xs=[.str x]/\x.length<=1000/\∀ l,H l=none->Q (.ref l) (upd H l (.lst (x.cps.toList.map fun c=>.str ⟨#[c]⟩))))
theorem qb8{c d:Type}{F:c->d->Prop}:∀{l:List c} {m:List d} {j:Nat} {a:c},Paired F l m->l[j]?=some a->∃ b,m[j]?=some b/\F a b
 | _,_,_,_,.nil,e=>by simp at e
 | _,_,0,_,.cons r _,e=>by simp at e;subst e;show⟨_,rfl,r⟩
 | _,_,j+1,a,.cons _ t,e=>by
  obtain⟨b,h1,f⟩:=qb8 (j:=j) (a:=a) t (by simpa using e);show⟨b,by simpa using h1,f⟩
theorem qar:∀{ys:List V} {us:List Value},ys.length=us.length->(∀(j:Nat) y u,ys[j]?=some y->us[j]?=some u->RelV y u)->Vals ys us
 | [],[],_,_=>.nil
 | [],_::_,h,_=>by cases h
 | _::_,[],h,_=>by cases h
 | y::ys,u::us,h,q=>.cons (q 0 y u rfl rfl) (qar (Nat.succ.inj h) fun j c b h1 a=>q (j+1) c b (by simpa using h1) (by simpa using a))
theorem qaK(J:X.K=K)(hc:X.calm=true):qab X (.type "list") (rListU K):=by
 subst J;intro pins s σ H xs us Q I r h;rcases h with h | ⟨p,kvs,rfl,ea,q⟩ | ⟨x,rfl,hx,q⟩
 .show call_list_of pins s σ H xs us Q I r h
 .obtain⟨u,rfl,M⟩:=qbY r;cases M;obtain⟨hz,L,vs,D,d⟩:=(show ObjOk X.prog X.w H s.heap p (.dK kvs) from I.hok p _ ea);obtain⟨ep,n⟩:=d.dictAt;have hl:kvs.length=vs.length:=D.length;show PySem.W.kdl_call (PySem.W.kdl_dict (knd:=jr X.prog X.w) (kvs:=vs) (ep:=ep) L) (I.ok.hd hc) n (by rw[<- hl];show hz) fun h' tk a f A e it=>?_;obtain⟨o,v⟩:=it
  have hv:Vals (kvs.map fun b=>kV b.1) a.toList:=by
   show qar (by rw[ya,hl,<- o];simp) fun j y u h1 g=>?_;obtain⟨k,x,l,F⟩:=v j u (by simpa using g);rw[yd] at h1
   cases B:kvs[j]? with
   | none=>rw[B] at h1;cases h1
   | some b =>
    rw[B] at h1;cases h1;obtain⟨O,C,G,N⟩:=qb8 D B;rw[l] at C;cases C;have E:b.1=k:=G;show RelV (kV b.1) u;rw[E];rcases je (show qda k u=true from F) with⟨i,t,rfl,rfl⟩ | ⟨z,t,rfl,rfl⟩
    .show⟨t,rfl⟩
    .show⟨t,rfl⟩
  show⟨.ref s.heap.objs.size,_,I.laid (t':=tk) A (yh _) (show ObjOk X.prog X.w _ h' _ (.lst (kvs.map fun b=>kV b.1)) from⟨by rw[ya];show hz,a.toList,f,hv,by simpa using e⟩),rfl,q _ (I.hok.fresh (yh _))⟩
 .obtain⟨u,rfl,t,rfl⟩:=qbY r;have hsz:x.cps.size<=sizeLine:=yW (qi hx);show call_list_str (I.ok.hd hc) x t (fun h' tk a f A e it=>?_) hsz;obtain⟨o,v⟩:=it
  have hv:Vals (x.cps.toList.map fun c=>V.str ⟨#[c]⟩) a.toList:=by
   show qar (by rw[ya];simp[o]) fun j y u h1 g=>?_;obtain⟨c,t',l,rfl⟩:=v j u (by simpa using g);rw[yd] at h1;have m:x.cps.toList[j]?=some c:=by simpa using l
   rw[m] at h1;cases h1;show⟨t',rfl⟩
  show⟨.ref s.heap.objs.size,_,I.laid (t':=tk) A (yh _) (show ObjOk X.prog X.w _ h' _ (.lst (x.cps.toList.map fun c=>V.str ⟨#[c]⟩)) from⟨by rw[ya];simpa using hsz,a.toList,f,hv,by simpa using e⟩),rfl,q _ (I.hok.fresh (yh _))⟩
end
structure CMethOk(P:Program)(w:World)(K:yg)(mg:Str->Option Value)(base:Heap)(CX:CXT)(k:Nat)(C:Addr)(x m:Str)(ps:LS)(sp:Sp):Prop where
 ex:∃ f fd,FnOk P w K mg base CX k f fd ps sp/\CMeth K C m f/\Binds K fd ps []
 mg_:mg x=some (.ref C)
section
variable{X:Cx}{k:Nat}{C:Addr}{ps:LS}{sp:Sp}{x m:Str}{p pos apos:Pos}{e:Expr}{es:List Expr}{t:TA}
theorem qaY(D:MakeOk X.prog X.w X.K X.mg X.base CX0 k C x ps sp)(i:Room (k+1) X.A)(c:PA X (e::es) t)(h:Gl X x:=by rfl)(a:(x==("__debug__":Str))=false:=by decide)
  (g:starEach (e::es) X.env=(false,eval e X.env)::starEach es X.env:=by rfl) (b:(backTo pos (starEach es X.env)).any (·.1)=false:=by rfl):PE X (.Call (.Name x p) (e::es) [] pos) (qfS C sp [] E0 t):=by
 obtain⟨f,j,F,M,d⟩:=D.ex;show pe_make M F i h D.mg_ d .nil qB c a g b
end
theorem own_eq_same{prog:Program}{w:World}{A:Around}{E:Value->Shared->Prop}{s:Shared}{K:yg}{x C:Addr}{ox:Obj}{od:Option Obj}{Q:Value->Shared->Prop}(m:A.units<cLine)(X:K.In s.heap)(I:PySem.W.InstAt s.heap x ox C od)
  (l:PySem.W.findIn K (.ref C) "__eq__"=some (some (.builtin "object.__eq__"))) (i:PySem.W.mroIn K C (.type "object")=some true) (h:Q (.bool true) s):wpAny (model prog w) A (richCompare .Eq (.ref x) (.ref x)) Q E s:=by
 have a:∀{g:Around} {f:Value->Shared->Prop},f (.bool true) s->wpAny (model prog w) g (call (.builtin "object.__eq__") [.ref x,.ref x]) f E s:=fun{g f} q=>by
  show km (Xq PySem.F.slot_object_eq.plain PySem.F.entry_object_eq (@PySem.W.check_slot (model prog w) _ _ s "object.__eq__" "object" "__eq__" (.ref x) [.ref x] [] _ (by room) (by room) (I.type.andThen (xW X i)) (PySem.F.args_object_eq_2 _ _) ?_));show yr (yw (yr (wpAny_isSame_ref_self ?_)));show yw q
 have one:wpAny (model prog w) A (tryCompare (.ref x) "__eq__" (.ref x)) (fun r c=>∃ v,r=some v/\Q v c) E s:=by
  unfold tryCompare;show yr ?_;simp only[callSpecialIfBound?,bindSpecialIfBound?];show Yv (yr (yr (yr (I.type.here ((xl X l).here ?_)))));show yr (kJ (wpAny_ite ?_));have b:=PySem.F.slot_object_eq.bind (.ref x)
  have d:wpAny (model prog w) A (call (.builtin "object.__eq__") ([.ref x]++[.ref x])>>=fun v=>pure (some v)) (fun r c=>wpAny (model prog w) A (match r with | some .notImplemented | none=>pure none | some v=>pure (some v)) (fun r c=>∃ v,r=some v/\Q v c) E c) E s:=
   yr (a (yw (yw ⟨_,rfl,h⟩)))
  split
  .show yr (Y6 b (yw d))
  .show wpAny_tryCatch (yr (Y6 b (yw d)))
 unfold richCompare;simp only[oneThing_ref];show Yv (yr (wpAny_cRoomFor m ?_));show yr (I.type.here (yr (I.type.here ?_)));rw[yA (by simp)];show yr (yw ?_);simp only[YM,Xa];show yr (Y3 one (fun r c z=>?_) fun _ _ e=>e);obtain⟨v,rfl,j⟩:=z;show yw j
structure OEq(K:yg)(C:Addr):Prop where
 eq:PySem.W.findIn K (.ref C) "__eq__"=some (some (.builtin "object.__eq__"))
 ob:PySem.W.mroIn K C (.type "object")=some true
def qhg(K:yg):R2:=fun x y H Q=>qf6 K false x y H Q\/∃ a C dx fs,x=.ref a/\y=.ref a/\H a=some (.ins C dx fs)/\OEq K C/\Q (.bl true) H
theorem k_eqW{X:Cx}{K:yg}(d:X.K=K)(e:X.A.units+100<cLine):OpR X (compareOp .Eq) (qhg K):=by
 subst d;intro pins s σ H x y u v Q I b c h;rcases h with h | ⟨a,C,dx,fs,rfl,rfl,ea,oe,q⟩
 .show k_eqU rfl e pins s σ H x y u v Q I b c h
 .cases b;cases c;obtain⟨f,O,_⟩:=qbb I.hok ea;obtain⟨od,J,_⟩:=O.look;show own_eq_same (by lk) I.kIn J oe.eq oe.ob ⟨.bl true,H,I,rfl,q⟩
theorem qO{X:Cx}:MtR X "list.append" qey:=mt_append
theorem qas{X:Cx}:MtR X "list.extend" qez:=mt_extend
theorem mtR_pop{X:Cx}:MtR X "list.pop" qg8:=mt_pop
theorem mtR_popAt{X:Cx}:MtR X "list.pop" qft:=mt_popAt
theorem mtR_clear{X:Cx}:MtR X "list.clear" qfu:=mt_clear
section
variable{D:Ends}{σ:St}{H:Hp}{Q:VK}{t u:TS}{te ta tb tc:TE}{tas:TA}{K:yg}{sp:Sp}{E:XK}{EK:St->XK}{C:Addr}{f m:Str}
theorem vFldU (h:ta σ H fun x b=>(∃ a C dx fs v,x=.ref a/\b a=some (.ins C dx fs)/\Cls K C/\NoAttr K C f/\fs.lookup f=some v/\Q v b) \/
 (∃ a C dx fs v,x=.ref a/\IsX b a C (some dx)/\XAt K C/\NoAttr K C f/\b dx=some (.xd fs)/\fs.lookup f=some v/\Q v b)):qgn K ta f σ H Q:=h
theorem vSFldU (h:te σ H fun y c=>ta σ c fun x b=>(∃ a C dx fs,x=.ref a/\b a=some (.ins C dx fs)/\Cls K C/\NoAttr K C f/\fs.length<1000/\D.nx σ (upd b a (.ins C dx (qI f y fs)))) \/
 (∃ a C,x=.ref a/\b a=some (XN a C none)/\XAt K C/\NoAttr K C f/\∀ dx,b dx=none->D.nx σ (upd (upd b dx (.xd [(f,y)])) a (XN a C (some dx))))):qgo K ta te f D σ H:=h
theorem vXMake(h:tas σ H fun vs a=>vs.length<=1000/\∀ x,a x=none->sp (.ref x::vs) (upd a x (XN x C none)) (fun v b=>v=.non/\Q (.ref x) b) E):tXMake C sp E tas σ H Q:=h
theorem vMake(h:tas σ H fun vs a=>∀ x dx,a x=none->a dx=none->dx≠x->sp (.ref x::(vs++[])) (upd (upd a dx (.own x)) x (.ins C dx [])) (fun v b=>v=.non/\Q (.ref x) b) E):qfS C sp [] E tas σ H Q:=h
theorem vMeth(h:ta σ H fun x b=>∃ a dx fs,x=.ref a/\b a=some (.ins C dx fs)/\fs.lookup m=none/\tas σ b fun vs c=>sp (x::(vs++[])) c Q E):qer C m sp [] E ta tas σ H Q:=h
theorem vVinit(h:tas σ H fun vs b=>∃ a C y,vs=[.ref a,y]/\b a=some (XN a C none)/\XAt K C/\Q .non b):tVinit K tas σ H Q:=h
theorem vCallS(h:tas σ H fun vs a=>sp vs a Q (EK σ)):tCallS sp EK tas σ H Q:=h
theorem vMethS(h:ta σ H fun x b=>∃ a dx fs,x=.ref a/\b a=some (.ins C dx fs)/\fs.lookup m=none/\tas σ b fun vs c=>sp (x::vs) c Q (EK σ)):tMethS C m sp EK ta tas σ H Q:=h
theorem vMakeS(h:tas σ H fun vs a=>∀ x dx,a x=none->a dx=none->dx≠x->sp (.ref x::vs) (upd (upd a dx (.own x)) x (.ins C dx [])) (fun v b=>v=.non/\Q (.ref x) b) (EK σ)):tMakeS C sp EK tas σ H Q:=h
theorem vRaise(h:te σ H fun x b=>∃ a C dx,x=.ref a/\b a=some (XN a C dx)/\XAt K C/\EK σ (.ref C) dx (upd b a (XO a C dx))):tRaise K EK te D σ H:=h
theorem qch{x y:V}{t a:Value}{b:Bool}(ty:TyX K H x t)(d:qcP y=some a)(c:PySem.W.kitOne K t a=some b)(h:Q (.bl b) H):qgp K [x,y] H Q:=⟨x,y,t,a,b,rfl,ty,d,c,h⟩
end
section
variable{prog:Program}{w:World}{A:Around}{E:Value->Shared->Prop}{s:Shared}
theorem none_dict{a:Addr}{Q:Value->Shared->Prop}(d:s.TypeIs (.ref a) "dict")(e:A.units<cLine)(h:Q (.bool false) s):wpAny (model prog w) A (richCompare .Eq .none (.ref a)) Q E s:=by
 show SeqAt.rc_eq_decline_or (k:=false) rfl d (by decide) PySem.F.sub_dict_NoneType YY PySem.F.slot_dict_eq_refl
  (fun _ c=>call_gives YY rfl PySem.F.entry_NoneType_eq (PySem.F.args_NoneType_eq_2 _ _) (SeqAt.NoneType___eq___none_ref_0 a) c) (fun f c=>?_) (fun _ c=>Y6 (rfl:isSame .none (.ref a)=pure false) c) (.inr e) h
 show Xw PySem.F.slot_dict_eq_refl d PySem.F.entry_dict_eq ?_ (PySem.F.args_dict_eq_2 _ _);show wpAny _ _ (Builtin.Dict.dictSlotArgs "__eq__" ⟨[.ref a,.none],[]⟩>>=_) _ _ s;show yr ?_;unfold Builtin.Dict.dictSlotArgs;show yr (wpAny_notOrdered_dict d ?_);show wpAny _ _ (pure (Value.ref a,Value.none)) _ _ s;show yw ?_;show yr (wpAny_isInstance (T:="NoneType") (b:=false) rfl PySem.F.sub_NoneType_dict ?_);simp only[Bool.not_false,Xv];show yr (wpAny_rule (yw ⟨_,rfl,c⟩))
theorem none_own{K:yg}{x C:Addr}{ox:Obj}{od:Option Obj}{Q:Value->Shared->Prop}(j:A.units<cLine)(X:K.In s.heap)(I:PySem.W.InstAt s.heap x ox C od)(g:OEq K C)(i:PySem.W.mroIn K C (.type "NoneType")=some false)
  (h:Q (.bool false) s):wpAny (model prog w) A (richCompare .Eq .none (.ref x)) Q E s:=by
 have l:wpAny (model prog w) A (tryCompare .none "__eq__" (.ref x)) (fun r a=>r=none/\a=s) E s:=by
  unfold tryCompare;show yr ?_;simp only[callSpecialIfBound?,bindSpecialIfBound?];show Yv (yr (yr ?_));show yr (Y6 (rfl:typeOf .none=pure (.type "NoneType")) ?_);show Y6 YY.lookup ?_;show yr (kJ (wpAny_ite ?_))
  have d:wpAny (model prog w) A (call (.builtin "NoneType.__eq__") ([.none]++[.ref x])>>=fun v=>pure (some v)) (fun r a=>wpAny (model prog w) A (match r with | some .notImplemented | none=>pure none | some v=>pure (some v)) (fun r a=>r=none/\a=s) E a) E s:=
   yr (call_gives YY rfl PySem.F.entry_NoneType_eq (PySem.F.args_NoneType_eq_2 _ _) (SeqAt.NoneType___eq___none_ref_0 x) (yw (yw ⟨rfl,rfl⟩)))
  split
  .show yr (Y6 (YY.bind .none) (yw d))
  .show wpAny_tryCatch (yr (Y6 (YY.bind .none) (yw d)))
 have m:wpAny (model prog w) A (tryCompare (.ref x) "__eq__" .none) (fun r a=>r=none/\a=s) E s:=by
  unfold tryCompare;show yr ?_;simp only[callSpecialIfBound?,bindSpecialIfBound?];show Yv (yr (yr (yr (I.type.here ((xl X g.eq).here ?_)))));show yr (kJ (wpAny_ite ?_));have b:=PySem.F.slot_object_eq.bind (.ref x)
  have c:∀{f:Value->Shared->Prop},f .notImplemented s->wpAny (model prog w) A (call (.builtin "object.__eq__") [.ref x,.none]) f E s:=fun{f} q=>by
   show km (Xq PySem.F.slot_object_eq.plain PySem.F.entry_object_eq (@PySem.W.check_slot (model prog w) _ _ s "object.__eq__" "object" "__eq__" (.ref x) [.none] [] _ (by room) (by room) (I.type.andThen (xW X g.ob)) (PySem.F.args_object_eq_2 _ _) ?_));show yr (yw (yr (Y6 (rfl:isSame (.ref x) .none=pure false) ?_)));show yw q
  have d:wpAny (model prog w) A (call (.builtin "object.__eq__") ([.ref x]++[.none])>>=fun v=>pure (some v)) (fun r a=>wpAny (model prog w) A (match r with | some .notImplemented | none=>pure none | some v=>pure (some v)) (fun r a=>r=none/\a=s) E a) E s:=
   yr (c (yw (yw ⟨rfl,rfl⟩)))
  split
  .show yr (Y6 b (yw d))
  .show wpAny_tryCatch (yr (Y6 b (yw d)))
 unfold richCompare;show Yv (yr (wpAny_cRoomFor j ?_));show wpAny _ _ (typeOf .none>>=_) _ _ _;show yr (Y6 (rfl:typeOf .none=pure (.type "NoneType")) (yr (I.type.here ?_)));rw[yG (by rfl)];show yr ((xW X i).here ?_);simp only[YM,Xa];show yr (Y3 l (fun r a z=>?_) fun _ _ e=>e);obtain⟨rfl,rfl⟩:=z;simp only[Bool.not_false,Xv];show yr (Y3 m (fun r a z=>?_) fun _ _ e=>e);obtain⟨rfl,rfl⟩:=z;show yr (wpAny_rule (yr (Y6 (rfl:isSame .none (.ref x)=pure false) (yw h))))
end
def rNoneRef(K:yg):R2:=fun x y H Q=>∃ a,x=.non/\y=.ref a/\((∃ xs,SqL K H a xs\/SqT K H a xs)\/(∃ kvs,H a=some (.dK kvs))\/∃ C dx fs,H a=some (.ins C dx fs)/\OEq K C/\PySem.W.mroIn K C (.type "NoneType")=some false)/\Q (.bl false) H
def qgI(K:yg):R2:=fun x y H Q=>qhg K x y H Q\/rNoneRef K x y H Q
theorem j6{X:Cx}{K:yg}(e:X.K=K)(j:X.A.units+100<cLine):OpR X (compareOp .Eq) (qgI K):=by
 intro pins s σ H x y u v Q I f g h;rcases h with h | ⟨a,rfl,rfl,h,q⟩
 .show k_eqW e j pins s σ H x y u v Q I f g h
 .subst e;cases f;cases g;have b:EP X pins σ Q (.bool false) s:=⟨.bl false,H,I,rfl,q⟩;rcases h with⟨xs,hl | hl⟩ | ⟨kvs,c⟩ | ⟨C,dx,fs,c,l,i⟩
  .obtain⟨its,r,pl,_⟩:=I.list hl;show SeqAt.RcAt.none_list pl.isList (by lk) _ _ _ _ b
  .obtain⟨its,r,pl,_⟩:=I.tuple hl;show SeqAt.RcAt.none_tuple pl (by lk) _ _ _ _ b
  .obtain⟨_,_,vs,_,d⟩:=(show ObjOk X.prog X.w H s.heap a (.dK kvs) from I.hok a _ c);show none_dict d.typeIs (by lk) b
  .obtain⟨m,O,_⟩:=qbb I.hok c;obtain⟨od,J,_⟩:=O.look;show none_own (by lk) I.kIn J l i b
def XL(K:yg)(C:Addr)(d:List Value):Prop:=∃ l m N bs a sn sub c b e f g h i j,K.lookup C=some (excClassObj l m C N bs d a sn sub c b e f g h i j "ValueError.__new__")
section
variable{K:yg}{C D:Addr}{bm bn:List Value}
end
end L2
namespace HT
open PySem PySem.Spec PyProof.Rows
section
variable{prog:Program}{w:World}{A:Around}{E:Value->Shared->Prop}{s:Shared}
end
end HT
namespace L2
open PySem PySem.Spec PyProof.Rows
variable{H:Hp}{X:Cx}{es:List Expr}{pos:Pos}{σ:St}
def tRev(K:yg)(d:TE)(e:TO):TE:=fun σ H Q=>d σ H fun x c=>e σ c fun o b=>o=some (-1)/\∃ a y z,x=.ref a/\SqT K b a [y,z]/\∀ p,b p=none->Q (.ref p) (upd b p (.tup [z,y]))
theorem vRev{K:yg}{c:TE}{d:TO}{Q:VK}(h:c σ H fun x e=>d σ e fun o b=>o=some (-1)/\∃ a y z,x=.ref a/\SqT K b a [y,z]/\∀ p,b p=none->Q (.ref p) (upd b p (.tup [z,y]))):tRev K c d σ H Q:=h
section
variable{X:Cx}{K:yg}{e st:Expr}{te:TE}{ts:TO}{p2 pos:Pos}
end
theorem Inv.turnedL{a:List (Addr×Obj)}{s:Shared}{h':Heap}{t':Nat}{fp:LX}(I:Inv X a σ H s)(k:∀ b o,b∉fp->s.heap.get? b=some o->h'.get? b=some o)(f:∀ b∈fp,qc9 X a H b):Inv X a σ H { s with heap:=h',toks:=t' }:=by
 have d:∀ b u,H b=some u->b∉fp:=fun b u e z=>by rw[(f b z).1] at e;cases e
 have l:X.env.locals∉fp:=fun z=>(f _ z).2.1 rfl;show I.step (g':=s.gens) (d':=s.drawn) (ch:=fp) (fun b p=>?_) (fun b o _ _ hc e _=>k b o hc e) (fun b o _ _ hc e _=>⟨o.slots,k b o hc e⟩) (fun _ _ _ _ n=>n)
  (fun b o hc e=>⟨o,k b o hc e⟩) (fun _ _ e=>e) (fun _ _ _ e=>e) (fun b ps e=>⟨#[],by rw[e];simp⟩) (fun m t=>?_) (fun b u e=>?_) I.bare
 .obtain⟨x,g,y,h,i,j⟩:=f b p;show⟨h,g,i,j⟩
 .obtain⟨o,es,ep,w,r⟩:=t;show⟨o,es,ep,k _ o l w,r⟩
 .show(I.hok b u e).stay (fun c v hc q=>k c v ?_ q) (fun _ q=>q) fun _ _ q=>q;rcases hc with z | z
  .rw [z];show d b u e
  .show d c _ z
noncomputable def Ite(K:yg)(a:Addr):It:=
 ⟨fun i H=>∃ xs x,SqL K H a xs/\xs[i]?=some x,fun i H x H'=>∃ t y,x=.ref t/\H t=none/\H'=upd H t (.tup [.int i,y])/\∀ xs,SqL K H a xs->xs[i]?=some y,fun i H=>∃ xs,SqL K H a xs/\xs.length<=i⟩
theorem qcS{h:Heap}{o v:Obj}{b:Addr}(e:(h.push o).get? b=some v)(ne:b≠h.objs.size):h.get? b=some v:=(Heap.get?_push_cases e).elim (fun z=>absurd z.1 ne) fun z=>z
theorem turn_enum{P:Program}{w:World}{K:yg}{x1}(a e it:Addr)(q:e≠it):Turn P w K (.Tuple es x1 pos) (Ite K a) [e,it] e (fun i h=>(∃ old,IsEnum h e it i old)/\h.IsListIter it a i) where
 mem:=by simp
 obj:=fun i h st b g=>by
  obtain⟨⟨old,m⟩,o,C,c,d⟩:=st;simp only[yy,Yb,YL] at g;rcases g with rfl | rfl
  .show⟨_,m,fun v z=>by
    have S:Data.fields _=Data.cell v:=z;cases S⟩
  .show⟨o,C,fun v z=>by rw[d] at z;cases z⟩
 keep:=fun i h h' st k=>by
  obtain⟨⟨old,m⟩,j⟩:=st;show⟨⟨old,k e (by simp) _ m⟩,j.at fun o x=>k it (by simp) o x⟩
 item:=by
  intro X F hw D hc i l s σ H E I J st L;subst F hw D;obtain⟨⟨old,m⟩,j⟩:=st;obtain⟨xs,x,B,M⟩:=L;obtain⟨N,R,p,hz⟩:=I.list B;obtain⟨u,hu,ru⟩:=R.get M;show wpAny_pyNext_enum_item m j p.isList (x:=u) (by simpa using hu) q fun h' ho t hT hsz hk=>?_;show⟨_,rfl,wpAny_letOwnedTupleGo_enum ho fun T G n=>?_⟩;have fre:H s.heap.objs.size=none:=I.hok.fresh (yh _);have A:s.heap.objs.size≠e:=Yn (yQ m);have O:s.heap.objs.size≠it:=by obtain⟨o,C,_⟩:=j;show Yn (yQ C)
  have U:Inv X l σ (upd H s.heap.objs.size (.tup [.int i,x])) { s with heap:=s.heap.push { cls:=.type "tuple",data:=.seq #[.int i s.toks,u] },toks:=s.toks+1 }:=
   I.laid (fun b u e=>yv _ e) (yh _) ⟨by show 2<=sizeLine;decide,[.int i s.toks,u],.cons ⟨_,rfl⟩ (.cons ru .nil),⟨_,yZ _ rfl,rfl,_,rfl⟩⟩
  have r:∀ b∈[e,it],qc9 X l (upd H s.heap.objs.size (.tup [.int i,x])) b:=fun b g=>by
   obtain⟨Z,f⟩:=J b g;show⟨?_,f⟩;rw[qf]
   .show Z
   .simp only[yy,Yb,YL] at g;rcases g with rfl | rfl
    .show A.symm
    .show O.symm
  have kk:∀ b o,b∉[e,it]->(s.heap.push { cls:=.type "tuple",data:=.seq #[.int i s.toks,u] }).get? b=some o->T.get? b=some o:=fun b o g z=>by
   simp only[yy,Yb,YL,not_or] at g;by_cases hz:b=s.heap.objs.size
   .subst hz;rw[yZ _ rfl] at z;cases z;show(n.2 _ A).trans hT
   .show(n.2 b g.1).trans (hk b o g.1 g.2 (qcS z hz))
  have W:=U.turnedL (h':=T) (t':=s.toks+1) (fp:=[e,it]) kk r;show⟨.ref s.heap.objs.size,_,W,rfl,⟨_,x,rfl,fre,rfl,fun ys hy=>by rw[I.list_inj hy B];show M⟩,⟨⟨_,by simpa using G⟩,t.at fun o y=>(n.2 it q.symm).trans y⟩,fun b g=>(r b g).1⟩
 done:=by
  intro X F hw D hc i l s σ H E I J st L;subst F hw D;obtain⟨⟨old,m⟩,j⟩:=st;obtain⟨xs,B,M⟩:=L;obtain⟨N,R,p,hz⟩:=I.list B;have hl:=R.length;show wpAny_pyNext_enum_end (I.ok.hd hc) m j p.isList (xv (by simp;lk)) fun h' Y=>⟨rfl,I.turnedL (t':=s.toks) (fp:=[e,it]) (fun b o g z=>Y b o (fun S=>g (by simp[S])) z) J⟩
 self:=fun _ _ _ _ _ st h=>by
  obtain⟨⟨old,m⟩,_⟩:=st;show wpAny_pyIter_enum m h
theorem boot_enumerate:bootBuiltins "enumerate"=some (.type "enumerate"):=by room
def qgq(K:yg)(c:TA):TI:=fun σ H R=>c σ H fun vs b=>∃ a xs,vs=[.ref a]/\SqL K b a xs/\R (Ite K a) b
theorem pi_enum{K:yg}{a:Expr}{j:TA}{x1}{B p:Pos}(m:X.K=K)(o:Gl X "enumerate")(v:X.mg "enumerate"=none)(n:PA X [a] j)(x:starEach [a] X.env=[(false,eval a X.env)]:=by rfl):PI X (.Tuple es x1 B) (.Call (.Name "enumerate" p) [a] [] pos) (qgq K j):=by
 subst m;intro d s σ H R I h;show Call_ (qaN I o v boot_enumerate (YE (thn (n pos d s σ H _ I h) fun us f ⟨vs,l,c,A,z⟩=>?_) x rfl));obtain⟨a,xs,e,w,q⟩:=z;subst e
 cases A with
 | cons r rr =>
  cases rr;cases r;obtain⟨y,C,pl,hz⟩:=c.list w;show call_enumerate_list pl.isList fun h' i t hsz u=>wpAny_pyIter_enum i ?_;show⟨_,[f.heap.objs.size+1,f.heap.objs.size],_,_,l,rfl,c.kept (t':=f.toks) u,turn_enum a _ _ (Nat.succ_ne_self _),⟨⟨_,i⟩,t⟩,fun b g=>?_,q⟩;simp only[yy,Yb,YL] at g;rcases g with rfl | rfl
  .show c.fpOk (xL _) (c.hok.fresh (xL _))
  .show c.fpOk (yh _) (c.hok.fresh (yh _))
theorem for_enum{K:yg}{a:Addr}{xs:List V}{g:TG}{l:TS}{D:Ends}(b:Nat->St->Hp->Prop)(n:b 0 σ H)(hl:∀ i σ H,i<=xs.length->b i σ H->SqL K H a xs)
  (s:∀ i x t σ H,xs[i]?=some x->H t=none->b i σ H->g (.ref t) σ (upd H t (.tup [.int i,x])) fun d h=>l { D with nx:=b (i+1),ct:=b (i+1),bk:=D.nx } d h) (o:∀ σ H,b xs.length σ H->D.nx σ H) :
  ∃ W:Nat->Nat->St->Hp->Prop,(∃ m,W 0 m σ H)/\∀ i m σ H,W i m σ H ->
   ((Ite K a).stop i H/\D.nx σ H)\/((Ite K a).go i H/\∃ N:St->Hp->Prop,(∀ c H',N c H'->∃ j,j<m/\W (i+1) j c H')/\∀ x H',(Ite K a).yld i H x H'->g x σ H' fun d h=>l { D with nx:=N,ct:=N,bk:=D.nx } d h):=by
 show⟨fun i m σ H=>m=xs.length-i/\i<=xs.length/\b i σ H,⟨xs.length,by simp,YS _,n⟩,?_⟩;rintro i m σ H ⟨rfl,r,p⟩;have q:=hl i σ H r p;by_cases f:i<xs.length
 .show .inr ⟨⟨xs,xs[i],q,by simp[f]⟩,b (i+1),fun c H' w=>⟨xs.length-(i+1),by lk,rfl,f,w⟩,fun x H' y=>?_⟩;obtain⟨t,v,rfl,u,rfl,y⟩:=y;show s i v t σ _ (y xs q) u p
 .have e:i=xs.length:=by lk
  subst e;show .inl ⟨⟨xs,q,yh _⟩,o σ H p⟩
theorem vEnum{K:yg}{b:TA}{R:It->Hp->Prop}(h:b σ H fun vs c=>∃ a xs,vs=[.ref a]/\SqL K c a xs/\R (Ite K a) c):qgq K b σ H R:=h
section
variable{X:Cx}
end
end L2
namespace L2
open PySem PySem.Spec PyProof.Rows PySem.Builtin PySem.Builtin.Str
theorem qgr{a c:Nat}(h:a+100<c):a+1<c:=by lk
theorem vDGet2{e ty f:TE}{b:St}{H:Hp}{Q:VK}(h:e b H fun x c=>∃ a,x=.ref a/\IsD c a/\ty b c fun y g=>f b g fun z d=>∃ o,DGet d a y o/\Q (o.getD z) d):tDGet2 e ty f b H Q:=h
end L2
namespace L2
open PySem PySem.Spec PyProof.Rows
theorem eqV_strD(a b:Str):eqV (.str a) (.str b)=decide (a=b):=by
 have e:eqV (.str a) (.str b)=(a==b):=by simp[eqV]
 rw[e,Yr,Yw,yI]
theorem qcT:∀(ys:LS) (y:Str) (m:Nat) (b:m<ys.length),m<ys.idxOf y->ys[m]≠y
 | [],_,_,b,_=>by simp at b
 | a::r,y,m,b,h=>by
  rw[List.idxOf_cons] at h;by_cases e:a=y
  .subst e;simp at h
  .have c:(a==y)=false:=YV.mpr e;rw[c] at h
   cases m with
   | zero=>show e
   | succ k =>
    have d:k<r.idxOf y:=by
     have h:k+1<r.idxOf y+1:=h;lk
    show qcT r y k (by simpa using b) d
section
variable{X:Cx}{K:yg}
def rIndex(K:yg):V->List V->Hp->VK->Prop:=fun x vs H Q=>∃(p:Addr) (ys:LS) (y:Str),x=.ref p/\vs=[.str y]/\SqL K H p (ys.map V.str)/\y∈ys/\Q (.int (ys.idxOf y:Nat)) H
theorem qag(A:X.K=K):MtR X "list.index" (rIndex K):=by
 subst A;intro t s N H x vs v us Q I J G h;obtain⟨p,ys,y,rfl,rfl,B,D,q⟩:=h;cases J;obtain⟨u,rfl,E⟩:=G.one;obtain⟨a,r,pl,hz⟩:=I.list B;obtain⟨⟨cls,z,data,L⟩,o,hc,n,l⟩:=id pl.isList;simp only at hc l;subst hc l;have fs:(ys.map V.str).all qaD=true:=by rw[kS];show YI.mpr fun _ _=>rfl
 have b:(ys.map V.str).length=a.length:=r.length;rw[ya] at b;have d:ys.idxOf y<ys.length:=List.idxOf_lt_length_iff.mpr D
 have at_:∀(m:Nat) (i:m<ys.length) (c:m<a.toArray.size),eqU (.str y) a.toArray[m]=decide (ys[m]=y):=fun m i c=>by
  have g:(ys.map V.str)[m]?=some (.str ys[m]):=by rw[yd,yb i];rfl
  obtain⟨w,hw,j⟩:=r.get g
  have e:a.toArray[m]=w:=by
   have:a.toArray[m]?=some w:=by simpa using hw
   rw[xC c] at this;show ym this
  rw[e,qex j rfl,eqV_strD]
 have M:ys.length<=sizeLine:=by rw[ya] at hz;show hz
 have C:sizeLine<2 ^ 63-1:=by decide
 show XE Yz ⟨_,o,rfl⟩ PySem.F.entry_list_index (PySem.F.args_list_index_2 _ _)
  (SeqAt.list_indexAt p a.toArray n z L u (eqU (.str y)) (ys.idxOf y) (by simpa [<- b] using d) (by lk) ?_ ?_) ⟨o,fun w hw=>qap E rfl r fs w (by simpa using hw),.int _,H,I.tok _,⟨_,rfl⟩,q⟩
 .rw [at_ _ d];show yB (Yt d)
 .intro m i f;rw[at_ m (by lk)];show yl fun e=>qcT ys y m (by lk) f e
end
theorem qbO(xs:List V)(k:Nat):qde xs none (some (k:Int))=xs.take k:=by
 unfold qde;rw[HT.sIx_none,HT.sIx_nat,List.drop_zero,Kb];by_cases h:k<=xs.length
 .rw [kY h]
 .rw [kK (by lk),YU (yh _),YU (by lk)]
theorem qcU(xs:List V)(k:Nat):qde xs (some (k:Int)) none=xs.drop k:=by
 unfold qde;rw[HT.sIx_none,HT.sIx_nat];by_cases h:k<=xs.length
 .rw [kY h,YU (by rw[kH];lk)]
 .rw [kK (by lk),List.drop_length,List.drop_of_length_le (by lk)];simp
section
variable{X:Cx}{K:yg}
theorem qdL:∀{ns:LY} {us:List Value},Vals (ns.map V.int) us->IntsAre us ns
 | [],_,.nil=>.nil
 | n::ns,_,.cons r t=>by
  obtain⟨tk,rfl⟩:=r;show .cons n tk (qdL t)
def rSum(K:yg):List V->Hp->VK->Prop:=fun xs H Q=>∃(p:Addr) (ns:LY),xs=[.ref p]/\SqL K H p (ns.map V.int)/\Q (.int ns.sum) H
theorem k_sum(i:X.K=K)(hc:X.calm=true):qab X (.builtin "sum") (rSum K):=by
 subst i;intro e s o H xs us Q I r h;obtain⟨p,ns,rfl,l,q⟩:=h;obtain⟨u,rfl,m⟩:=qbY r;cases m;obtain⟨b,n,pl,hz⟩:=I.list l;have c:=qdL n;obtain⟨xs,d⟩:=c.allInts.items;have a:s.heap.IsList p (intItems xs):=d ▸ pl.isList;show sum_intListG (I.ok.hd hc) a fun h' tk t' j=>?_
 have f:ns=xs.toList.map (·.1):=by
  rw[<- nums_intItems,<- d];show(show numsOf b.toArray.toList=ns from c.numsOf).symm
 have g:preSum (numAt xs) xs.size=ns.sum:=by
  rw[preSum_eq,YU (by simp),f]
 rw[g];show⟨.int _,H,I.kept j,⟨_,rfl⟩,q⟩
theorem boot_sum:bootBuiltins "sum"=some (.builtin "sum"):=by room
end
end L2
namespace HT
open PySem PySem.Spec PyProof.Rows
section
variable{prog:Program}{w:World}{A:Around}{E:Value->Shared->Prop}{s:Shared}
end
end HT
namespace L2
open PySem PySem.Spec PyProof.Rows
def tStep(K:yg)(e:TE)(f:TO):TE:=fun c H Q=>e c H fun x d=>f c d fun o b=>∃ a y z,x=.ref a/\SqT K b a [y,z]/\((o=some (-1)/\∀ p,b p=none->Q (.ref p) (upd b p (.tup [z,y])))\/(o=some 1/\Q (.ref a) b))
theorem vStep{K:yg}{d:TE}{e:TO}{c:St}{H:Hp}{Q:VK}(h:d c H fun x f=>e c f fun o b=>∃ a y z,x=.ref a/\SqT K b a [y,z]/\((o=some (-1)/\∀ p,b p=none->Q (.ref p) (upd b p (.tup [z,y])))\/(o=some 1/\Q (.ref a) b))):tStep K d e c H Q:=h
section
variable{X:Cx}{K:yg}{e st:Expr}{te:TE}{ts:TO}{p2 pos:Pos}
end
def FG(K:yg)(a:Str)(st:Stmt):Prop:=∃ f b,PySem.W.nsIn K mainGlobals a=some (some (.ref f))/\Fun K a a st f b
def FM(K:yg)(C:Addr)(m b:Str)(st:Stmt):Prop:=∃ f a,PySem.W.findIn K (.ref C) m=some (some (.ref f))/\PySem.W.isFn K (.ref f)=true/\Fun K m b st f a
structure XQ(K:yg)(C:Addr):Prop where
 xa:PySem.W.findIn K (.ref C) "__getattribute__"=some (some (.builtin "BaseException.__getattribute__"))
 xb:PySem.W.findIn K (.ref C) "__getattr__"=some none
 xd:PySem.W.mroIn K C (.type "BaseException")=some true
 xe:PySem.W.mroIn K C (.type "object")=some true
 xf:PySem.W.hasDictIn K C=true
 xg:PySem.W.findIn K (.ref C) "__class__"=some (some (.builtin "object.__class__"))
 xh:PySem.W.findIn K (.ref C) "__setattr__"=some (some (.builtin "object.__setattr__"))
 p:PySem.W.keepIn K (.ref C)=true
section
variable{P:Program}{w:World}{K:yg}{mg:Str->Option Value}{base h:Heap}{CX:CXT}{k:Nat}{sp:Sp}{st:Stmt}{f:Addr}{fd:FuncData}{ps:LS}{nm m ql x:Str}{C:Addr}
theorem lN0{P:List Value->Prop}(h:P []):∀ us:List Value,us.length=0->P us:=fun us e=>by rw[List.eq_nil_of_length_eq_zero e];show h
theorem lNs{P:List Value->Prop}{n:Nat}(h:∀ a r,r.length=n->P (a::r)):∀ us:List Value,us.length=n+1->P us:=fun us e=>by
 cases us with
 |nil=>cases e
 |cons a r=>show h a r (Nat.succ.inj e)
theorem lN1{P:List Value->Prop}(h:∀ a,P [a]):∀ us:List Value,us.length=1->P us:=lNs fun a=>lN0 (h a)
theorem lN2{P:List Value->Prop}(h:∀ a b,P [a,b]):∀ us:List Value,us.length=2->P us:=lNs fun a=>lN1 (h a)
theorem lN3{P:List Value->Prop}(h:∀ a b c,P [a,b,c]):∀ us:List Value,us.length=3->P us:=lNs fun a=>lN2 (h a)
theorem lN4{P:List Value->Prop}(h:∀ a b c d,P [a,b,c,d]):∀ us:List Value,us.length=4->P us:=lNs fun a=>lN3 (h a)
abbrev BA(x ql:Str)(st:Stmt)(ps:LS):Prop:=∀(kV b d:Value) (c:Option Addr) (a ct:Value) (us:List Value),us.length=ps.length->bindArgs (PySem.W.fnOf x ql (qaH st) (qaf st) (qh st) .none kV b d c a ct) ⟨us,[]⟩=pure (ps.zip us)
theorem fg_mk(X:K.In h)(G:h.Ns mainGlobals mg)(a:PySem.W.nsIn K mainGlobals nm=some (some (.ref f)))(F:Fun K nm nm st f fd)(o:FnOk P w K mg base CX k f fd ps sp)
  (b:BA nm nm st ps:=by first | (show fun _ _ _ _ _ _=>lN1 fun _=>rfl) | (show fun _ _ _ _ _ _=>lN2 fun _ _=>rfl) | (show fun _ _ _ _ _ _=>lN3 fun _ _ _=>rfl) | (show fun _ _ _ _ _ _=>lN4 fun _ _ _ _=>rfl)) :
  DefOk P w K mg base CX k nm ps sp:=⟨_,_,o,PySem.W.mg_of X G a,F.kp,F.binds b⟩
theorem fm_mk(b:Cls K C)(a:PySem.W.findIn K (.ref C) m=some (some (.ref f)))(n:PySem.W.isFn K (.ref f)=true)(F:Fun K m ql st f fd)(o:FnOk P w K mg base CX k f fd ps sp)
  (c:BA m ql st ps:=by first | (show fun _ _ _ _ _ _=>lN1 fun _=>rfl) | (show fun _ _ _ _ _ _=>lN2 fun _ _=>rfl) | (show fun _ _ _ _ _ _=>lN3 fun _ _ _=>rfl) | (show fun _ _ _ _ _ _=>lN4 fun _ _ _ _=>rfl)) :
  MethOk P w K mg base CX k C m ps sp:=⟨⟨_,_,o,⟨a,n,F.kp⟩,F.binds c⟩,b⟩
theorem fw_mk(X:K.In h)(G:h.Ns mainGlobals mg)(c:PySem.W.nsIn K mainGlobals x=some (some (.ref C)))(d:PySem.W.makesIn K C=true)(e:PySem.W.keepIn K (.ref C)=true)(a:PySem.W.findIn K (.ref C) "__init__"=some (some (.ref f)))(n:PySem.W.isFn K (.ref f)=true)(F:Fun K "__init__" ql st f fd)(o:FnOk P w K mg base CX k f fd ps sp)
  (b:BA "__init__" ql st ps:=by first | (show fun _ _ _ _ _ _=>lN1 fun _=>rfl) | (show fun _ _ _ _ _ _=>lN2 fun _ _=>rfl) | (show fun _ _ _ _ _ _=>lN3 fun _ _ _=>rfl)) :
  MakeOk P w K mg base CX k C x ps sp:=⟨⟨_,_,o,⟨d,a,n,e⟩,F.binds b⟩,PySem.W.mg_of X G c⟩
end
end L2
namespace HT
open PySem PySem.Spec PyProof.Rows
section
variable{prog:Program}{w:World}{A:Around}{E:Value->Shared->Prop}{s:Shared}
end
end HT
namespace L2
open PySem PySem.Spec PyProof.Rows
variable{H:Hp}{R:It->Hp->Prop}{es:List Expr}{pos:Pos}{te:TE}{σ:St}
section
variable{X:Cx}{K:yg}{pos p:Pos}{x:Str}
end
section
variable{X:Cx}{K:yg}{e lo st:Expr}{te:TE}{tl ts:TO}{p2 pos:Pos}
def qhh(K:yg)(te:TE):TI:=fun σ H R=>te σ H fun v b=>∃ a xs,v=.ref a/\SqL K b a xs/\R (Itl K a) b
theorem qfl{K:yg}(h:te σ H fun v b=>∃ a xs,v=.ref a/\SqL K b a xs/\R (Itl K a) b):qhh K te σ H R:=h
theorem qdM{u:Expr}(j:X.K=K)(m:PE X e te):PI X u e (qhh K te):=by
 subst j;intro c s σ H R I h;show thn (m c s σ H _ I h) fun v d ⟨y,g,f,t,a,xs,i,n,q⟩=>?_;subst i;cases t
 have fp:∀ b∈[d.heap.objs.size],qc9 X c g b:=fun b l=>by
  have e:b=d.heap.objs.size:=by simpa using l
  subst e;show f.fpOk (yh _) (f.hok.fresh (yh _))
 obtain⟨r,w,p,hz⟩:=f.list n;show XS p.isList ⟨d.heap.objs.size,[d.heap.objs.size],_,_,g,rfl,f.kept (t':=d.toks) fun b o e=>yv _ e,qcy a _,⟨_,yZ _ rfl,rfl,rfl⟩,fp,q⟩
end
noncomputable def Itz(K:yg)(a b:Addr):It:=
 ⟨fun i H=>∃ xs ys x y,SqL K H a xs/\SqL K H b ys/\xs[i]?=some x/\ys[i]?=some y,fun i H v H'=>∃ t x y,v=.ref t/\H t=none/\H'=upd H t (.tup [x,y])/\(∀ xs,SqL K H a xs->xs[i]?=some x)/\∀ ys,SqL K H b ys->ys[i]?=some y,fun i H=>∃ xs ys,SqL K H a xs/\SqL K H b ys/\(xs.length<=i\/ys.length<=i)⟩
def tnZ(z TI TO c d a b:Addr)(i:Nat)(h:Heap):Prop:=IsZip h z TI TO .none/\IsPair h TI (.ref c) (.ref d)/\(∃ u v,IsPair h TO u v)/\h.IsListIter c a i/\h.IsListIter d b i
theorem turn_zip{P:Program}{w:World}{K:yg}{x1}(a b z TI TO n q:Addr)(D:ZipApart z TI TO n q a b):Turn P w K (.Tuple es x1 pos) (Itz K a b) [z,TI,TO,n,q] z (tnZ z TI TO n q a b) where
 mem:=by simp
 obj:=fun i h st c hc=>by
  obtain⟨hz,d,⟨u,v,g⟩,⟨o1,e1,c1,d1⟩,⟨o2,e2,c2,d2⟩⟩:=st;simp only[yy,Yb,YL] at hc;rcases hc with rfl | rfl | rfl | rfl | rfl
  .show⟨_,hz,fun v z=>by have F:Data.fields _=Data.cell v:=z;cases F⟩
  .show⟨_,d,fun v z=>by have F:Data.seq _ _=Data.cell v:=z;cases F⟩
  .show⟨_,g,fun v z=>by have F:Data.seq _ _=Data.cell v:=z;cases F⟩
  .show⟨o1,e1,fun v z=>by rw[d1] at z;cases z⟩
  .show⟨o2,e2,fun v z=>by rw[d2] at z;cases z⟩
 keep:=fun i h h' st k=>by
  obtain⟨hz,d,⟨u,v,g⟩,h1,t⟩:=st;show⟨k z (by simp) _ hz,k TI (by simp) _ d,⟨u,v,k TO (by simp) _ g⟩,h1.at fun o x=>k n (by simp) o x,t.at fun o x=>k q (by simp) o x⟩
 item:=by
  intro X S hw R hc i l s σ H E I T st U;subst S hw R;obtain⟨hz,d,⟨u,v,g⟩,h1,t⟩:=st;obtain⟨xs,ys,x,y,J,m,hx,hy⟩:=U;obtain⟨ad,rv,p,_⟩:=I.list J;obtain⟨C,r,p2,_⟩:=I.list m;obtain⟨L,W,ag⟩:=rv.get hx;obtain⟨M,Y,ah⟩:=r.get hy;show wpAny_pyNext_zip_item D hz d g h1 t p.isList p2.isList (x:=L) (y:=M) (by simpa using W) (by simpa using Y) fun h' ab A N O hT hsz G=>?_;show⟨_,rfl,wpAny_letOwnedTupleGo_zip ab fun h3 ac j=>?_⟩;have fre:H s.heap.objs.size=none:=I.hok.fresh (yh _);have lt:∀{c o},s.heap.get? c=some o->s.heap.objs.size≠c:=fun e=>Yn (yQ e);have nz:=lt hz;have ae:=lt d;have af:=lt g;have n1:s.heap.objs.size≠n:=by obtain⟨_,e,_⟩:=h1;show lt e
  have n2:s.heap.objs.size≠q:=by obtain⟨_,e,_⟩:=t;show lt e
  have I1:Inv X l σ (upd H s.heap.objs.size (.tup [x,y])) { s with heap:=s.heap.push { cls:=.type "tuple",data:=.seq #[L,M] },toks:=s.toks }:=
   I.laid (fun b u e=>yv _ e) (yh _) ⟨by show 2<=sizeLine;decide,[L,M],.cons ag (.cons ah .nil),⟨_,yZ _ rfl,rfl,_,rfl⟩⟩
  have B:∀ c∈[z,TI,TO,n,q],qc9 X l (upd H s.heap.objs.size (.tup [x,y])) c:=fun c hc=>by
   obtain⟨f0,f⟩:=T c hc;show⟨?_,f⟩;rw[qf]
   .show f0
   .simp only[yy,Yb,YL] at hc;rcases hc with rfl | rfl | rfl | rfl | rfl
    .show nz.symm
    .show ae.symm
    .show af.symm
    .show n1.symm
    .show n2.symm
  have kk:∀ c o,c∉[z,TI,TO,n,q]->(s.heap.push { cls:=.type "tuple",data:=.seq #[L,M] }).get? c=some o->h3.get? c=some o:=fun c o hc e=>by
   simp only[yy,Yb,YL,not_or] at hc;show j.extBut _ _ hc.1 ?_;by_cases hz:c=s.heap.objs.size
   .subst hz;rw[yZ _ rfl] at e;cases e;show hT
   .show G c o hc.1 hc.2.2.1 hc.2.2.2.1 hc.2.2.2.2 (qcS e hz)
  have I2:=I1.turnedL (h':=h3) (t':=s.toks) (fp:=[z,TI,TO,n,q]) kk B;show⟨.ref s.heap.objs.size,_,I2,rfl,⟨_,x,y,rfl,fre,rfl,fun ai Z=>by rw[I.list_inj Z J];show hx,fun ys' aa=>by rw[I.list_inj aa m];show hy⟩,⟨ac,?_,⟨_,_,j.extBut _ _ D.TOz A⟩,N.extBut j.extBut D.i1z,O.extBut j.extBut D.i2z⟩,fun c hc=>(B c hc).1⟩;show j.extBut _ _ D.TIz (G _ _ D.TIz D.TITO D.TIi1 D.TIi2 d)
 done:=by
  intro X S hw R hc i l s σ H E I T st U;subst S hw R;obtain⟨hz,d,⟨u,v,g⟩,h1,t⟩:=st;obtain⟨xs,ys,J,m,he⟩:=U;obtain⟨ad,rv,p,_⟩:=I.list J;obtain⟨C,r,p2,_⟩:=I.list m;have l1:=rv.length;have l2:=r.length;show wpAny_pyNext_zip_end (I.ok.hd hc) D hz d g h1 t p.isList p2.isList (he.imp (fun e=>xv (by simp;lk)) fun e=>xv (by simp;lk)) fun h' G=>⟨rfl,I.turnedL (t':=s.toks) (fp:=[z,TI,TO,n,q]) (fun c o hc e=>?_) T⟩;simp only[yy,Yb,YL,not_or] at hc;show G c o hc.1 hc.2.2.1 hc.2.2.2.1 hc.2.2.2.2 e
 self:=fun _ _ _ _ _ st h=>kL st.1 h
theorem qdN:bootBuiltins "zip"=some (.type "zip"):=by room
def qhi(K:yg)(d:TA):TI:=fun σ H R=>d σ H fun vs c=>∃ a b xs ys,vs=[.ref a,.ref b]/\SqL K c a xs/\SqL K c b ys/\R (Itz K a b) c
theorem vZip{K:yg}{c:TA}(h:c σ H fun vs d=>∃ a b xs ys,vs=[.ref a,.ref b]/\SqL K d a xs/\SqL K d b ys/\R (Itz K a b) d):qhi K c σ H R:=h
theorem pi_zip{X:Cx}{K:yg}{a b:Expr}{x:TA}{x1}{N p:Pos}(z:X.K=K)(B:Gl X "zip")(D:X.mg "zip"=none)(A:PA X [a,b] x)(F:starEach [a,b] X.env=[(false,eval a X.env),(false,eval b X.env)]:=by rfl)(g:starEach [b] X.env=[(false,eval b X.env)]:=by rfl):PI X (.Tuple es x1 N) (.Call (.Name "zip" p) [a,b] [] pos) (qhi K x):=by
 subst z;intro i s σ H R I h;show Call_ (qaN I B D qdN (YE (thn (A pos i s σ H _ I h) fun us f ⟨vs,y,d,L,J⟩=>?_) (by rw[F,g]) (by rw[g];rfl)));obtain⟨a,b,xs,ys,e,E,t,q⟩:=J;subst e
 cases L with
 | cons r rr =>
  cases rr with
  | cons r2 rr =>
   cases rr;cases r;cases r2;obtain⟨G,O,pl,_⟩:=d.list E;obtain⟨w,M,j,_⟩:=d.list t;have u:a<f.heap.objs.size:=by obtain⟨_,e,_⟩:=pl.isList;show yQ e
   have v:b<f.heap.objs.size:=by obtain⟨_,e,_⟩:=j.isList;show yQ e
   show call_zip_2 pl.isList j.isList fun h' hz l m n o hsz C=>kL hz ?_;show⟨_,[f.heap.objs.size+4,f.heap.objs.size+2,f.heap.objs.size+3,f.heap.objs.size,f.heap.objs.size+1],_,_,y,rfl,d.kept (t':=f.toks) C,turn_zip a b _ _ _ _ _ (PySem.W.ktu_apart _ _ _ u v),⟨hz,l,⟨_,_,m⟩,n,o⟩,fun c hc=>?_,q⟩;simp only[yy,Yb,YL] at hc;rcases hc with rfl | rfl | rfl | rfl | rfl
   .show d.fpOk (Xd _ _) (d.hok.fresh (Xd _ _))
   .show d.fpOk (Xd _ _) (d.hok.fresh (Xd _ _))
   .show d.fpOk (Xd _ _) (d.hok.fresh (Xd _ _))
   .show d.fpOk (yh _) (d.hok.fresh (yh _))
   .show d.fpOk (xL _) (d.hok.fresh (xL _))
def qhj(K:yg)(te:TE)(d:TO):TE:=fun σ H Q=>te σ H fun x c=>d σ c fun o b=>o=some (-1)/\∃ a xs,x=.ref a/\SqL K b a xs/\∀ p,b p=none->Q (.ref p) (upd b p (.lst xs.reverse))
theorem qhk{K:yg}{c:TO}{Q:VK}(h:te σ H fun x d=>c σ d fun o b=>o=some (-1)/\∃ a xs,x=.ref a/\SqL K b a xs/\∀ p,b p=none->Q (.ref p) (upd b p (.lst xs.reverse))):qhj K te c σ H Q:=h
theorem qdO:∀{xs:List V} {us:List Value},Vals xs us->Vals xs.reverse us.reverse
 | _,_,.nil=>.nil
 | _,_,.cons r t=>by
  rw[List.reverse_cons,List.reverse_cons];show(qdO t).append (.cons r .nil)
section
variable{X:Cx}{K:yg}{e st:Expr}{te:TE}{ts:TO}{p2 pos:Pos}
theorem qfB(u:X.K=K)(y:PE X e te)(z:PO X (some st) ts):PE X (.Subscript e (.Slice none none (some st) p2) pos) (qhj K te ts):=by
 subst u;intro c s σ H Q I h;show Subscript_ (thn (y c s σ H _ I h) fun v G ⟨x,l,n,F,E⟩=>?_);show wpAny_Slice ?_;rw[evalPart_none];show yw ?_;show yw ?_;show thn (z c G σ l _ n E) fun j d ⟨o,m,p,pt,t,a,xs,ex,B,q⟩=>?_;subst t ex;cases F;have f:Inv X c σ m { d with heap:=d.heap.push { cls:=.type "slice",data:=.fields #[.none,.none,j] } }:=p.kept (t':=d.toks) fun b D q=>yv _ q;obtain⟨C,r,i,hz⟩:=f.list B;have g:=r.length;show wpAny (model X.prog X.w) X.A (subscriptTail e (.Slice none none (some st) p2) (.ref a) (.ref d.heap.objs.size)) (EP X c σ Q) X.xe { d with heap:=d.heap.push { cls:=.type "slice",data:=.fields #[.none,.none,j] } };show tail_any (ops:=[.ref a,.ref d.heap.objs.size]) i.isList.typeIs ky.lookup (wpAny_getItem_list_slice i.isList (Heap.IsSliceOf.new ..) .none .none pt (by decide) ?_ (by rw[yx]<;>lk)) (by with_unfolding_all rfl);rw[PySem.W.krv_pick];show⟨.ref _,_,f.laid (t':=d.toks) (o:=.lst xs.reverse) (fun b D q=>yv _ q) (yh _) ?_,rfl,q _ (f.hok.fresh (yh _))⟩;show⟨by rw[YG];show hz,_,0,qdO r,yZ _ rfl⟩
end
section
variable{X:Cx}{a:Expr}{ta:TA}{p p2 pos pos2:Pos}
end
end L2
namespace L2
structure Sb(V:Nat->Prop):Prop where
 z:V 0
 a:∀ x y,V x->V y->V (x ^^^ y)
def jn(V:Nat->Prop)(x:Nat):Nat->Prop:=fun y=>V y\/V (y ^^^ x)
def Spn:LN->Nat->Prop
 | []=>fun y=>y=0
 | a::L=>jn (Spn L) a
open Classical in
def Bnd(b n v:Nat):Prop:=∀ i,v.testBit i=true->b<=i/\i<b+n
open Classical in
noncomputable def swp:Nat->Nat->LN->Nat
 | 0,_,_=>0
 | n+1,b,L=>match L.filter (fun v=>v.testBit b) with
  | []=>swp n (b+1) L
  | p::t=>1+swp n (b+1) (L.filter (fun v=>!v.testBit b)++t.map fun v=>v ^^^ p)
open Classical in
noncomputable def rk(L:LN):Nat:=swp 30 0 L
open Classical in
noncomputable def les:Nat×Nat->List (Nat×Nat)->Nat×Nat
 | s,[]=>s
 | s,o::os=>if s.1 ^^^ o.1<s.1 then les (s.1 ^^^ o.1,s.2 ^^^ o.2) os else les s os
structure Ech(os:List (Nat×Nat)):Prop where
 nz:∀ o∈os,o.1≠0
 pw:os.Pairwise fun a b=>b.1.testBit a.1.log2=false
noncomputable def csm:LN->Nat->Nat->Nat
 | [],_,_=>0
 | a::L,k,c=>(if c.testBit k then a else 0) ^^^ csm L (k+1) c
noncomputable def stp(st:List (Nat×Nat))(n v:Nat):List (Nat×Nat):=if (les (v,1 <<< n) st).1=0 then st else st++[les (v,1 <<< n) st]
structure Stp(L:LN)(n:Nat)(st:List (Nat×Nat)):Prop where
 ech:Ech st
 sum:∀ o∈st,csm L 0 o.2=o.1
 low:∀ o∈st,o.2<2 ^ n
 lt:∀ o∈st,o.1<2 ^ 30
 spn:∀ v,Spn (st.map (·.1)) v↔Spn (L.take n) v
 free:st.map (fun o=>o.2.log2)=(List.range n).filter fun i=>decide (rk (L.take i)<rk (L.take (i+1)))
 len:st.length<=n
end L2
namespace L2
open PySem PySem.Spec PyProof.Rows
variable{i j:Nat}
section
variable{X:Cx}
end
def Fl:V->Prop
 | .non=>True
 | .bl _=>True
 | .int i=>-999999999999<=i/\i<=999999999999
 | _=>False
noncomputable def fD:V->PyData
 | .non=>.none
 | .bl b=>.bool b
 | .int i=>.int i
 | .str x=>.str x
 | _=>.none
def FlS(xs:List V):Prop:=xs.length<=1000/\∀ x∈xs,Fl x
def ShwT(H:Hp)(v:V)(t:Str):Prop:=match v with
 | .non=>t="None"
 | .bl b=>t=if b then Str.ofString "True" else Str.ofString "False"
 | .int i=>i.natAbs.log2<1920/\t=toString i
 | .str x=>(reprText x).length<=sizeLine/\t=reprText x
 | .ref p=>(∃ xs,H p=some (.lst xs)/\FlS xs/\t=(PyData.list (xs.map fD)).shown)\/∃ xs,H p=some (.tup xs)/\FlS xs/\t=(PyData.tuple (xs.map fD)).shown
 | _=>False
section
variable{X:Cx}{K:yg}
end
theorem qeH{b n:Nat}{K:yg}(o:i<b:=by decide)(p:j<b:=by decide):qee b (qgB K n (qfN (qcc i) (qfN (qcc j) qgX))):=by
 intro x t H Q ⟨a,xs,e,h,g,v,r,c,m,l,d,q⟩;obtain⟨f,q⟩:=q;show⟨a,xs,e,h,g,v,r,c,m,l,d,f,q,?_,fun k s=>?_⟩
 .rw [xE,xE]
 .rw [xJ (by lk),xJ (by lk)]
section
variable{K:yg}{a:Addr}{xs:List V}{g:TG}{tc:TT}{te:TE}{σ':St}{H1:Hp}{Q:V->Hp->Prop}
end
theorem bit_nat(m j:Nat):decide (Builtin.bitAnd ((m:Int) / 2 ^ (j:Int).toNat) 1=1)=m.testBit j:=by
 rw[XT,Nat.testBit_eq_decide_div_mod_eq];rw[y0]
 have e:((m:Int) / 2 ^ j) % 2=((m / 2 ^ j % 2:Nat):Int):=by
  rw[Int.natCast_emod,Int.natCast_ediv,xG];rfl
 rw[e];by_cases h:m / 2 ^ j % 2=1
 .rw [h];rfl
 .rw [yl h,yl (by lk)]
theorem qdP(m j:Nat):decide (Builtin.bitAnd ((m:Int) / 2 ^ (j:Int).toNat) 1=0)=!m.testBit j:=by
 rw[<- bit_nat m j,XT];have h:((m:Int) / 2 ^ (j:Int).toNat) % 2=0\/((m:Int) / 2 ^ (j:Int).toNat) % 2=1:=by lk
 rcases h with h | h<;>rw[h]<;>rfl
section
variable{K:yg}{a b:Addr}{xs ys:List V}{g:TG}{tc:TT}{te:TE}{σ':St}{H1:Hp}{Q:V->Hp->Prop}
theorem comp_zip(E:ys.length<=xs.length)(d:Nat->List V->Hp->Prop)(s:d 0 [] H1)(hl:∀ i c H,i<=ys.length->d i c H->SqL K H a xs/\SqL K H b ys)
  (A:∀ i x y t c H,xs[i]?=some x->ys[i]?=some y->H t=none->d i c H->g (.ref t) σ' (upd H t (.tup [x,y])) fun h o=>tc h o fun b n=>if b=true then te h n fun v r=>c.length<sizeLine/\d (i+1) (c++[v]) r else d (i+1) c n)
  (w:∀ c H,d ys.length c H->c.length<=sizeLine/\∀ p,H p=none->Q (.ref p) (upd H p (.lst c))):qeD (Itz K a b) g tc te σ' H1 Q:=by
 show⟨fun i m c H=>m=ys.length-i/\i<=ys.length/\d i c H,⟨ys.length,by simp,YS _,s⟩,?_⟩;rintro i m c H ⟨rfl,z,p⟩;obtain⟨q,l⟩:=hl i c H z p;by_cases f:i<ys.length
 .have j:i<xs.length:=by lk
  show .inr ⟨⟨xs,ys,xs[i],ys[i],q,l,by simp[j],by simp[f]⟩,d (i+1),fun ys' H' C=>⟨ys.length-(i+1),by lk,rfl,f,C⟩,fun x H' y=>?_⟩;obtain⟨t,v,u,rfl,B,rfl,y,D⟩:=y;show A i v u t c _ (y xs q) (D ys l) B p
 .have e:i=ys.length:=by lk
  subst e;show .inl ⟨⟨xs,ys,q,l,.inr (yh _)⟩,w c H p⟩
end
section
variable{X:Cx}{K:yg}
end
section
variable{X:Cx}{K:yg}{e st:Expr}{te:TE}{ts:TO}{p2 pos:Pos}
end
mutual
inductive Dat(H:Hp):V->PyData->Prop
 | non:Dat H .non .none
 | bl (b:Bool):Dat H (.bl b) (.bool b)
 | int (i:Int):Dat H (.int i) (.int i)
 | str (x:Str):Dat H (.str x) (.str x)
 | lst {a:Addr} {xs:List V} {ds:List PyData}:H a=some (.lst xs)->DatS H xs ds->Dat H (.ref a) (.list ds)
 | tup {a:Addr} {xs:List V} {ds:List PyData}:H a=some (.tup xs)->DatS H xs ds->Dat H (.ref a) (.tuple ds)
 | dnil {a:Addr}:H a=some (.dK [])->Dat H (.ref a) (.dict [])
inductive DatS(H:Hp):List V->List PyData->Prop
 | nil:DatS H [] []
 | cons {v:V} {vs:List V} {d:PyData} {ds:List PyData}:Dat H v d->DatS H vs ds->DatS H (v::vs) (d::ds)
end
structure Shw(d:PyData)(n m:Nat):Prop where
 s:d.showable=true
 l:d.leavesShort 13=true
 b:d.bulk<=n
 p:d.depth<=m
structure ShwS(ds:List PyData)(n m:Nat):Prop where
 s:PyData.showableAll ds=true
 l:PyData.leavesShortAll 13 ds=true
 b:PyData.bulkAll ds<=n
 p:PyData.depthAll ds<=m
section
variable{X:Cx}{K:yg}{pins:List (Addr×Obj)}{σ:List (Option V)}{H:Hp}{s:Shared}
end
theorem qdQ{f:Str×NameKind->Str×NameKind}(b:∀ y,(f y).1=y.1)(c:∀ y,(f y).2=y.2\/(f y).2=.cell):∀{ns:List (Str×NameKind)} {x:Str},(ns.lookup x=some .cell\/ns.lookup x=some .free)->((ns.map f).lookup x=some .cell\/(ns.map f).lookup x=some .free)
 | [],x,h=>by simp at h
 | y::r,x,h=>by
  have e:((y::r).map f)=((f y).1,(f y).2)::r.map f:=rfl;have d:y::r=(y.1,y.2)::r:=rfl;rw[d,Y8] at h;rw[e,Y8,b y]
  cases a:x==y.1 with
  | false=>rw[a] at h;show qdQ b c h
  | true =>
   rw[a] at h;rcases c y with z | z
   .rw [z];show h
   .rw [z];show .inl rfl
theorem compB_re{sc scope:Scope}{env:Env}(h:qcO sc scope=true):qcO (relabel sc env) scope=true:=by
 unfold qcO at h ⊢;rw[yX] at h ⊢;show⟨h.1,YI.mpr fun y b=>?_⟩;have:=YI.mp h.2 y b
 cases a:y.2 with
 | free =>
  rw[a] at this;simp only[yX,Y1,Yw] at this ⊢;show⟨?_,this.2⟩;show qdQ (fun y=>by dsimp only;split<;>rfl) (fun y=>by dsimp only;split<;>simp) this.1
 | _=>rw[a] at this;first | done | show this | cases this
section
variable{X:Cx}{tg elt iter:Expr}{ifs:List Expr}{scope sc1:Scope}{pos:Pos}{N N1:LS}{nl:Nat}{ixs:LN}{wi:TI}{g:TG}{tc:TT}{te:TE}{C1:Addr}{s1:Shared}{H1:Hp}{ex1:LX}
theorem pe_compIn(N:LS)(nl:Nat)(ixs:LN)(hc:X.calm=true)(d:qcO sc1 scope=true)(f:N.length=nl+ixs.length)(a:qgF nl ixs N N1 scope.names=true)
  (j:PI (X.comp N1 sc1 C1 s1 H1 ex1) tg iter wi) (i:∀ C c b ex,PG ((X.comp N1 sc1 C1 s1 H1 ex1).comp N scope C c b ex) tg g) (e:qee nl g) (m:∀ C c b ex,qf5 ((X.comp N1 sc1 C1 s1 H1 ex1).comp N scope C c b ex) ifs tc) (h:∀ C c b ex,PE ((X.comp N1 sc1 C1 s1 H1 ex1).comp N scope C c b ex) elt te)
  (l:∀ x,foldedSetIterable iter (X.comp N1 sc1 C1 s1 H1 ex1).env x=pure x:=by intro _;rfl):PE (X.comp N1 sc1 C1 s1 H1 ex1) (.ListComp elt [⟨tg,iter,ifs,0⟩] scope pos) (qfj wi g tc te nl ixs):=
 q9 (sc:=relabel sc1 X.env) (XN:=N1) N nl ixs rfl rfl hc (compB_re d) f a j i e m h l
end
section
variable{X:Cx}{K:yg}
theorem qcV{e ty:TE}{b:St}{H:Hp}{Q:VK}(h:e b H fun x c=>∃ a,x=.ref a/\IsD c a/\ty b c fun y d=>∃ o,DGet d a y o/\Q (o.getD .non) d):qfv e ty b H Q:=h
def rIsNotB:R2:=fun x y H Q=>∃ i j,x=.bl i/\y=.bl j/\Q (.bl (i != j)) H
theorem qbm:OpR X (compareOp .IsNot) rIsNotB:=by
 intro a s d H x y v u Q I b c h;obtain⟨i,j,rfl,rfl,q⟩:=h;cases b;cases c;show isnot_bool ⟨.bl _,H,I,rfl,q⟩
end
noncomputable abbrev Cx.soft(X:Cx):Cx:={ X with calm:=false }
structure RoomW(k:Nat)(A:Around):Prop where
 dp:A.depth+3*k+5<recursionLimit
 un:A.units+16*k+200<cLine
 gd:A.guards=some []
theorem RoomW.deeper{k:Nat}{A:Around}(r:RoomW (k+1) A)(env:Env):RoomW k (A.deeper env):=
 ⟨by have:=r.dp;show A.depth+1+3*k+5<_;lk,by have:=r.un;show A.units+3+16*k+200<_;lk,r.gd⟩
theorem Room.soft{j k:Nat}{A:Around}{h:Option Value}(r:Room k A)(l:j<=k):RoomW j (A.mark h):=⟨by have:=r.dp;show A.depth+3*j+5<_;lk,by have:=r.un;show A.units+16*j+200<_;lk,r.gd⟩
structure FnOkW(P:Program)(w:World)(K:yg)(mg:Str->Option Value)(base:Heap)(k:Nat)(f:Addr)(fd:FuncData)(ps:LS)(sp:Sp):Prop where
 len:∀ vs H Q E,sp vs H Q E->vs.length=ps.length
 run:∀(A:Around) (outer:List Env) (s:Shared) (H:Hp) (args:Args) (us:List Value) (vs:List V) (Q:VK) (E:XK),RoomW k A->Env0 P w K mg base A outer s H->BindsTo s fd args (ps.zip us)->Vals vs us->sp vs H Q E ->
  codeAny (model P w) A (.call (.ref f) args) (CR CX0 outer P w H s Q E) s
structure DefOkW(P:Program)(w:World)(K:yg)(mg:Str->Option Value)(base:Heap)(k:Nat)(x:Str)(ps:LS)(sp:Sp):Prop where
 ex:∃ f fd,FnOkW P w K mg base k f fd ps sp/\mg x=some (.ref f)/\PySem.W.keepIn K (.ref f)=true/\Binds K fd ps []
section
variable{X:Cx}{k:Nat}{f C:Addr}{fd:FuncData}{ps:LS}{sp:Sp}{x m:Str}{p pos apos:Pos}{e o:Expr}{es:List Expr}{ta:TE}{t:TA}
end
section
variable{P:Program}{w:World}{K:yg}{mg:Str->Option Value}{base:Heap}
end
theorem Inv.laidM{X:Cx}{a:List (Addr×Obj)}{f:St}{H H':Hp}{s:Shared}{h':Heap}{t':Nat}(I:Inv X a f H s)(k:∀ b u,s.heap.get? b=some u->h'.get? b=some u)
  (old:∀ b,b<s.heap.objs.size->H' b=H b) (new:∀ b u,s.heap.objs.size<=b->H' b=some u->ObjOk X.prog X.w H' h' b u):Inv X a f H' { s with heap:=h',toks:=t' }:=by
 have lt:∀ b u,H b=some u->b<s.heap.objs.size:=fun b u e=>XX fun z=>by rw[I.hok.fresh z] at e;cases e
 have up:∀ b u,H b=some u->H' b=some u:=fun b u e=>(old b (lt b u e)).trans e;show I.step (g':=s.gens) (d':=s.drawn) (ch:=[]) (fun b d=>by simp at d) (fun b o _ _ _ e _=>k b o e) (fun b o _ _ _ e _=>⟨o.slots,k b o e⟩) (fun b o _ e n=>(old b (yQ e)).trans n)
  (fun b o _ e=>⟨o,k b o e⟩) (fun b xs e=>up b _ e) (fun b _ _ e=>up b _ e) (fun b ps e=>⟨#[],by rw[up b _ e];simp⟩) (fun m ⟨o,g,ep,h,r⟩=>⟨o,g,ep,k _ o h,r⟩) (fun b u e=>?_) I.bare
 by_cases d:s.heap.objs.size<=b
 .show new b u d e
 .rw [old b (XX d)] at e;show(I.hok b u e).stay (fun c v _ q=>k c v q) (fun c q=>up c _ q) fun c xs q=>up c _ q
section
variable{prog:Program}{w:World}{A:Around}{E:Value->Shared->Prop}{s:Shared}
theorem alive_{a:Addr}{Q:Option Obj->Shared->Prop}(h:Q (s.heap.get? a) s):wpAny (model prog w) A (loadIfAlive a) Q E s:=fun b p _=>by
 show Sem.wp _ _ (.loadIfAlive a .pure) _ _ _ _;rw[Sem.wp_loadIfAlive];simpa using h
abbrev qf7(h:Heap)(z TI TO:Addr)(b:Value)(a:Bool):Prop:=h.get? z=some { cls:=.type "zip",dict:=none,data:=.fields #[b,.bool a,.bool false,.ref TI,.ref TO],slots:=#[] }
theorem qgs{z TI TO T:Addr}{a:Bool}{f:Obj}{Q:Bool->Shared->Prop}(hz:qf7 s.heap z TI TO (rawInt T) a)(d:s.heap.get? T=some f)
  (b:∀ h',qf7 h' z TI TO (rawInt T) true->Heap.SameBut z s.heap h'->Q false { s with heap:=h' }):wpAny (model prog w) A (Builtin.SmallTypes.ownedTupleIsFree (.ref z)) Q E s:=by
 unfold Builtin.SmallTypes.ownedTupleIsFree;show yr (Xg hz rfl (x:=rawInt T) rfl ?_);show wpAny _ _ (loadIfAlive T>>=_) _ _ _;show yr (alive_ ?_);rw[d];show wpAny _ _ (field (.ref z) 1>>=_) _ _ _;show yr (Xg hz rfl (x:=.bool a) rfl ?_)
 cases a with
 | true=>show yw (b _ hz ⟨rfl,fun _ _=>rfl⟩)
 | false =>
  show wpAny _ _ (setField (.ref z) 1 (.bool true)>>=_) _ _ _;show yr (wpAny_setField_rec hz (by simp) fun h1 c e=>yw (b h1 c e))
theorem znx{z TI TO d f a b T:Addr}{F:Bool}{M:Obj}{r t:Nat}{xs ys:Array Value}{x y:Value}{Q:Value->Shared->Prop}(D:ZipApart z TI TO d f a b)
  (hz:qf7 s.heap z TI TO (rawInt T) F) (I:s.heap.get? T=some M) (n:IsPair s.heap TI (.ref d) (.ref f))
  (h1:s.heap.IsListIter d a r) (G:s.heap.IsListIter f b t) (p:s.heap.IsList a xs) (q:s.heap.IsList b ys) (J:xs[r]?=some x) (K:ys[t]?=some y)
  (H:∀ h',qf7 h' z TI TO (rawInt T) true->h'.IsListIter d a (r+1)->h'.IsListIter f b (t+1)->IsPair h' s.heap.objs.size x y->h'.objs.size=s.heap.objs.size+1 ->
   (∀ c o,c≠z->c≠d->c≠f->s.heap.get? c=some o->h'.get? c=some o)->Q (.ref s.heap.objs.size) { s with heap:=h' }) :
  wpAny (model prog w) A (Builtin.«zip.__next__» ⟨[.ref z],[]⟩) (fun l P=>∃ v,l=.done (.ret v)/\Q v P) E s:=by
 show wpAny _ _ (field (.ref z) 2>>=_) _ _ _;show yr <| Xg hz rfl (x:=.bool false) rfl ?_;show wpAny _ _ (field (.ref z) 3>>=_) _ _ _;show yr <| Xg hz rfl (x:=.ref TI) rfl ?_;show yr <| wpAny_seqItems n rfl ?_;show wpAny _ _ (Builtin.SmallTypes.ownedTupleIsFree _>>=_) _ _ _;show yr <| qgs hz I fun S R g=>?_;simp only[YM,Xa];show yr ?_;rw[<- Array.forIn_toList];simp only[kX,k9];show yr (yr (Yv ?_));show wpAny _ _ (Builtin.SmallTypes.nextOf (.ref d)>>=_) _ _ _;show yr <| XU (h1.extBut g.extBut D.i1z) (p.extBut g.extBut D.l1z) J fun U N h=>yw (yw ?_);show yr (yr (Yv ?_));show wpAny _ _ (Builtin.SmallTypes.nextOf (.ref f)>>=_) _ _ _;show yr <| XU ((G.extBut g.extBut D.i2z).extBut h.extBut D.i12.symm) ((q.extBut g.extBut D.l2z).extBut h.extBut D.l2i1) K fun m O i=>yw (yw (yw ?_));show yr (wpAny_newTuple (yw ⟨_,rfl,?_⟩) (by show 2<=sizeLine;decide));have j:m.objs.size=s.heap.objs.size:=by rw[i.1,h.1,g.1]
 have L:∀ c o,c≠z->c≠d->c≠f->s.heap.get? c=some o->m.get? c=some o:=fun c o u B C e=>i.extBut _ _ C (h.extBut _ _ B (g.extBut _ _ u e));rw[show(Value.ref m.objs.size)=.ref s.heap.objs.size by rw[j]];show H _ (yv _ (i.extBut _ _ D.i2z.symm (h.extBut _ _ D.i1z.symm R))) ((N.extBut i.extBut D.i12).at fun o e=>yv _ e) (O.at fun o e=>yv _ e) ?_ (by rw[xz,j]) fun c o u B C e=>yv _ (L c o u B C e);rw[<- j];show yZ _ rfl
theorem zne{z TI TO h i a b T:Addr}{F:Bool}{L:Obj}{r t:Nat}{xs ys:Array Value}{Q:Fin->Shared->Prop}(C:A.handled=none)(D:ZipApart z TI TO h i a b)
  (hz:qf7 s.heap z TI TO (rawInt T) F) (I:s.heap.get? T=some L) (l:IsPair s.heap TI (.ref h) (.ref i))
  (h1:s.heap.IsListIter h a r) (H:s.heap.IsListIter i b t) (g:s.heap.IsList a xs) (n:s.heap.IsList b ys) (f:xs[r]?=none\/ys[t]?=none)
  (B:∀ h' e,(∀ c o,c≠z->c≠h->c≠i->s.heap.get? c=some o->h'.get? c=some o)->(∃ o,h'.get? e=some o/\o.cls=.type "StopIteration")->E (.ref e) { s with heap:=h' }) :
  wpAny (model prog w) A (Builtin.«zip.__next__» ⟨[.ref z],[]⟩) Q E s:=by
 show wpAny _ _ (field (.ref z) 2>>=_) _ _ _;show yr <| Xg hz rfl (x:=.bool false) rfl ?_;show wpAny _ _ (field (.ref z) 3>>=_) _ _ _;show yr <| Xg hz rfl (x:=.ref TI) rfl ?_;show yr <| wpAny_seqItems l rfl ?_;show wpAny _ _ (Builtin.SmallTypes.ownedTupleIsFree _>>=_) _ _ _;show yr <| qgs hz I fun N P d=>?_;simp only[YM,Xa];show yr ?_;rw[<- Array.forIn_toList];simp only[kX,k9];show yr (yr (Yv ?_));show wpAny _ _ (Builtin.SmallTypes.nextOf (.ref h)>>=_) _ _ _
 cases p:xs[r]? with
 | none=>show yr <| wpAny_nextOf_list_end C (h1.extBut d.extBut D.i1z) (g.extBut d.extBut D.l1z) p fun y e j m=>B y e (fun c o u v _ q=>j _ _ v (d.extBut _ _ u q)) m
 | some x =>
  have J:ys[t]?=none:=f.elim (fun z=>by rw[p] at z;cases z) id;show yr <| XU (h1.extBut d.extBut D.i1z) (g.extBut d.extBut D.l1z) p fun y O j=>yw (yw ?_);show yr (yr (Yv ?_));show wpAny _ _ (Builtin.SmallTypes.nextOf (.ref i)>>=_) _ _ _;show yr <| wpAny_nextOf_list_end C ((H.extBut d.extBut D.i2z).extBut j.extBut D.i12.symm) ((n.extBut d.extBut D.l2z).extBut j.extBut D.l2i1) J fun G e M m=>B G e (fun c o u v K q=>M _ _ K (j.extBut _ _ v (d.extBut _ _ u q))) m
def ZAt(z TI TO N:Nat)(h:Heap):Prop:=IsZip h z TI TO .none\/∃ T a o,N<=T/\qf7 h z TI TO (rawInt (T:Nat)) a/\h.get? T=some o
theorem ZAt.typ{z TI TO N:Nat}(h:ZAt z TI TO N s.heap):s.TypeIs (.ref z) "zip":=by
 rcases h with e | ⟨_,_,_,_,e,_⟩<;>show⟨_,e,rfl⟩
theorem znx_any{z TI TO h i a b N:Addr}{G H:Nat}{xs ys:Array Value}{x y:Value}{Q:Option Value->Shared->Prop}(D:ZipApart z TI TO h i a b)(O:N<=s.heap.objs.size)
  (hz:ZAt z TI TO N s.heap) (l:IsPair s.heap TI (.ref h) (.ref i)) (d:∃ u v,IsPair s.heap TO u v)
  (h1:s.heap.IsListIter h a G) (I:s.heap.IsListIter i b H) (m:s.heap.IsList a xs) (n:s.heap.IsList b ys) (K:xs[G]?=some x) (L:ys[H]?=some y) (f:z<N/\h<N/\i<N)
  (J:∀ h',ZAt z TI TO N h'->(∃ u v,IsPair h' TO u v)->h'.IsListIter h a (G+1)->h'.IsListIter i b (H+1)->IsPair h' s.heap.objs.size x y->h'.objs.size=s.heap.objs.size+1 ->
   (∀ c o,c≠z->c≠TO->c≠h->c≠i->s.heap.get? c=some o->h'.get? c=some o)->Q (some (.ref s.heap.objs.size)) { s with heap:=h' }) :
  wpAny (model prog w) A (pyNext (.ref z)) Q E s:=by
 obtain⟨u,v,d⟩:=d;have typ:=hz.typ;rcases hz with hz | ⟨T,b1,o,hT,hz,ho⟩
 .show wpAny_pyNext_zip_item D hz l d h1 I m n K L fun g r M t B p C j=>J g (.inr ⟨s.heap.objs.size,false,_,O,r,p⟩) ⟨_,_,M⟩ t B p C j
 .unfold pyNext;show yr (kD (XG (name:=Str.ofString "__next__") typ X5 (Xw X5 typ F.entry_zip_next (znx D hz ho l h1 I m n K L fun g r t B p C j=>yw ?_) (F.args_zip_next_1 _))));show J g (.inr ⟨T,true,o,hT,r,j _ _ (Yn (yj f.1 hT)) (Yn (yj f.2.1 hT)) (Yn (yj f.2.2 hT)) ho⟩) ⟨_,_,j _ _ D.TOz D.TOi1 D.TOi2 d⟩ t B p C fun c q P _ R S e=>j c q P R S e
theorem zne_any{z TI TO l m a b N:Addr}{t x:Nat}{xs ys:Array Value}{Q:Option Value->Shared->Prop}(r:A.handled=none)(D:ZipApart z TI TO l m a b)
  (hz:ZAt z TI TO N s.heap) (h:IsPair s.heap TI (.ref l) (.ref m)) (f:∃ u v,IsPair s.heap TO u v)
  (h1:s.heap.IsListIter l a t) (n:s.heap.IsListIter m b x) (i:s.heap.IsList a xs) (j:s.heap.IsList b ys) (d:xs[t]?=none\/ys[x]?=none)
  (p:∀ h',(∀ c o,c≠z->c≠TO->c≠l->c≠m->s.heap.get? c=some o->h'.get? c=some o)->Q none { s with heap:=h' }):wpAny (model prog w) A (pyNext (.ref z)) Q E s:=by
 obtain⟨u,v,f⟩:=f;have typ:=hz.typ;rcases hz with hz | ⟨T,b1,o,hT,hz,ho⟩
 .show wpAny_pyNext_zip_end r D hz h f h1 n i j d p
 .unfold pyNext;show yr (kD (XG (name:=Str.ofString "__next__") typ X5 (Xw X5 typ F.entry_zip_next (zne r D hz ho h h1 n i j d fun g e k y=>?_) (F.args_zip_next_1 _))));obtain⟨q,B,hc⟩:=y;show yr (wpAny_isInstance (T:="StopIteration") (b:=true) ⟨q,B,hc⟩ isSubtype_stop ?_);show yw (p _ fun c o C _ G H e=>k c o C G H e)
end
structure LZ(z TI TO i1 i2 a b S N:Nat)(xs ys:Array Value)(h0:Heap)(i:Nat)(acc:Array Value)(c:Nat)(h:Heap):Prop where
 zp:ZAt z TI TO N h
 ti:IsPair h TI (.ref i1) (.ref i2)
 tO:∃ u v,IsPair h TO u v
 j1:h.IsListIter i1 a i
 j2:h.IsListIter i2 b i
 la:h.IsList a xs
 lb:h.IsList b ys
 ls:h.get? S=some { cls:=.type "list",dict:=none,data:=.seq acc c,slots:=#[] }
 sz:N<=h.objs.size
 len:acc.size=i
 its:∀(j:Nat) v,acc[j]?=some v->∃ t x y,v=.ref t/\N<=t/\IsPair h t x y/\xs[j]?=some x/\ys[j]?=some y
 nd:∀(j k:Nat) v,acc[j]?=some v->acc[k]?=some v->j=k
 kp:∀ q o,q<N->q≠z->q≠TO->q≠i1->q≠i2->q≠S->h0.get? q=some o->h.get? q=some o
structure LE(z TO i1 i2 S N:Nat)(xs ys:Array Value)(h0:Heap)(n:Nat)(acc:Array Value)(c:Nat)(h:Heap):Prop where
 ls:h.get? S=some { cls:=.type "list",dict:=none,data:=.seq acc c,slots:=#[] }
 len:acc.size=n
 its:∀(j:Nat) v,acc[j]?=some v->∃ t x y,v=.ref t/\N<=t/\IsPair h t x y/\xs[j]?=some x/\ys[j]?=some y
 nd:∀(j k:Nat) v,acc[j]?=some v->acc[k]?=some v->j=k
 kp:∀ q o,q<N->q≠z->q≠TO->q≠i1->q≠i2->q≠S->h0.get? q=some o->h.get? q=some o
structure LA(z TI TO i1 i2 a b S N:Nat):Prop where
 D:ZipApart z TI TO i1 i2 a b
 lt:z<S/\TI<S/\TO<S/\i1<S/\i2<S/\a<S/\b<S
 S:S<N
theorem LZ.at{z TI TO g l a b S N:Nat}{xs ys:Array Value}{A h h':Heap}{i c s:Nat}{acc d:Array Value}(L:LA z TI TO g l a b S N)(x:LZ z TI TO g l a b S N xs ys A i acc c h)
  (k:Heap.SameBut S h h') (U:h'.get? S=some { cls:=.type "list",dict:=none,data:=.seq d s,slots:=#[] }) (p:d.size=i) (m:∀(j:Nat) v,d[j]?=some v->∃ t x y,v=.ref t/\N<=t/\IsPair h t x y/\xs[j]?=some x/\ys[j]?=some y) (nd:∀(j k:Nat) v,d[j]?=some v->d[k]?=some v->j=k):LZ z TI TO g l a b S N xs ys A i d s h':=by
 obtain⟨l1,l2,K,M,O,P,R⟩:=L.lt;have B:=L.S;have f:∀{q o},q≠S->h.get? q=some o->h'.get? q=some o:=fun n e=>k.extBut _ _ n e;show⟨?_,f (yL l2) x.ti,?_,x.j1.at fun o e=>f (yL M) e,x.j2.at fun o e=>f (yL O) e,x.la.extBut k.extBut (yL P),x.lb.extBut k.extBut (yL R),U,by rw[k.1];show x.sz,p,fun j v e=>?_,nd,fun q o C D E F G r e=>f r (x.kp q o C D E F G r e)⟩
 .rcases x.zp with e | ⟨T,b1,o,hT,e,eo⟩
  .show .inl (f (yL l1) e)
  .show .inr ⟨T,b1,o,hT,f (yL l1) e,f (Yn (yj B hT)) eo⟩
 .obtain⟨u,v,e⟩:=x.tO;show⟨u,v,f (yL K) e⟩
 .obtain⟨t,u,v,H,w,I,J⟩:=m j v e;show⟨t,u,v,H,w,f (Yn (yj B w)) I,J⟩
section
variable{prog:Program}{w:World}{A:Around}{R:Result->Shared->Prop}{z TI TO i1 i2 a b S N:Nat}{xs ys:Array Value}{h0:Heap}
theorem zloop(hh:A.handled=none)(L:LA z TI TO i1 i2 a b S N)(hn:min xs.size ys.size<=2 ^ 24)(res:Value):∀(k i:Nat) (s:Shared) (acc:Array Value) (c:Nat),min xs.size ys.size-i=k->i<=min xs.size ys.size->LZ z TI TO i1 i2 a b S N xs ys h0 i acc c s.heap ->
  (∀ h' M O,LE z TO i1 i2 S N xs ys h0 (min xs.size ys.size) M O h'->R (.ok (.ret res)) { s with heap:=h' })->codeAny (model prog w) A (.builtin "list.extend.loop" ⟨[.ref S,.ref z,res],[]⟩) R s:=by
 have C:=L.S;obtain⟨l1,l2,U,E,G,l6,l7⟩:=L.lt;have p:∀{t q:Nat},N<=t->q<S->t≠q:=fun h1 h2=>by lk
 intro k
 induction k with
 | zero =>
  intro i s acc c hk hi x hR;show codeAny_builtin F.entry_extend_loop ?_;rw[Around.under_plainId Xz _];show wpAny _ A.in1 (pyNext _>>=_) _ _ s
  have he:xs[i]?=none\/ys[i]?=none:=by
   rcases Nat.le_total xs.size ys.size with q | q
   .show .inl (xv (by lk))
   .show .inr (xv (by lk))
  show yr (zne_any hh L.D x.zp x.ti x.tO x.j1 x.j2 x.la x.lb he fun h' l=>yw (hR h' acc c ⟨?_,by rw[x.len];lk,fun j v e=>?_,x.nd,fun q o H y I J K X e=>l q o y I J K (x.kp q o H y I J K X e)⟩))
  .show l S _ (Yn l1) (Yn U) (Yn E) (Yn G) x.ls
  .obtain⟨t,u,v,m,g,e3,e4⟩:=x.its j v e;show⟨t,u,v,m,g,l t _ (p g l1) (p g U) (p g E) (p g G) e3,e4⟩
 | succ k ih =>
  intro i s acc c hk hi x hR;show codeAny_builtin F.entry_extend_loop ?_;rw[Around.under_plainId Xz _];show wpAny _ A.in1 (pyNext _>>=_) _ _ s;obtain⟨u,hu⟩:∃ u,xs[i]?=some u:=⟨_,xC (by lk)⟩;obtain⟨v,hv⟩:∃ v,ys[i]?=some v:=⟨_,xC (by lk)⟩;show yr (znx_any L.D x.sz x.zp x.ti x.tO x.j1 x.j2 x.la x.lb hu hv ⟨XM l1 C,XM E C,XM G C⟩ fun h1 z1 ab m g eP Z l=>?_);have P:=l S _ (Yn l1) (Yn U) (Yn E) (Yn G) x.ls;show wpAny _ A.in1 (updateSeq S (·.push (.ref s.heap.objs.size))>>=_) _ _ _;have f:=x.len;have hN:=x.sz
  have W:∀ j:Nat,acc[j]?≠some (.ref s.heap.objs.size):=fun j e=>by
   obtain⟨t,Y,w',q1,B,q3,_⟩:=x.its j _ e;cases q1;show absurd (yQ q3) (YC _)
  have aa:∀(j k:Nat) r,(acc.push (.ref s.heap.objs.size))[j]?=some r->(acc.push (.ref s.heap.objs.size))[k]?=some r->j=k:=fun j k r m g=>by
   rw[Array.getElem?_push] at m g;split at m<;>split at g
   .rename_i H y;rw[H,y]
   .cases m;show absurd g (W k)
   .cases g;show absurd m (W j)
   .show x.nd j k r m g
  obtain⟨O,ac⟩:∃ O,(h1.update S (Obj.mapSeq (·.push (.ref s.heap.objs.size)))).get? S=some { cls:=.type "list",dict:=none,data:=.seq (acc.push (.ref s.heap.objs.size)) O,slots:=#[] }:=⟨_,Y7 (Obj.mapSeq (·.push (.ref s.heap.objs.size))) P rfl⟩;show yr (X6 P rfl (yw ⟨plainId_quiet Xz _,ih (i+1) _ (acc.push (.ref s.heap.objs.size)) O (by lk) (by lk) ?_ hR⟩) ?_ ?_)
  .have sb:Heap.SameBut S h1 (h1.update S (Obj.mapSeq (·.push (.ref s.heap.objs.size)))):=xX ..;have h:∀{q o},q≠S->h1.get? q=some o->(h1.update S (Obj.mapSeq (·.push (.ref s.heap.objs.size)))).get? q=some o:=fun n e=>sb.extBut _ _ n e;show⟨?_,h (yL l2) (l _ _ L.D.TIz L.D.TITO L.D.TIi1 L.D.TIi2 x.ti),?_,m.at fun o e=>h (yL E) e,g.at fun o e=>h (yL G) e,?_,?_,ac,by rw[sb.1,Z];lk,by rw[Array.size_push,f],fun j r e=>?_,aa,fun q o H y I J K X e=>h X (l q o y I J K (x.kp q o H y I J K X e))⟩
   .rcases z1 with e | ⟨T,b1,o,hT,e,eo⟩
    .show .inl (h (yL l1) e)
    .show .inr ⟨T,b1,o,hT,h (yL l1) e,h (Yn (yj C hT)) eo⟩
   .obtain⟨Y,r,e⟩:=ab;show⟨Y,r,h (yL U) e⟩
   .obtain⟨o,e,d⟩:=x.la;show⟨o,h (yL l6) (l _ _ L.D.l1z L.D.l1TO L.D.l1i1 L.D.l1i2 e),d⟩
   .obtain⟨o,e,d⟩:=x.lb;show⟨o,h (yL l7) (l _ _ L.D.l2z L.D.l2TO L.D.l2i1 L.D.l2i2 e),d⟩
   .rw [Array.getElem?_push] at e;split at e
    .rename_i ej
     cases e;rw[ej,f];show⟨_,u,v,rfl,hN,h (Yn (yj C hN)) eP,hu,hv⟩
    .obtain⟨t,Y,w',q1,B,q3,q4⟩:=x.its j r e;show⟨t,Y,w',q1,B,h (Yn (yj C B)) (l t _ (p B l1) (p B U) (p B E) (p B G) q3),q4⟩
  .rw [f,YF];lk
  .show(acc.push _).size<=sizeLine+1;rw[Array.size_push,f,YF];lk
theorem zip_len0:typeLookup (.type "zip") "__len__"=pure none:=by rw[typeLookup_type,builtinLookup_eq_fast];kernel_rfl
theorem zip_hint0:typeLookup (.type "zip") "__length_hint__"=pure none:=by rw[typeLookup_type,builtinLookup_eq_fast];kernel_rfl
theorem zext{s:Shared}{p:Nat}(u:A.handled=none)(L:LA z TI TO i1 i2 a b S N)(y:min xs.size ys.size<=2 ^ 24)(res:Value)(hz:IsZip s.heap z TI TO .none)(x:LZ z TI TO i1 i2 a b S N xs ys h0 0 #[] p s.heap)
  (t:∀ h' c d,LE z TO i1 i2 S N xs ys h0 (min xs.size ys.size) c d h'->R (.ok (.ret res)) { s with heap:=h' }) :
  wpAny (model prog w) A.in1 (Builtin.List.listExtendWith (.ref S) (.ref z) res) (fun h g=>match h with | .done f=>R (.ok f) g | .again d=>d.quiet=true/\codeAny (model prog w) A d R g) (fun e g=>R (.error e) g) s:=by
 obtain⟨l1,_⟩:=L.lt;have typ:s.TypeIs (.ref z) "zip":=⟨_,hz,rfl⟩;unfold Builtin.List.listExtendWith;show yr <| wpAny_typeOf typ ?_;have B:Builtin.List.listSameRef (.ref S) (.ref z)=false:=by simp[Builtin.List.listSameRef,Yn l1]
 have o:(Value.type "zip"==.type "list")=false/\(Value.type "zip"==.type "tuple")=false:=by decide
 simp only[B,o.1,o.2,kC,YM,Xa];show yr <| kL hz <| yr <| Yv ?_;unfold Builtin.List.listLengthHint;show yr <| wpAny_specialOf typ zip_len0 ?_;show wpAny _ _ (specialOf (Value.ref z) (Str.ofString "__length_hint__")>>=_) _ _ _;show yr <| wpAny_specialOf typ zip_hint0 <| yw ?_;show wpAny _ _ (rule "list.extend.makes-room">>=fun _=>Builtin.List.listTouch (.ref S)>>=fun _=>again (.builtin "list.extend.loop" ⟨[.ref S,.ref z,res],[]⟩)) _ _ _;show yr <| wpAny_rule <| yr ?_;show wpAny _ _ (updateSeq S (·.push .none)>>=fun _=>updateSeq S (·.pop)) _ _ _;show yr <| X6 x.ls rfl ?_;have i:=Y7 (Obj.mapSeq (·.push Value.none)) x.ls rfl;show X6 (hz:=by seq_fits) i rfl ?_;have r:=Y7 (Obj.mapSeq (·.pop)) i rfl
 have C:Heap.SameBut S s.heap ((s.heap.update S (Obj.mapSeq (·.push Value.none))).update S (Obj.mapSeq (·.pop))):=by
  have l:Heap.SameBut S s.heap (s.heap.update S (Obj.mapSeq (·.push Value.none))):=xX ..;have m:Heap.SameBut S (s.heap.update S (Obj.mapSeq (·.push Value.none))) ((s.heap.update S (Obj.mapSeq (·.push Value.none))).update S (Obj.mapSeq (·.pop))):=xX ..;show⟨m.1.trans l.1,fun q n=>(m.2 q n).trans (l.2 q n)⟩
 show yw ⟨plainId_quiet Xz _,zloop u L y res _ 0 _ #[] _ rfl (YS _) (x.at L C r rfl (fun j v e=>by simp at e) fun j k v e=>by simp at e) t⟩
theorem zinit{s:Shared}{l:Nat}(o:A.handled=none)(L:LA z TI TO i1 i2 a b S N)(p:min xs.size ys.size<=2 ^ 24)(hz:IsZip s.heap z TI TO .none)(x:LZ z TI TO i1 i2 a b S N xs ys h0 0 #[] l s.heap)
  (n:∀ h' c d,LE z TO i1 i2 S N xs ys h0 (min xs.size ys.size) c d h'->R (.ok (.ret .none)) { s with heap:=h' }) :
  wpAny (model prog w) A.in1 (Builtin.«list.__init__» ⟨[.ref S,.ref z],[]⟩) (fun h g=>match h with | .done f=>R (.ok f) g | .again d=>d.quiet=true/\codeAny (model prog w) A d R g) (fun e g=>R (.error e) g) s:=by
 obtain⟨l1,_⟩:=L.lt;show wpAny _ _ (do let old <- Builtin.List.listItems (.ref S);Builtin.List.listUpdate (.ref S) (fun _=>#[]);letGo old.toList.reverse;Builtin.List.listExtendWith (.ref S) (.ref z) .none) _ _ s;show yr ?_;unfold Builtin.List.listItems;show yr <| wpAny_seqItems x.ls rfl <| yw ?_;show wpAny _ _ (updateSeq S (fun _=>#[])>>=fun _=>letGo _>>=fun _=>Builtin.List.listExtendWith (.ref S) (.ref z) .none) _ _ s;show yr <| X6 x.ls rfl ?_;have m:=Y7 (Obj.mapSeq (fun _=>(#[]:Array Value))) x.ls rfl;have i:Heap.SameBut S s.heap (s.heap.update S (Obj.mapSeq (fun _=>(#[]:Array Value)))):=xX ..;show yr <| wpAny_letGo ?_;show zext o L p .none (i.extBut _ _ (yL l1) hz) (x.at L i m rfl (fun j v e=>by simp at e) fun j k v e=>by simp at e) n
end
section
variable{prog:Program}{w:World}{A:Around}{E:Value->Shared->Prop}{s:Shared}
theorem call_list_zip{z TI TO h i a b:Nat}{xs ys:Array Value}{Q:Value->Shared->Prop}(H:A.handled=none)(D:ZipApart z TI TO h i a b)(I:min xs.size ys.size<=2 ^ 24)(hz:IsZip s.heap z TI TO .none)(l:IsPair s.heap TI (.ref h) (.ref i))(f:∃ u v,IsPair s.heap TO u v)
  (h1:s.heap.IsListIter h a 0) (y:s.heap.IsListIter i b 0) (m:s.heap.IsList a xs) (n:s.heap.IsList b ys)
  (G:∀ h' c t,LE z TO h i s.heap.objs.size (s.heap.objs.size+1) xs ys s.heap (min xs.size ys.size) c t h'->Q (.ref s.heap.objs.size) { s with heap:=h' }):wpAny (model prog w) A (call (.type "list") [.ref z]) Q E s:=by
 show callType_codes (Q₁:=fun r g=>r=.ref s.heap.objs.size/\g={ s with heap:=s.heap.push { cls:=.type "list",data:=.seq #[] } }) F.called_list (F.typeCall_list_1 _) F.entry_list_init (code_list_new _ ⟨rfl,rfl⟩) fun r g p=>?_;obtain⟨rfl,rfl⟩:=p;have B:(s.heap.push { cls:=.type "list",data:=.seq #[] }).get? s.heap.objs.size=some { cls:=.type "list",data:=.seq #[] }:=yZ _ rfl;have up:∀{q o},s.heap.get? q=some o->(s.heap.push { cls:=.type "list",data:=.seq #[] }).get? q=some o:=fun e=>yv _ e;have lt:∀{q o},s.heap.get? q=some o->q<s.heap.objs.size:=fun e=>yQ e;obtain⟨u,v,f⟩:=f
 have L:LA z TI TO h i a b s.heap.objs.size (s.heap.objs.size+1):=by
  show⟨D,⟨lt hz,lt l,lt f,?_,?_,?_,?_⟩,XW _⟩
  .obtain⟨_,e,_⟩:=h1;show lt e
  .obtain⟨_,e,_⟩:=y;show lt e
  .obtain⟨_,e,_⟩:=m;show lt e
  .obtain⟨_,e,_⟩:=n;show lt e
 have x:LZ z TI TO h i a b s.heap.objs.size (s.heap.objs.size+1) xs ys s.heap 0 #[] 0 (s.heap.push { cls:=.type "list",data:=.seq #[] }):=by
  show⟨.inl (up hz),up l,⟨u,v,up f⟩,h1.at fun o e=>up e,y.at fun o e=>up e,?_,?_,B,by rw[xz];show yh _,rfl,fun j v e=>by simp at e,fun j k v e=>by simp at e,fun q o _ _ _ _ _ _ e=>up e⟩
  .obtain⟨o,e,d⟩:=m;show⟨o,up e,d⟩
  .obtain⟨o,e,d⟩:=n;show⟨o,up e,d⟩
 show⟨⟨_,B,rfl⟩,F.args_list_init_2 _ _,zinit (A:=A.in1) H L I (up hz) x fun h' c t C=>⟨rfl,G h' c t C⟩⟩
end
structure Zl(H H':Hp)(l:Addr)(ts:LX)(xs ys:List V):Prop where
 sm:L2.Same H H'
 fl:H l=none
 ls:H' l=some (.lst (ts.map V.ref))
 len:ts.length=min xs.length ys.length
 tp:∀(j:Nat) t,ts[j]?=some t->H t=none/\∃ x y,xs[j]?=some x/\ys[j]?=some y/\H' t=some (.tup [x,y])
theorem qgt(H:Hp):∀(a:LX) (xs ys:List V),a.Nodup->a.length<=xs.length->a.length<=ys.length->∃ G:Hp,(∀(j:Nat) t x y,a[j]?=some t->xs[j]?=some x->ys[j]?=some y->G t=some (.tup [x,y]))/\∀ q,q∉a->G q=H q
 | [],_,_,_,_,_=>⟨H,fun j t x y e=>by simp at e,fun _ _=>rfl⟩
 | t::a,[],_,_,h,_=>by simp at h
 | t::a,_::_,[],_,_,h=>by simp at h
 | t::a,x::xs,y::ys,nd,h1,h2=>by
  obtain⟨m,n⟩:=yo.mp nd;obtain⟨G,i,l⟩:=qgt H a xs ys n (by simpa using h1) (by simpa using h2);show⟨upd G t (.tup [x,y]),fun j t' o p c d f=>?_,fun q g=>?_⟩
  .cases j with
   | zero=>simp at c d f;subst c d f;show qb
   | succ j =>
    have b:a[j]?=some t':=by simpa using c
    rw[qf fun z=>m (by rw[<- z];show ye b)];show i j t' o p b (by simpa using d) (by simpa using f)
  .rw [qf fun z=>g (by rw[z];show yO)];show l q fun z=>g (yz _ z)
noncomputable def refN:Value->Nat
 | .ref a=>a
 | _=>0
def tLZ(K:yg)(d:TA):TE:=fun f H Q=>d f H fun vs c=>∃ a b xs ys,vs=[.ref a,.ref b]/\SqL K c a xs/\SqL K c b ys/\xs.length<=1000/\∀ l e H',Zl c H' l e xs ys->Q (.ref l) H'
theorem vLZ{K:yg}{d:TA}{e:St}{H:Hp}{Q:VK}(h:d e H fun vs c=>∃ a b xs ys,vs=[.ref a,.ref b]/\SqL K c a xs/\SqL K c b ys/\xs.length<=1000/\∀ l f H',Zl c H' l f xs ys->Q (.ref l) H'):tLZ K d e H Q:=h
theorem qdk{X:Cx}{K:yg}{a b:Expr}{ta:TA}{p p2 an f:Pos}(hK:X.K=K)(hc:X.calm=true)(hg:Gl X "list")(af:Gl X "zip")(F:X.mg "list"=none)(aj:X.mg "zip"=none)(ha:PA X [a,b] ta)(hs:starEach [a,b] X.env=[(false,eval a X.env),(false,eval b X.env)]:=by rfl)(P:starEach [b] X.env=[(false,eval b X.env)]:=by rfl)
  (he:starEach [.Call (.Name "zip" p2) [a,b] [] f] X.env=[(false,eval (.Call (.Name "zip" p2) [a,b] [] f) X.env)]:=by rfl):PE X (.Call (.Name "list" p) [.Call (.Name "zip" p2) [a,b] [] f] [] an) (tLZ K ta):=by
 subst hK;intro Y s σ H Q I h;show Call_ (qaN I hg F xp (YE (T:="list") ?_ he rfl));rw[he];show wpAny _ _ (spliced ((false,eval (.Call (.Name "zip" p2) [a,b] [] f) X.env)::[])) _ _ s;show kj ?_;show Call_ (qaN I af aj qdN (YE (thn (ha f Y s σ H _ I h) fun us w ⟨vs,H1,A,r1,q1⟩=>?_) (by rw[hs,P]) (by rw[P];rfl)));obtain⟨a,b,xs,ys,e,hq,ak,hx,q⟩:=q1;subst e
 cases r1 with
 | cons r rr =>
  cases rr with
  | cons r2 rr =>
   cases rr;cases r;cases r2;obtain⟨C,rv,pl,_⟩:=A.list hq;obtain⟨l,Z,D,_⟩:=A.list ak;have al:a<w.heap.objs.size:=by obtain⟨_,e,_⟩:=pl.isList;show yQ e
   have am:b<w.heap.objs.size:=by obtain⟨_,e,_⟩:=D.isList;show yQ e
   have l1:=rv.length;have l2:=Z.length;show call_zip_2 pl.isList D.isList fun h1 hz ad ae ag ah hsz hk=>kx ?_;have la:h1.IsList a C.toArray:=by obtain⟨o,e,d⟩:=pl.isList;show⟨o,hk _ _ e,d⟩
   have B:h1.IsList b l.toArray:=by obtain⟨o,e,d⟩:=D.isList;show⟨o,hk _ _ e,d⟩
   show call_list_zip (A.ok.hd hc) (PySem.W.ktu_apart _ _ _ al am) (by simp only[yx];lk) hz ad ⟨_,_,ae⟩ ag ah la B fun h2 acc c L=>?_;have L:LE (w.heap.objs.size+4) (w.heap.objs.size+3) w.heap.objs.size (w.heap.objs.size+1) h1.objs.size (h1.objs.size+1) C.toArray l.toArray h1 (min C.toArray.size l.toArray.size) acc c h2:=L;have O:acc.size=min xs.length ys.length:=by rw[L.len,l1,l2,yx,yx]
   obtain⟨g,R⟩:∃ g,g=acc.toList.map refN:=⟨_,rfl⟩;have n:g.length=min xs.length ys.length:=by rw[R,ya,xU,O]
   have J:∀(j:Nat) t,g[j]?=some t->acc[j]?=some (.ref t)/\h1.objs.size+1<=t/\∃ x y,xs[j]?=some x/\ys[j]?=some y/\∃ u v,RelV x u/\RelV y v/\IsPair h2 t u v:=fun j t e=>by
    rw[R,yd,xB] at e;obtain⟨v,ev,et⟩:=yn.mp e;obtain⟨t',u1,u2,q1,q2,q3,q4,q5⟩:=L.its j v ev;subst q1;have ac:t'=t:=et;subst ac;have hj:j<acc.size:=(Array.getElem?_eq_some_iff.mp ev).1;obtain⟨x,S⟩:∃ x,xs[j]?=some x:=⟨_,yb (by lk)⟩;obtain⟨y,U⟩:∃ y,ys[j]?=some y:=⟨_,yb (by lk)⟩;obtain⟨a1,aa,ao⟩:=rv.get S;obtain⟨a2,ab,ap⟩:=Z.get U;have b1:a1=u1:=by rw[List.getElem?_toArray,aa] at q4;cases q4;rfl
    have b2:a2=u2:=by rw[List.getElem?_toArray,ab] at q5;cases q5;rfl
    subst b1 b2;show⟨ev,q2,x,y,S,U,a1,a2,ao,ap,q3⟩
   have nd:g.Nodup:=by
    show Yy.mpr fun i j hi hj ai e=>?_;have M:=(J i g[i] (yb hi)).1;have N:=(J j g[j] (yb hj)).1;rw[e] at M;show absurd (L.nd i j _ M N) (yL ai)
   have mem:∀ t∈g,h1.objs.size+1<=t:=fun t ht=>by
    obtain⟨j,e⟩:=Xn.mp ht;show(J j t e).2.1
   obtain⟨G,g1,g2⟩:=qgt H1 g xs ys nd (by lk) (by lk)
   have old:∀ q,q<w.heap.objs.size->upd G h1.objs.size (.lst (g.map V.ref)) q=H1 q:=fun q hq=>by
    rw[qf (yL (by lk))];show g2 q fun z=>by have:=mem q z;lk
   have tl:∀ t∈g,t≠h1.objs.size:=fun t ht=>by have:=mem t ht;show Yn this
   show⟨.ref _,_,A.laidM (t':=w.toks) (H':=upd G h1.objs.size (.lst (g.map V.ref))) (fun b u e=>?_) old fun b u hb e=>?_,rfl,q _ g _ ⟨fun b o e=>?_,A.hok.fresh (by show(w.heap.objs.size:Nat)<=h1.objs.size;lk),qb,n,fun j t e=>?_⟩⟩
   .have B:∀ m:Nat,w.heap.objs.size<=m->b<m:=fun m F=>yj (yQ e) F;show L.kp b u (B _ (by lk)) (yL (B _ (by lk))) (yL (B _ (by lk))) (yL (B _ (by lk))) (yL (B _ (by lk))) (yL (B _ (by lk))) (hk b u e)
   .by_cases hl:b=h1.objs.size
    .subst hl;rw[qb] at e;cases e;show⟨by rw[ya,n,YF];lk,acc.toList,c,qar (by rw[ya,n];show O.symm) fun j y u M N=>?_,by rw[Array.toArray_toList];show L.ls⟩;rw[yd] at M;obtain⟨t,et,E⟩:=yn.mp M;subst E;rw[xB,(J j t et).1] at N;cases N;rfl
    .rw [qf hl] at e;by_cases F:b∈g
     .obtain⟨j,ej⟩:=Xn.mp F;obtain⟨_,_,x,y,ex,E,u1,u2,r1,r2,ep⟩:=J j b ej;rw[g1 j b x y ej ex E] at e;cases e;show⟨by show 2<=sizeLine;decide,[u1,u2],.cons r1 (.cons r2 .nil),⟨_,ep,rfl,_,rfl⟩⟩
     .rw [g2 b F,A.hok.fresh hb] at e;cases e
   .rw [old b (XX fun z=>by rw[A.hok.fresh z] at e;cases e)];show e
   .obtain⟨_,N,x,y,ex,E,_⟩:=J j t e;show⟨A.hok.fresh (by lk),x,y,ex,E,?_⟩;rw[qf (tl t (ye e))];show g1 j t x y e ex E
section
variable{X:Cx}
def qhl(K:yg):List V->Hp->VK->Prop:=fun xs H Q=>∃(p:Addr) (bs:List Bool),xs=[.ref p]/\SqL K H p (bs.map V.bl)/\Q (.bl (bs.any id)) H
theorem call_any(hc:X.calm=true):qab X (.builtin "any") (qhl X.K):=by
 intro f s D H xs us Q I r h;obtain⟨p,bs,rfl,x,q⟩:=h;obtain⟨u,rfl,B⟩:=qbY r;cases B;obtain⟨z,C,pl,hz⟩:=I.list x;have e:=qcd C;subst e;have n:X.A.in1.handled=none:=I.ok.hd hc;show call_any_walk (XS pl.isList ?_)
 have g:p≠s.heap.objs.size:=by
  obtain⟨o,w,_⟩:=pl.isList;show yL (yQ w)
 show⟨s.heap.objs.size,_,_,_,_,_,fun i=>(bs[i]?).getD false,rfl,Walks.list n s.heap.objs.size p g (bs.map Value.bool).toArray,⟨⟨_,yZ _ rfl,rfl,rfl⟩,pl.isList.at fun o e=>yv _ e⟩,fun i v s Q E hv y=>?_,fun h' tk t=>?_⟩
 .have a:(bs.map Value.bool)[i]?=some v:=by simpa using hv
  rw[yd] at a
  cases e:bs[i]? with
  | none=>rw[e] at a;cases a
  | some b =>
   rw[e] at a;cases a;have c:Q ((bs[i]?).getD false) s:=y;rw[e] at c;show yw c
 .have e:((List.range (bs.map Value.bool).toArray.size).any fun i=>(bs[i]?).getD false)=bs.any id:=by
   rw[yx,ya]
   have j:∀ bs:List Bool,((List.range bs.length).any fun i=>(bs[i]?).getD false)=bs.any id:=by
    intro bs
    induction bs with
    | nil=>rfl
    | cons b r ih =>
     rw[yF,List.range_succ_eq_map,Xl,Kc,Xl,<- ih];rfl
   show j bs
  rw[e];show⟨.bl _,H,?_,rfl,q⟩;have l:Inv X f D H { s with heap:=s.heap.push { cls:=.type "list_iterator",data:=.fields #[.ref p,.int 0 0] } }:=I.kept (t':=s.toks) fun b o e=>yv _ e;have d:=I.fpOk (b:=s.heap.objs.size) (yh _) (I.hok.fresh (yh _));show l.turned (it:=s.heap.objs.size) (h':=h') (t':=tk) (fun b o m e=>t b o (by simpa using m) e) d.1 d.2.1 d.2.2.2.1 d.2.2.2.2.1 d.2.2.2.2.2
end
theorem k_any{X:Cx}{K:yg}(a:X.K=K)(hc:X.calm=true):qab X (.builtin "any") (qhl K):=by subst a;show call_any hc
end L2
namespace L2
open PySem PySem.Spec PySem.W PyProof.Rows
variable{h h':Heap}{n:Nat}{u v:Value}{vs:List Value}{α:Type}
def KTo{α:Type}(n:Nat)(P:α->Prop):KasT α->Prop
 | .ret a=>P a
 | .ask i j k=>i=j+1/\i<n/\KTo n P (k false)
theorem KTo.bind{b:Type}{P:α->Prop}{R:b->Prop}{f:α->KasT b}:∀{t:KasT α},KTo n P t->(∀ a,P a->KTo n R (f a))->KTo n R (t.bind f)
 | .ret a,h,g=>g a h
 | .ask i j k,h,g=>⟨h.1,h.2.1,KTo.bind h.2.2 g⟩
theorem KTo.wp{P:α->Prop}{b:Nat->Nat->(Bool->Shared->Prop)->Shared->Prop}{Q:α->Shared->Prop}{s:Shared}(hc:∀ i j C,i=j+1->i<n->C false s->b i j C s)(c:∀ a,P a->Q a s):∀{t:KasT α},KTo n P t->t.kasWp b Q s
 | .ret a,h=>c a h
 | .ask i j k,h=>hc i j _ h.1 h.2.1 (KTo.wp hc c h.2.2)
theorem rng_getD{i:Nat}(h:i<n):(List.range n).toArray.getD i 0=i:=by simp[Array.getD,h]
theorem qeI:∀ f k,1<=k->k+f<=n->KTo n (fun m=>m=k+f) (kas_asc (List.range n).toArray f k)
 | 0,k,_,_=>rfl
 | f+1,k,h1,h2=>by
  unfold kas_asc;rw[rng_getD (show k<n by lk),rng_getD (show k-1<n by lk)];show⟨by lk,by lk,?_⟩
  (try dsimp only)
  rw[yA (by decide)];have e:k+(f+1)=k+1+f:=by lk
  rw[e];show qeI f (k+1) (by lk) (by lk)
theorem kto_sort(h:2<=n):KTo n (fun p=>p=(List.range n).toArray) (kas_sort n):=by
 unfold kas_sort;show KTo.bind (P:=fun r=>r=(n,(List.range n).toArray)) ?_ fun r e=>?_
 .unfold kas_count;show(qeI (n-1) 1 (by lk) (by lk)).bind fun m e=>?_;have e:m=n:=by rw[e];lk
  rw[yG (by rw[e];show xx n),e];show rfl
 .rw [e];rw[yA (by show ¬ n<n;lk)];show rfl
def Tw(h:Heap)(v:Value):Prop:=∃(t:Addr) (o:Obj) (x y:Int) (a ty:Tok) (k:Nat),v=.ref t/\h.get? t=some o/\o.cls=.type "tuple"/\o.data=.seq #[.int x a,.int y ty] k
theorem Tw.keep(w:Tw h v)(k:∀ b o,(∀ x n,o≠seqObj "list" x n)->h.get? b=some o->h'.get? b=some o):Tw h' v:=by
 obtain⟨t,o,x,y,a,ty,m,e,g,c,d⟩:=w;show⟨t,o,x,y,a,ty,m,e,k _ _ (fun z n q=>by rw[q] at c;injection c with c;show absurd c (by decide)) g,c,d⟩
def TwX(h:Heap)(v:Value)(x:Int):Prop:=∃(t:Addr) (o:Obj) (y:Int) (a ty:Tok) (k:Nat),v=.ref t/\h.get? t=some o/\o.cls=.type "tuple"/\o.data=.seq #[.int x a,.int y ty] k
theorem TwX.keep{x:Int}(w:TwX h v x)(k:∀ b o,(∀ x n,o≠seqObj "list" x n)->h.get? b=some o->h'.get? b=some o):TwX h' v x:=by
 obtain⟨t,o,y,a,ty,m,e,g,c,d⟩:=w;show⟨t,o,y,a,ty,m,e,k _ _ (fun z n q=>by rw[q] at c;injection c with c;show absurd c (by decide)) g,c,d⟩
def As(h:Heap)(u v:Value):Prop:=∃ x a:Int,x<a/\TwX h u x/\TwX h v a
theorem As.keep(w:As h u v)(k:∀ b o,(∀ x n,o≠seqObj "list" x n)->h.get? b=some o->h'.get? b=some o):As h' u v:=by
 obtain⟨x,c,l,a,b⟩:=w;show⟨x,c,l,a.keep k,b.keep k⟩
def AsL(h:Heap)(vs:List Value):Prop:=∀ j,j+1<vs.length->As h (vs.getD j Value.none) (vs.getD (j+1) Value.none)
section
variable{prog:Program}{w:World}{A:Around}{E:Value->Shared->Prop}{s:Shared}
theorem as_lt{Q:Bool->Shared->Prop}(a:As s.heap v u)(h:Q false s):wpAny (model prog w) A (keyLt' (tuples' true) u v) Q E s:=by
 obtain⟨j,x,b,⟨t',m,p,f,i,k',rfl,g',l,d'⟩,⟨t,o,y,n,ty,k,rfl,g,c,d⟩⟩:=a;show kat_lt g d g' d' ?_;show kat_cons (wpAny_eqBool_int (kat_go (fun e=>?_) fun _=>kat_no ?_))
 .exfalso;simp at e;lk
 .show oneLt_int ?_;have e:decide (x<j)=false:=yl (by lk);rw[e];show h
theorem qeJ:∀{vs:List Value},(∀ v∈vs,Tw h v)->∃ fs,KatTups h vs fs/\fs.length=vs.length/\∀ f∈fs,∃ x t,f=.int x t
 | [],_=>⟨[],.nil,rfl,fun _ z=>by cases z⟩
 | v::vs,hv=>by
  obtain⟨fs,h1,b,e⟩:=qeJ fun v i=>hv v (yz _ i);obtain⟨t,o,x,y,a,ty,k,rfl,g,c,d⟩:=hv v yO;show⟨.int x a::fs,.cons g c d rfl h1,by rw[yF,yF,b],fun f hf=>?_⟩;rcases yy.mp hf with rfl | hf
  .show⟨x,a,rfl⟩
  .show e f hf
theorem pick_eq(vs:List Value):((List.range vs.length).toArray.toList.map fun i=>vs.getD i Value.none)=vs:=by
 apply kM
 .simp
 .intro i h1 a;simp[a]
theorem sort_tups{a:Addr}{P:PySem.Fin->Shared->Prop}(g:s.heap.get? a=some (seqObj "list" vs.toArray n))(hv:∀ v∈vs,Tw s.heap v)(y:AsL s.heap vs)(F:vs.length<64)
  (h:∀ out:Array Value,out.toList=vs->P (.done (.ret .none)) { s with heap:=sortedHeap s.heap a vs out }) :
  wpAny (model prog w) A (Builtin.«list.sort» ⟨[.ref a],[]⟩) P E s:=by
 rw[list_sort_plain];have J:=y;have y:a<s.heap.objs.size:=yQ g;show yr (listItems_at g rfl ?_);show yr (listUpdate_at g rfl ?_);obtain⟨D,m⟩:∃ D,(s.heap.update a (Obj.mapSeq fun _=>#[])).get? a=some (seqObj "list" #[] D):=⟨_,get?_update_seq g (fun _=>#[])⟩;show yr (seqEpoch_at m rfl ?_);show yr (wpAny_newTuple ?_);show yr (wpAny_newList ?_);show Yv ?_
 have c:(((s.heap.update a (Obj.mapSeq fun _=>#[])).push (seqObj "tuple" vs.toArray 0)).push (seqObj "list" #[] 0)).get? a=some (seqObj "list" #[] D):=by
  rw[xN _ _ _ (by rw[size_push',kN];show yL (XR y)),xN _ _ _ (by rw[kN];show yL y)];show m
 have U:=xX s.heap a (Obj.mapSeq fun _=>(#[]:Array Value));have N:∀ v∈vs,Tw (((s.heap.update a (Obj.mapSeq fun _=>#[])).push (seqObj "tuple" vs.toArray 0)).push (seqObj "list" #[] 0)) v:=fun v hm=>(hv v hm).keep fun b o O e=>yv _ (yv _ ((U.2 b (fun z=>by rw[z,g] at e;show O _ _ (ym e).symm)).trans e));have H:AsL (((s.heap.update a (Obj.mapSeq fun _=>#[])).push (seqObj "tuple" vs.toArray 0)).push (seqObj "list" #[] 0)) vs:=fun j L=>(J j L).keep fun b o O e=>yv _ (yv _ ((U.2 b (fun z=>by rw[z,g] at e;show O _ _ (ym e).symm)).trans e));show wpAny (model prog w) A _ P E { s with heap:=((s.heap.update a (Obj.mapSeq fun _=>#[])).push (seqObj "tuple" vs.toArray 0)).push (seqObj "list" #[] 0) };dsimp only;have hsz:vs.toArray.size=vs.length:=by simp
 have l:=h;by_cases u:vs.toArray.size<2
 .rw [yG u,yG u];show yr (yw ?_);rw[StateT.run_pure];show yr (yw ?_);dsimp only;show yr (seqEpoch_at c rfl ?_);show yr (listUpdate_at c rfl ?_ (hsz2:=by rw[Array.size_map];show(pairsOf vs).size<=_;rw[pairsOf_size,YF];lk));simp only[bne_self_eq_false,YM,Xa];show yw (l _ ?_);show((pairsOf vs).map (·.2)).toList=vs
  have:((pairsOf vs).map (·.2)).toList=vs:=by
   rw[Array.toList_map];show(vs.toArray.zip vs.toArray).toList.map Prod.snd=vs;simp[List.map_snd_zip]
  show this
 .rw [yA u,yA u];have S:2<=vs.length:=by lk
  obtain⟨fs,k1,k2,k3⟩:=qeJ N;show yr (kat_kind (T:=.type "int") k1 (by lk) (fun f K=>?_) (by room) ?_)
  .obtain⟨x,t,rfl⟩:=k3 f K;show Looks.of_pure rfl
  show yr (Y3 (kat_run (ks:=vs) (Q:=fun d r=>r={ s with heap:=((s.heap.update a (Obj.mapSeq fun _=>#[])).push (seqObj "tuple" vs.toArray 0)).push (seqObj "list" #[] 0) }/\∃ p:Array Nat,p=(List.range vs.length).toArray/\arrOf d=p.map (kas_item (vs.toArray.zip vs.toArray))/\failedOf d=none)
   (G:=fun p r=>r={ s with heap:=((s.heap.update a (Obj.mapSeq fun _=>#[])).push (seqObj "tuple" vs.toArray 0)).push (seqObj "list" #[] 0) }/\p=(List.range vs.length).toArray) rfl S F (fun p' d r a1 W X R=>⟨R.1,p',R.2,W,X⟩) ((kto_sort S).wp (fun i j C Z L Y=>?_) fun p B=>⟨rfl,B⟩)) ?_ fun _ _ e=>e)
  .subst Z;show as_lt (H j L) Y
  rintro⟨⟨⟩,d⟩ r ⟨rfl,p,B,I,K⟩;dsimp only;have q:=kat_snds rfl I;have M:p.toList.length=vs.length:=by rw[B];simp
  show yr (seqEpoch_at c rfl ?_);rw[q];show yr (listUpdate_at c rfl ?_ (hsz2:=by rw[yx,ya,M,YF];lk));rw[K];simp only[bne_self_eq_false,YM,Xa];show yw (l _ (by rw[B];show pick_eq vs))
theorem sorted_tups{l:Addr}{Q:Value->Shared->Prop}(hl:s.heap.IsList l vs.toArray)(hv:∀ v∈vs,Tw s.heap v)(i:AsL s.heap vs)(d:vs.length<64)
  (h:∀ out:Array Value,out.toList=vs->Q (.ref (s.heap.objs.size+1)) { s with heap:=sortedAll s.heap vs out }) :
  wpAny (model prog w) A (call (.builtin "sorted") [.ref l]) Q E s:=by
 show Calls.call_function_entry kind_sorted plain_sorted entry_sorted (args_sorted1 _) ?_;unfold Builtin.«sorted»;show yr (m:=checkCount "sorted" 1 1 _) (yw ?_);show yr (collect_list hl ?_);show yr (wpAny_newList ?_)
 have hsz:((s.heap.push (seqObj "list" #[] 0)).update s.heap.objs.size (Obj.mapSeq (·++vs.toArray))).objs.size=s.heap.objs.size+1:=by
  rw[kN,size_push']
 have c:(((s.heap.push (seqObj "list" #[] 0)).update s.heap.objs.size (Obj.mapSeq (·++vs.toArray))).push (seqObj "list" vs.toArray 0)).get? (s.heap.objs.size+1)=some (seqObj "list" vs.toArray 0):=by
  rw[<- hsz];show yZ _ rfl
 have g:∀ v∈vs,Tw (((s.heap.push (seqObj "list" #[] 0)).update s.heap.objs.size (Obj.mapSeq (·++vs.toArray))).push (seqObj "list" vs.toArray 0)) v:=fun v p=>(hv v p).keep fun b o _ e=>by
  have a:b<s.heap.objs.size:=yQ e;rw[xN _ _ _ (by rw[hsz];show yL (XR a)),Xy _ _ _ _ (yL a),xN _ _ _ (yL a)];show e
 have f:AsL (((s.heap.push (seqObj "list" #[] 0)).update s.heap.objs.size (Obj.mapSeq (·++vs.toArray))).push (seqObj "list" vs.toArray 0)) vs:=fun j n=>(i j n).keep fun b o _ e=>by
  have a:b<s.heap.objs.size:=yQ e;rw[xN _ _ _ (by rw[hsz];show yL (XR a)),Xy _ _ _ _ (yL a),xN _ _ _ (yL a)];show e
 show wpAny _ _ _ _ _ { s with heap:=((s.heap.push (seqObj "list" #[] 0)).update s.heap.objs.size (Obj.mapSeq (·++vs.toArray))).push (seqObj "list" vs.toArray 0) };rw[hsz];show yr (Yv (Xw slot_list_sort ⟨_,c,rfl⟩ entry_list_sort (sort_tups c g f d fun out q=>⟨_,rfl,?_⟩) (args_list_sort _)));show yw ⟨_,rfl,h out q⟩
end
theorem qcW:∀{a:LX} {us:List Value},Vals (a.map V.ref) us->us=a.map Value.ref
 | [],_,.nil=>rfl
 | t::a,_,.cons r h=>by
  have e:_=Value.ref t:=r;rw[e,qcW h];rfl
theorem qcX:∀(a:LX),Vals (a.map V.ref) (a.map Value.ref)
 | []=>.nil
 | t::a=>.cons rfl (qcX a)
section
variable{X:Cx}{K:yg}
def rSortR:List V->Hp->VK->Prop:=fun xs H Q=>∃(p:Addr) (c:LX) (d:List (Int×Int)),xs=[.ref p]/\H p=some (.lst (c.map V.ref))/\c.length<64/\c.length=d.length/\(∀(j:Nat) (t:Addr) (q:Int×Int),c[j]?=some t->d[j]?=some q->H t=some (.tup [.int q.1,.int q.2]))/\(∀ j a b,d[j]?=some a->d[j+1]?=some b->a.1<b.1)/\∀(l:Addr),H l=none->Q (.ref l) (upd H l (.lst (c.map V.ref)))
theorem k_sortR:qab X (.builtin "sorted") rSortR:=by
 intro G s σ H xs us Q I r h;obtain⟨p,f,l,rfl,T,A,E,F,U,q⟩:=h;obtain⟨u,rfl,W⟩:=qbY r;cases W;obtain⟨C,Y,pl,hz⟩:=I.list (SqL.of T);have K:=qcW Y;subst K
 have J:∀{t:Addr} {a:Int×Int},H t=some (.tup [.int a.1,.int a.2])->TwX s.heap (.ref t) a.1:=fun{t a} e=>by
  obtain⟨_,C,rt,o,g,c,n,d⟩:=I.hok _ _ e
  cases rt with
  | cons r1 rt =>
   cases rt with
   | cons r2 rt =>
    cases rt;obtain⟨D,rfl⟩:=r1;obtain⟨ty,rfl⟩:=r2;show⟨t,o,_,D,ty,n,rfl,g,c,d⟩
 have m:∀ j,j<f.length->∃ t a,(f.map Value.ref).getD j Value.none=.ref t/\l[j]?=some a/\TwX s.heap (.ref t) a.1:=fun j i=>by
  have h1:f[j]?=some f[j]:=yb i;have z:l[j]?=some l[j]:=yb (by lk);show⟨f[j],l[j],by simp[i],z,J (F j _ _ h1 z)⟩
 show sorted_tups (vs:=f.map Value.ref) pl.isList (fun v hv=>?_) (fun j i=>?_) (by rw[ya];show A) fun out x=>?_
 .obtain⟨t,B,rfl⟩:=yE.mp hv;obtain⟨j,i⟩:=yf B;have S:=(yc.mp i).1;have z:l[j]?=some l[j]:=yb (by lk);obtain⟨t',o,y,D,ty,n,e,g,c,d⟩:=J (F j _ _ i z);show⟨t',o,_,y,D,ty,n,e,g,c,d⟩
 .rw [ya] at i;obtain⟨t,a,L,N,Z⟩:=m j (by lk);obtain⟨t',b,M,O,w2⟩:=m (j+1) i;rw[L,M];show⟨a.1,b.1,U j a b N O,Z,w2⟩
 .obtain⟨e,P⟩:=PyProof.Rows.sortedAll_at s.heap (f.map Value.ref) out;have R:H (s.heap.objs.size+1)=none:=I.hok.fresh (xL _)
  have new:ObjOk X.prog X.w (upd H (s.heap.objs.size+1) (.lst (f.map V.ref))) (PyProof.Rows.sortedAll s.heap (f.map Value.ref) out) (s.heap.objs.size+1) (.lst (f.map V.ref)):=by
   show⟨?_,out.toList,e,by rw[x];show qcX f,?_⟩
   .rw [ya];show yW (qi (by lk))
   .rw [P]
  show⟨.ref (s.heap.objs.size+1),_,I.laid (t':=s.toks) (fun b o e=>PyProof.Rows.sortedAll_old e) (xL _) new,rfl,q _ R⟩
end
end L2
namespace K42
open PySem L2 PyProof.Rows
variable{A:Str->Str->Prop}{E:XK}{G H H' H0 H1 H2:Hp}{K:W.Frag}{Pd:Str->Prop}{S S' S1 S2:FS}{a b c s t u v y z:Str}{ab:Str×Str}{cw dx p x:Addr}{d lo ol:V}{dn l l' l1 l2 m1 m2 rs rv rw rz ss wt:LS}{first i j m n r ri:Nat}{g:Str->Option Str}{gs ms ns:LN}{kps ps qs tps:LP}{kvs:List (Key×V)}{o:HO}{o':Option (LS)}{q q':Nat×Nat}{ts us:LX}{xs ys:List V}{α β:Type}{σ:L2.St}
theorem Sr(H:Hp):L2.Same H H:=L2.Same.refl H
theorem jV{k:Nat}{A:Around}(a:Room k A):A.units+100<cLine:=by have:=a.un;lk
theorem hmR{k:Nat}{A:Around}(a:Room k A)(h:j<=k:=by decide):Room j A:=a.mono h
local macro_rules | `(tactic| walk_at "w")=>`(tactic| first
 | with_reducible refine vSeq ?_ | with_reducible refine vAsg ?_ | with_reducible refine vAsgS ?_ | with_reducible refine vIfS ?_ | with_reducible refine vRet ?_ | with_reducible refine vNext ?_ | with_reducible refine vC ?_
 | ((with_reducible refine' vVar ?hv ?_);(case hv=>rfl)) | with_reducible refine vOp ?_ | with_reducible refine vChain ?_ | with_reducible refine vNil ?_ | with_reducible refine vCons ?_ | with_reducible refine vCB ?_ | with_reducible refine vCall ?_
 | with_reducible refine vLst ?_ | with_reducible refine vTup ?_ | with_reducible refine vTest ?_ | with_reducible refine vB ?_ | with_reducible refine vNot ?_ | with_reducible refine vAnd ?_ | with_reducible refine vOr ?_
 | with_reducible refine vAndV ?_ | with_reducible refine vOrV ?_ | with_reducible refine vNotV ?_ | with_reducible refine vYes ?_ | with_reducible refine vLeI ?_ | with_reducible refine vLeS ?_ | with_reducible refine vIsB ?_ | with_reducible refine vAddI ?_ | with_reducible refine vSl ?_ | with_reducible refine vNoPart ?_ | with_reducible refine vPart ?_ | with_reducible refine vExI ?_ | with_reducible refine vBM ?_ | with_reducible refine vBM0 ?_ | with_reducible refine vComp ?_ | with_reducible refine vFor ?_ | with_reducible refine vRng1 ?_ | with_reducible refine vAny ?_ | with_reducible refine vGN ?_ | with_reducible refine vI0 ?_ | with_reducible refine vEqI ?_ | with_reducible refine vEqB ?_ | with_reducible refine vEx ?_ | with_reducible refine vDrop ?_ | with_reducible refine vRetN ?_ | with_reducible refine vFldU ?_ | with_reducible refine vSFldU ?_ | with_reducible refine vXMake ?_ | with_reducible refine vMake ?_ | with_reducible refine vMeth ?_ | with_reducible refine vVinit ?_ | with_reducible refine vCallS ?_ | with_reducible refine vRaise ?_ | with_reducible refine vMethS ?_ | with_reducible refine vMakeS ?_ | with_reducible refine vUn ?_ | with_reducible refine vIf ?_ | with_reducible refine vRev ?_ | with_reducible refine vEnum ?_ | with_reducible refine vDGet2 ?_ | with_reducible refine vStep ?_)
local macro_rules | `(tactic| walk_at "v")=>`(tactic| repeat walk_at "w")
local macro_rules | `(tactic| ext)=>`(tactic| walk_at "v")
local macro_rules | `(tactic| apply $e)=>`(tactic| (ext;refine $e))
noncomputable def fAtt:LS:=["board","partners","rows","parents","bases","rings","waiting","longer"]
structure Txt(K:W.Frag)(mg:Str->Option Value)(cc:Nat->Addr)(cw:Addr):Prop where
 b_len:mg "len"=none
 b_int:mg "int"=none
 b_enumerate:mg "enumerate"=none
 b_all:mg "all"=none
 b_max:mg "max"=none
 b_min:mg "min"=none
 b_isinstance:mg "isinstance"=none
 b_bool:mg "bool"=none
 b_str:mg "str"=none
 b_range:mg "range"=none
 b_list:mg "list"=none
 b_tuple:mg "tuple"=none
 g_LONGEST_NAME:∃ tk,mg "LONGEST_NAME"=some (.int 6 tk)
 g_MOST_PLACES:∃ tk,mg "MOST_PLACES"=some (.int 14 tk)
 g_MOST_TIES:∃ tk,mg "MOST_TIES"=some (.int 30 tk)
 wcl:Cls K cw
 wn:NoAttr K cw "numbers"
 wo:NoAttr K cw "order"
 wr:NoAttr K cw "near"
 m_Web:mg "Web"=some (.ref cw)
 m_Forest:mg "Forest"=some (.ref (cc 9))
 fcl:Cls K (cc 9)
 fa:∀ a∈fAtt,NoAttr K (cc 9) a
 b_zip:mg "zip"=none
 b_sum:mg "sum"=none
 b_any:mg "any"=none
 b_sorted:mg "sorted"=none
theorem u4:FnScope ["thing"] ["thing"] (qh qah):=fS
theorem u5:FnScope ["bits","number"] ["bits","number"] (qh qaZ):=fS
theorem uW:FnScope ["numbers","thing"] ["numbers","thing"] (qh qat):=fS
theorem KS:FnScope ["numbers","thing","both"] ["numbers","thing"] (qh jx):=fS
theorem qG{l:Addr}(a:L2.Same H H1)(hl:H1 l=none):L2.Same H (upd H1 l o):=fun c u e=>by
 have q:=a c u e;rw[qf (qJ q hl)];show q
theorem qaE{l:Addr}(a:L2.Same H H1)(hl:H l=none):L2.Same H (upd H1 l o):=fun c u e=>by
 rw[qf (qJ e hl)];show a c u e
noncomputable def sg(c:Nat):Bool:=if (!decide (([c]:LN)<("a":Str).cps.toList))=true then !decide (("z":Str).cps.toList < [c]) else false
noncomputable def zR(x:Str):Bool:=if 1<=x.length/\x.length<=6 then x.cps.toList.all sg else false
theorem nameS_at{x:Str}(h:zR x=true):1<=x.length/\x.length<=6/\x.cps.toList.all sg=true:=by
 unfold zR at h;split at h
 .rename_i z;show⟨z.1,z.2,h⟩
 .cases h
structure All2{α β:Type}(R:α->β->Prop)(l:List α)(m:List β):Prop where
 len:l.length=m.length
 at_:∀(k:Nat) a b,l[k]?=some a->m[k]?=some b->R a b
theorem All2.nil{R:α->β->Prop}:All2 R [] []:=⟨rfl,fun k a b h=>by simp at h⟩
theorem All2.mono{R S:α->β->Prop}{l:List α}{m:List β}(h:All2 R l m)(f:∀ a b,R a b->S a b):All2 S l m:=⟨h.len,fun k a b x y=>f a b (h.at_ k a b x y)⟩
theorem All2.snoc{R:α->β->Prop}{l:List α}{m:List β}{x:α}{y:β}(h:All2 R l m)(r:R x y):All2 R (l++[x]) (m++[y]):=by
 show⟨by rw[yt,yt,h.len];rfl,fun k a b c d=>?_⟩;by_cases e:k<l.length
 .rw [Yg e] at c;rw[Yg (by rw[<- h.len];show e)] at d;show h.at_ k a b c d
 .rw [yP (by lk)] at c;rw[yP (by rw[<- h.len];lk)] at d
  have f:k-l.length=0:=by
   have:=(yc.mp c).1;simp at this;lk
  rw[<- h.len] at d;rw[f] at c d;cases c;cases d;show r
theorem All2.mem{R:α->β->Prop}{l:List α}{m:List β}(h:All2 R l m){x:α}(c:x∈l):∃ y∈m,R x y:=by
 obtain⟨k,b,e⟩:=kc c;have a:k<m.length:=by rw[<- h.len];show b
 show⟨m[k],Y2 a,h.at_ k x m[k] (by rw[yb b,e]) (yb a)⟩
def PL(H:Hp)(l:Addr)(ts:LX)(tps:LP):Prop:=H l=some (.lst (ts.map V.ref))/\All2 (fun t ab=>H t=some (.tup [.str ab.1,.str ab.2])) ts tps
theorem PL.same{l:Addr}(h:PL H l ts tps)(s:L2.Same H H'):PL H' l ts tps:=⟨s _ _ h.1,h.2.mono fun _ _ z=>s _ _ z⟩
section
variable{P:Program}{w:World}{K:W.Frag}{mg:Str->Option Value}{base:Heap}{cc:Nat->Addr}{cw:Addr}{f:Addr}{fd:FuncData}
inductive spName(vs:List V)(H:Hp)(Q:VK)(E:XK):Prop|mk (x:Str) (_:vs=[.str x]) (_:zR x=true) (_:∀ H',L2.Same H H'->Q (.bl true) H')
theorem ok_name(F:Fun K "is_name" "is_name" qah f fd)(T:Txt K mg cc cw):FnOk P w K mg base CX0 1 f fd ["thing"] spName:=by
 show F.ok u4 fun _ _ _ _ H vs Q E t h=>?_
 .obtain⟨x,rfl,n,q⟩:=h;obtain⟨u,r,s⟩:=nameS_at n;show⟨_,(qc (qP (PW.pt (zK (qZ (qU (qr (qaX (K:=K) rfl) rfl T.b_isinstance YO (qa (pv 0) (qa (jz (v:=.ty "str") rfl T.b_str boot_str rfl) qd))))) (zE (qZ (pt_chain qgG qgG qg (qr (jY (K:=K) rfl) rfl T.b_len YQ (qa (pv 0) qd)) (qcg rfl T.g_LONGEST_NAME)))))) (qe (qm js)) qy)
 (qe (qm (qr (qfV (K:=K) rfl rfl) rfl T.b_all boot_all (qa (q9 (sc:=qh qah) (XN:=["thing"]) ["sign"] 1 [] rfl rfl rfl (by room) rfl (by room)
  (qS (K:=K) rfl (pv 0)) (fun _ _ _ _=>(qo (i:=0) (show(["sign"]:LS).Nodup by room) rfl (yJ rfl))) qR
  (fun _ _ _ _=>jU)
  (fun _ _ _ _=>(pe_chain qgG qgG qaM (pv 0) qaM))) qd))))),?_⟩
  apply qch (.inl (.str x)) rfl (zP K "str" (by simp) "str" (by simp)) ?_;apply yq ?_;apply vLenS (yi r (by decide)) ?_;apply qL (fun h1=>?_) fun h1=>absurd (yB (by lk)) h1;apply qL (fun g=>by simp only[xq,Xe] at g;lk) fun g=>?_;apply comp_str (fun i ys H'=>H'=H/\ys=((x.cps.toList.take i).map sg).map V.bl) ⟨rfl,by simp⟩ (fun i c ys H' hc e=>?_) fun ys H' e=>?_
  .obtain⟨rfl,rfl⟩:=e;apply zZ ?_;ext
   have hl:(List.map V.bl (List.map sg (List.take i x.cps.toList))).length<sizeLine:=by
    rw[ya,ya,yR];show qi (yi (kG _ _) (by simpa [Str.length] using(show x.length<=1000 by lk)))
   have a:∀ b,b=sg c->(List.map V.bl (List.map sg (List.take i x.cps.toList)))++[V.bl b]=List.map V.bl (List.map sg (List.take (i+1) x.cps.toList)):=by
    intro b m;have j:x.cps.toList[i]?=some c:=by simpa using hc
    rw[m,yM,j];simp
   show qL (fun d=>?_) fun d=>⟨hl,rfl,a _ (by unfold sg;rw[yA d])⟩;apply⟨hl,rfl,a _ (by unfold sg;rw[yG d])⟩
  .obtain⟨rfl,rfl⟩:=e;have p:x.cps.toList.take x.cps.size=x.cps.toList:=by rw[<- xU,yS]
   rw[p];show⟨?_,fun l hl=>?_⟩
   .rw [ya,ya];show yW (qi (by simpa [Str.length] using(show x.length<=1000 by lk)))
   .ext;show⟨l,x.cps.toList.map sg,rfl,SqL.of qb,?_⟩;have z:=q _ (qG (Sr H') (o:=.lst ((x.cps.toList.map sg).map V.bl)) hl);rw[kS];rw[<- s] at z;show z
inductive spBit(vs:List V)(H:Hp)(Q:VK)(E:XK):Prop|mk (b n:Int) (_:vs=[.int b,.int n]) (_:0<=n) (_:Q (.bl (decide (Builtin.bitAnd (b / 2 ^ n.toNat) 1=1))) H)
theorem ok_bit(F:Fun K "has_bit" "has_bit" qaZ f fd):FnOk P w K mg base CX0 1 f fd ["bits","number"] spBit:=by
 show F.ok u5 fun _ _ _ _ H vs Q E c h=>?_
 .obtain⟨b,n,rfl,a,q⟩:=h;have d:=jV c;show⟨_,(qe (qm (jD (j6 (K:=K) rfl d) (qw zk (qw qbh (pv 0) (pv 1)) qg) qg (qA _)))),?_⟩;apply vI a ?_;apply .inl (.inl (.inl ⟨rfl,rfl,?_⟩));show q
noncomputable def qbX:LS->Nat->List (Key×V)
 | [],_=>[]
 | s::r,i=>(.inr s,.int i)::qbX r (i+1)
theorem qcY(y:Str):∀(ss:LS) (i:Nat),qbX (ss++[y]) i=qbX ss i++[(.inr y,.int (i+ss.length:Nat))]
 | [],i=>rfl
 | s::r,i=>by
  show(_::qbX (r++[y]) (i+1))=_::(qbX r (i+1)++_);rw[qcY y r (i+1)];have:i+1+r.length=i+(s::r).length:=by simp;lk
  rw[this]
theorem zS:∀(ss:LS) (i:Nat),(qbX ss i).length=ss.length
 | [],_=>rfl
 | _::r,i=>congrArg (· + 1) (zS r (i+1))
theorem qbP:∀{ss:LS} {i:Nat},y∉ss->jR (qbX ss i) (.inr y:Key)=none
 | [],_,_=>rfl
 | s::r,i,h=>by
  have h1:¬ s=y:=fun e=>h (by rw[e];show yO);show jR ((.inr s,V.int i)::qbX r (i+1)) _=none;rw[qY (p:=((.inr s:Key),V.int i)) (fun e=>h1 (xk e))];show qbP fun m=>h (yz _ m)
theorem jZ:∀{ss:LS} {i:Nat},y∈ss->∃ j,j<ss.length/\ss[j]?=some y/\jR (qbX ss i) (.inr y:Key)=some (.int (i+j:Nat))
 | [],_,h=>by cases h
 | s::r,i,h=>by
  by_cases e:s=y
  .subst e;show⟨0,by simp,rfl,jh (p:=((.inr s:Key),V.int i)) rfl⟩
  .rcases yy.mp h with z | z
   .show absurd z.symm e
   .obtain⟨j,h1,b,c⟩:=jZ (i:=i+1) z;show⟨j+1,by simp;lk,by simpa using b,?_⟩;show jR ((.inr s,V.int i)::qbX r (i+1)) _=_;rw[qY (p:=((.inr s:Key),V.int i)) (fun a=>e (xk a)),c];have:i+1+j=i+(j+1):=by lk
    rw[this]
theorem qbQ(y:Str)(ss:LS)(i:Nat):(jR (qbX ss i) (.inr y:Key)).isSome=decide (y∈ss):=by
 by_cases h:y∈ss
 .obtain⟨j,_,_,e⟩:=jZ (i:=i) h;rw[e,yB h];rfl
 .rw [qbP h,yl h];rfl
inductive spPlace(vs:List V)(H:Hp)(Q:VK)(E:XK):Prop|mk (d:Addr) (ss:LS) (x:Str) (_:vs=[.ref d,.str x]) (_:H d=some (.dK (qbX ss 0))) (_:zR x=true) (_:x∈ss) (_:∀ H',L2.Same H H'->Q (.bl true) H')
theorem ok_place(F:Fun K "is_place" "is_place" qat f fd)(j:DefOk P w K mg base CX0 1 "is_name" ["thing"] spName):FnOk P w K mg base CX0 2 f fd ["numbers","thing"] spPlace:=by
 show F.ok uW fun _ _ _ _ H vs Q E a h=>?_
 .obtain⟨d,ss,x,rfl,c,e,i,q⟩:=h;have g:=jV a;show⟨_,(qe (qm (qb1 (qp j (hmR a) qB (qa (pv 1) qd)) (qb0 (jD (zQ (K:=K) rfl g) (pv 1) (pv 0) (by with_unfolding_all rfl)))))),?_⟩;apply⟨x,rfl,e,fun H1 b=>?_⟩;apply zZ ?_;apply .inr (.inl ⟨d,_,rfl,DGet.k (k:=Sum.inr x) (b d _ c),?_⟩);rw[qbQ,yB i];show q H1 b
inductive spTwo(vs:List V)(H:Hp)(Q:VK)(E:XK):Prop|mk (d t:Addr) (ss:LS) (a b:Str) (_:vs=[.ref d,.ref t]) (_:H d=some (.dK (qbX ss 0))) (_:H t=some (.tup [.str a,.str b])) (_:zR a=true) (_:zR b=true) (_:a∈ss) (_:b∈ss) (_:a≠b) (_:∀ H',L2.Same H H'->Q (.bl true) H')
theorem ok_two(F:Fun K "are_two_places" "are_two_places" jx f fd)(T:Txt K mg cc cw)(o:DefOk P w K mg base CX0 2 "is_place" ["numbers","thing"] spPlace):FnOk P w K mg base CX0 3 f fd ["numbers","thing"] spTwo:=by
 show F.ok KS fun _ _ _ _ H vs Q E m h=>?_
 .obtain⟨d,t,ss,a,b,rfl,p,c,u,x,r,s,l,q⟩:=h;have g:=jV m;show⟨_,(qc (qP (PW.pt (zK (qZ (qU (qr (qaX (K:=K) rfl) rfl T.b_isinstance YO (qa (pv 1) (qa (jz (v:=.ty "tuple") rfl T.b_tuple XY rfl) qd))))) (zE (qj (qaJ (K:=K) rfl g) (qr (jY (K:=K) rfl) rfl T.b_len YQ (qa (pv 1) qd)) qg (qA _))))) (qe (qm js)) qy)
 (qc (qk (i:=2) KS.nd rfl (yJ rfl) (qb1 (qp o (hmR m) qB (qa (pv 0) (qa (qu (qv (K:=K) rfl g) (pv 1) qg (fun _ _=>rfl)) qd))) (qb0 (qp o (hmR m) qB (qa (pv 0) (qa (qu (qv (K:=K) rfl g) (pv 1) qg (fun _ _=>rfl)) qd))))))
 (qe (qm (qb1 (pv 2) (qb0 (jD (qaJ (K:=K) rfl g) (qu (qv (K:=K) rfl g) (pv 1) qg (fun _ _=>rfl)) (qu (qv (K:=K) rfl g) (pv 1) qg (fun _ _=>rfl)) (qA _)))))))),?_⟩
  apply qch (.inl (.tup c)) rfl (zP K "tuple" (by simp) "tuple" (by simp)) ?_;apply yq ?_;apply qfk c ?_;apply .inl ⟨rfl,rfl,?_⟩;apply yq ?_;apply .inl (zO c rfl ?_);apply⟨d,ss,a,rfl,p,u,r,fun H1 j=>?_⟩;apply zZ ?_;apply .inl (zO (j _ _ c) rfl ?_);apply⟨d,ss,b,rfl,j _ _ p,x,s,fun H2 n=>?_⟩;apply zZ ?_;apply .inl (zO (n _ _ (j _ _ c)) rfl ?_);apply .inl (zO (n _ _ (j _ _ c)) rfl ?_);show .inl ⟨rfl,rfl,?_⟩;have z:=q H2 (j.trans n);have e:(if true=true then !eqV (V.str a) (V.str b) else eqV (V.str a) (V.str b))=true:=by simp[eqV,l]
  rw[e];show z
theorem KQ:FnScope ["names","numbers","name"] ["names"] (qh zu):=fS
theorem qai(m j:Nat):decide (Builtin.bitAnd ((m:Int) / 2 ^ (j:Int).toNat) 1=1)=m.testBit j:=by
 rw[XT,Nat.testBit_eq_decide_div_mod_eq];rw[y0];have e:(m:Int) / 2 ^ j=((m / 2 ^ j:Nat):Int):=by rw[Int.natCast_ediv,xG];rfl
 rw[e]
 congr 1
 apply propext;lk
theorem qdR(m j:Nat):Builtin.bitOr (m:Int) (1*2 ^ (j:Int).toNat)=((m ||| 2 ^ j:Nat):Int):=by
 have e:(1*2 ^ (j:Int).toNat:Int)=((2 ^ j:Nat):Int):=by rw[y0,kA,xG];rfl
 rw[e];generalize 2 ^ j=k;have c:Builtin.bitNot (m:Int)=-(m:Int)-1:=rfl;have d:Builtin.bitNot (k:Int)=-(k:Int)-1:=rfl;unfold Builtin.bitOr Builtin.bitAnd;rw[c,d,yl (by lk),yl (by lk)];dsimp only;unfold Builtin.bitNot;have a:(-(-(m:Int)-1)-1).toNat=m:=by lk
 have b:(-(-(k:Int)-1)-1).toNat=k:=by lk
 rw[a,b];lk
def But(x:Addr)(H H':Hp):Prop:=∀ b o,b≠x->H b=some o->H' b=some o
theorem But.refl(x:Addr)(H:Hp):But x H H:=fun _ _ _ e=>e
theorem But.same(a:But x H H1)(b:L2.Same H1 H2):But x H H2:=fun c o n e=>b c o (a c o n e)
theorem But.put(a:But x H H1):But x H (upd H1 x o):=fun c u n e=>by rw[qf n];show a c u n e
theorem But.new{l:Addr}(a:But x H H1)(hl:H1 l=none):But x H (upd H1 l o):=a.same (qG (Sr H1) hl)
theorem qdl{a q:Addr}{Q:VK}(h:H a=some (.lst xs))(b:H q=some (.tup [.ty "list",.ty "tuple"]))(k:Q (.bl true) H):qfy K [.ref a,.ref q] H Q:=
 ⟨_,q,_,_,[.type "list",.type "tuple"],true,rfl,.inl (.lst h),b,rfl,rfl,k⟩
inductive spNums(vs:List V)(H:Hp)(Q:VK)(E:XK):Prop|mk (a:Addr) (ss:LS) (_:vs=[.ref a]) (_:H a=some (.lst (ss.map V.str))) (_:ss.length<=14) (_:ss.Nodup) (_:(∀ s∈ss,zR s=true)) (_:∀ d H',L2.Same H H'->H d=none->H' d=some (.dK (qbX ss 0))->Q (.ref d) H')
theorem ok_nums(F:Fun K "numbers_of" "numbers_of" zu f fd)(T:Txt K mg cc cw)(R:DefOk P w K mg base CX0 1 "is_name" ["thing"] spName) :
  FnOk P w K mg base CX0 4 f fd ["names"] spNums:=by
 show F.ok KQ fun _ _ _ _ H vs Q E D h=>?_
 .obtain⟨a,ss,rfl,l,L,p,r,q⟩:=h;have G:=jV D;show⟨_,(qc (qP (qZ (qU (qr (qdh (K:=K) rfl) rfl T.b_isinstance YO (qa (pv 0) (qa (jO (qa (jz (v:=.ty "list") rfl T.b_list xp rfl) (qa (jz (v:=.ty "tuple") rfl T.b_tuple XY rfl) qd))) qd))))) (qe jo) qy)
 (qc (qP (qj qfh (qr (jY (K:=K) rfl) rfl T.b_len YQ (qa (pv 0) qd)) (qcg rfl T.g_MOST_PLACES) (qA _)) (qe jo) qy)
 (qc (qk (i:=1) KQ.nd rfl (yJ rfl) j7)
 (qc (jj yY rfl (qS (K:=K) rfl (pv 0)) (qo (i:=2) KQ.nd rfl (yJ rfl))
 (qc (qP (qZ (qU (qp R (hmR D) qB (qa (pv 2) qd)))) (qe jo) qy)
 (qc (qP (qj (zQ (K:=K) rfl G) (pv 2) (pv 1) (by with_unfolding_all rfl)) (qe jo) qy)
 (qe (jC (qr (jY (K:=K) rfl) rfl T.b_len YQ (qa (pv 1) qd)) (jN (pv 1) (pv 2) (jP G)))))))
 (qe (qm (pv 1))))))),?_⟩
  apply⟨by show 2<=sizeLine;decide,fun g M=>?_⟩;have m:=qG (Sr H) (o:=.tup [.ty "list",.ty "tuple"]) M;apply qdl (m _ _ l) qb ?_;apply yq ?_;apply qac (m _ _ l) ?_;rw[ya];apply qL (fun h=>by have:=yk h;lk) fun _=>?_;ext;intro d B;have J:=qG m (o:=.dK []) B;have c:H d=none:=m.free B;apply .inl ⟨⟨_,SqL.of (J _ _ l)⟩,jc (K:=K) (fun i σ H'=>∃ u,σ=[some (.ref a),some (.ref d),u]/\L2.Same H H'/\H' d=some (.dK (qbX (ss.take i) 0))) ⟨none,rfl,J,qb⟩ (fun i σ H' _ e=>by obtain⟨_,_,z,_⟩:=e;show SqL.of (z _ _ l)) (fun i y σ H' I e=>?_) fun σ H' e=>?_⟩
  .obtain⟨u,rfl,t,b⟩:=e;rw[yd] at I;obtain⟨x,s,rfl⟩:=yn.mp I;have N:i<ss.length:=(yc.mp s).1;have j:ss.take (i+1)=ss.take i++[x]:=by rw[yM,s];rfl
   have C:x∉ss.take i:=fun z=>by
    have A:(ss.take (i+1)).Nodup:=p.sublist (XI _ _);rw[j] at A;show(Yk.mp A).2.2 _ z x (by simp) rfl
   apply⟨x,rfl,r x (ye s),fun H1 n=>?_⟩;have O:=t.trans n;apply yq ?_;apply .inr (.inl ⟨d,_,rfl,DGet.k (k:=Sum.inr x) (n _ _ b),?_⟩);rw[qbQ,yl C];apply yq ?_;apply .inr ⟨_,n _ _ b,?_⟩;apply .inr ⟨d,_,rfl,DPut.k (k:=Sum.inr x) (n _ _ b) (qi (by rw[zS,yR];lk)),?_⟩;show⟨_,rfl,qaE O c,?_⟩;rw[qb,qaR _ (qbP C),j,qcY,zS];simp only[xO]
  .obtain⟨u,rfl,t,b⟩:=e;ext;rw[ya,yS] at b;show q d H' t c b
theorem uX:FnScope ["self","names","ties"] ["self","names","ties"] (qh qau):=fS
theorem KF:FnScope ["numbers","ties","near","tie","one","other"] ["numbers","ties"] (qh qa0):=fS
def qbR(ss:LS)(ns:LN)(c:LP):Prop:=ns.length=ss.length/\(∀ a,ns.getD a 0<2 ^ ss.length)/\∀ a b s t,ss[a]?=some s->ss[b]?=some t->(ns.getD a 0).testBit b=decide ((s,t)∈c\/(t,s)∈c)
theorem qz(h:ss.Nodup){a b:Nat}(i:ss[a]?=some s)(j:ss[b]?=some s):a=b:=by
 have e:=Yy.mp h;obtain⟨f,c⟩:=yc.mp i;obtain⟨g,d⟩:=yc.mp j;rcases Xp a b with q | q | q
 .show absurd (c.trans d.symm) (e a b f g q)
 .show q
 .show absurd (d.trans c.symm) (e b a g f q)
theorem bits_zero:qbR ss (List.replicate ss.length 0) []:=by
 have z:∀ a,(List.replicate ss.length 0).getD a 0=0:=fun a=>by
  simp only[List.getD,x0];split<;>rfl
 show⟨by simp,fun a=>by rw[z a];show Xk _,fun a b s t c d=>?_⟩;rw[z a];simp
theorem zv{v:Nat}(h:i<ns.length):(ns.set i v).getD j 0=if i=j then v else ns.getD j 0:=by
 simp only[List.getD,List.getElem?_set];by_cases e:i=j
 .subst e;simp[h]
 .simp [e]
theorem bits_step{f:LP}(D:qbR ss ns f)(o:ss.Nodup)(d:ss[i]?=some s)(l:ss[j]?=some t)(n:s≠t) :
  qbR ss ((ns.set i (ns.getD i 0 ||| 2 ^ j)).set j (ns.getD j 0 ||| 2 ^ i)) (f++[(s,t)]):=by
 obtain⟨hl,m,h⟩:=D;have B:i<ns.length:=by rw[hl];show(yc.mp d).1
 have C:j<ns.length:=by rw[hl];show(yc.mp l).1
 have F:i≠j:=fun e=>by rw[e,l] at d;cases d;show n rfl
 have y:i<ss.length:=(yc.mp d).1;have A:j<ss.length:=(yc.mp l).1;show⟨by simp[hl],fun a=>?_,fun a b u v g c=>?_⟩
 .rw [zv (by simpa using C),zv B];split
  .show xr (m _) (xm (by decide) y)
  .split
   .show xr (m _) (xm (by decide) A)
   .show m _
 rw[zv (by simpa using C),zv B];have p:=h a b u v g c;have E:∀ P Q:Prop,(P↔Q)->∀ [Decidable P] [Decidable Q],decide P=decide Q:=fun P Q e=>by intro _ _;show Yq.mpr e
 by_cases w:j=a
 .subst w;rw[l] at g;cases g;rw[yG rfl,YT,p,YH];by_cases r:i=b
  .subst r;rw[d] at c;cases c;simp
  .have vs:v≠s:=fun e=>by subst e;show r (qz o d c)
   simp only[r,Ka,kC];apply Yq.mpr;simp only[yC,yH,XA];constructor
   .rintro (z | z)
    .show .inl (.inl z)
    .show .inr (.inl z)
   .rintro ((z | ⟨z,_⟩) | (z | ⟨z,_⟩))
    .show .inl z
    .show absurd z.symm n
    .show .inr z
    .show absurd z vs
 .rw [yA w];by_cases q:i=a
  .subst q;rw[d] at g;cases g;rw[yG rfl,YT,p,YH];by_cases x:j=b
   .subst x;rw[l] at c;cases c;simp
   .have H:v≠t:=fun e=>by subst e;show x (qz o l c)
    simp only[x,Ka,kC];apply Yq.mpr;simp only[yC,yH,XA];constructor
    .rintro (z | z)
     .show .inl (.inl z)
     .show .inr (.inl z)
    .rintro ((z | ⟨_,z⟩) | (z | ⟨_,z⟩))
     .show .inl z
     .show absurd z H
     .show .inr z
     .show absurd z n
  .rw [yA q,p];have us:u≠s:=fun e=>by subst e;show q (qz o d g)
   have G:u≠t:=fun e=>by subst e;show w (qz o l g)
   apply Yq.mpr;simp only[yC,yH,XA];constructor
   .rintro (z | z)
    .show .inl (.inl z)
    .show .inr (.inl z)
   .rintro ((z | ⟨z,_⟩) | (z | ⟨_,z⟩))
    .show .inl z
    .show absurd z us
    .show .inr z
    .show absurd z G
noncomputable def zq(ns:LN):List V:=ns.map fun(n:Nat)=>.int (n:Int)
theorem jm(h:i<ns.length):(zq ns)[i]?=some (.int (ns.getD i 0:Nat)):=by
 unfold zq;rw[yd,yb h];simp[List.getD,h]
theorem qbn(ns:LN)(i m:Nat):(zq ns).set i (.int m)=zq (ns.set i m):=by
 unfold zq;rw[List.map_set]
theorem qcZ(k:Nat):(List.replicate k [V.int 0]).flatten=zq (List.replicate k 0):=by
 induction k with
 | zero=>rfl
 | succ k ih=>rw[xu,xo,ih];rfl
theorem qci(h:j<n):ixN n (j:Int)=some j:=by
 unfold ixN;rw[yG (by lk),yG (by lk)];rfl
def UN(x y:Str×Str):Prop:=x≠y/\x≠(y.2,y.1)
structure TGo(ss:LS)(tps:LP):Prop where
 few:tps.length<=30
 inn:∀ ab∈tps,ab.1∈ss/\ab.2∈ss/\ab.1≠ab.2
 un:tps.Pairwise UN
structure WOk(ss:LS)(ns:LN):Prop where
 len:ns.length=ss.length
 few:ss.length<=14
 nd:ss.Nodup
 lt:∀ a,ns.getD a 0<2 ^ ss.length
 nm:∀ s∈ss,zR s=true
inductive WebAt(cw:Addr)(H:Hp)(x:Addr)(ss:LS)(ns:LN):Prop|mk (dx d ol n:_) (_:H x=some (.ins cw dx (qI "near" (.ref n) (qI "order" (.ref ol) (qI "numbers" (.ref d) []))))) (_:H d=some (.dK (qbX ss 0))) (_:H ol=some (.lst (ss.map V.str))) (_:H n=some (.lst (zq ns))) (_:WOk ss ns)
theorem WebAt.same(h:WebAt cw H x ss ns)(s:L2.Same H H'):WebAt cw H' x ss ns:=by
 obtain⟨dx,d,ol,n,h1,a,b,c,e⟩:=h;show⟨dx,d,ol,n,s _ _ h1,s _ _ a,s _ _ b,s _ _ c,e⟩
inductive WebN(H0:Hp)(cw:Addr)(H:Hp)(x:Addr)(ss:LS)(ns:LN):Prop|mk (dx d ol n:_) (_:H x=some (.ins cw dx (qI "near" (.ref n) (qI "order" (.ref ol) (qI "numbers" (.ref d) []))))) (_:H d=some (.dK (qbX ss 0))) (_:H ol=some (.lst (ss.map V.str))) (_:H n=some (.lst (zq ns))) (_:WOk ss ns) (_:H0 d=none) (_:H0 ol=none) (_:H0 n=none)
theorem WebN.web(h:WebN H0 cw H x ss ns):WebAt cw H x ss ns:=by
 obtain⟨dx,d,ol,n,h1,a,b,c,e,_⟩:=h;show⟨dx,d,ol,n,h1,a,b,c,e⟩
inductive WebP(A:Addr->Prop)(cw:Addr)(H:Hp)(x:Addr)(ss:LS)(ns:LN):Prop|mk (dx d ol n:_) (_:H x=some (.ins cw dx (qI "near" (.ref n) (qI "order" (.ref ol) (qI "numbers" (.ref d) []))))) (_:H d=some (.dK (qbX ss 0))) (_:H ol=some (.lst (ss.map V.str))) (_:H n=some (.lst (zq ns))) (_:WOk ss ns) (_:¬ A x) (_:¬ A d) (_:¬ A ol) (_:¬ A n)
theorem WebP.web{A:Addr->Prop}(h:WebP A cw H x ss ns):WebAt cw H x ss ns:=by
 obtain⟨dx,d,ol,n,h1,a,b,c,e,_⟩:=h;show⟨dx,d,ol,n,h1,a,b,c,e⟩
theorem WebP.keep{A:Addr->Prop}(h:WebP A cw H x ss ns)(k:∀ b o,¬ A b->H b=some o->H' b=some o):WebP A cw H' x ss ns:=by
 obtain⟨dx,d,ol,n,h1,g,i,j,l,a,c,e,f⟩:=h;show⟨dx,d,ol,n,k _ _ a h1,k _ _ c g,k _ _ e i,k _ _ f j,l,a,c,e,f⟩
theorem WebN.apart{A:Addr->Prop}(h:WebN H0 cw H x ss ns)(m:¬ A x)(b:∀ a,A a->H0 a≠none):WebP A cw H x ss ns:=by
 obtain⟨dx,d,ol,n,h1,g,i,j,l,c,e,f⟩:=h;show⟨dx,d,ol,n,h1,g,i,j,l,m,fun z=>b _ z c,fun z=>b _ z e,fun z=>b _ z f⟩
theorem qc0:∀(ss:LS) (i:Nat),(qbX ss i).map (fun a=>kV a.1)=ss.map V.str
 | [],_=>rfl
 | s::r,i=>congrArg (V.str s::·) (qc0 r (i+1))
inductive spNear(vs:List V)(H:Hp)(Q:VK)(E:XK):Prop|mk (d l:Addr) (ss:LS) (ts:LX) (tps:LP) (_:vs=[.ref d,.ref l]) (_:H d=some (.dK (qbX ss 0))) (_:ss.length<=14) (_:ss.Nodup) (_:(∀ s∈ss,zR s=true)) (_:PL H l ts tps) (_:TGo ss tps) (_:∀ n ns H',L2.Same H H'->H n=none->H' n=some (.lst (zq ns))->qbR ss ns tps->Q (.ref n) H')
theorem ok_near(F:Fun K "near_of" "near_of" qa0 f fd)(T:Txt K mg cc cw)(KD:DefOk P w K mg base CX0 3 "are_two_places" ["numbers","thing"] spTwo)(Kr:DefOk P w K mg base CX0 1 "has_bit" ["bits","number"] spBit) :
  FnOk P w K mg base CX0 4 f fd ["numbers","ties"] spNear:=by
 show F.ok KF fun _ _ _ _ H vs Q E hr h=>?_
 .obtain⟨d,l,ss,ts,tps,rfl,W,ah,ad,G,⟨hl,D⟩,X,q⟩:=h;have j:=jV hr;have L:=D.len;have few:=X.few;show⟨_,(qc (qP (qZ (qU (qr (qdh (K:=K) rfl) rfl T.b_isinstance YO (qa (pv 1) (qa (jO (qa (jz (v:=.ty "list") rfl T.b_list xp rfl) (qa (jz (v:=.ty "tuple") rfl T.b_tuple XY rfl) qd))) qd))))) (qe jo) qy)
 (qc (qP (qj qfh (qr (jY (K:=K) rfl) rfl T.b_len YQ (qa (pv 1) qd)) (qcg rfl T.g_MOST_TIES) (qA _)) (qe jo) qy)
 (qc (qk (i:=2) KF.nd rfl (yJ rfl) (qw qeA (qW (qa qg qd)) (qr (jY (K:=K) rfl) rfl T.b_len YQ (qa (pv 0) qd))))
 (qc (jj yY rfl (qS (K:=K) rfl (pv 1)) (qo (i:=3) KF.nd rfl (yJ rfl))
 (qc (qP (qZ (qU (qp KD (hmR hr) qB (qa (pv 0) (qa (pv 3) qd))))) (qe jo) qy)
 (qc (qk (i:=4) KF.nd rfl (yJ rfl) (qu (qv (K:=K) rfl j) (pv 0) (qu (qv (K:=K) rfl j) (pv 3) qg (fun _ _=>rfl)) (fun _ _=>rfl)))
 (qc (qk (i:=5) KF.nd rfl (yJ rfl) (qu (qv (K:=K) rfl j) (pv 0) (qu (qv (K:=K) rfl j) (pv 3) qg (fun _ _=>rfl)) (fun _ _=>rfl)))
 (qc (qP (qU (qp Kr (hmR hr) qB (qa (qu (qv (K:=K) rfl j) (pv 2) (pv 4) (fun _ _=>rfl)) (qa (pv 5) qd)))) (qe jo) qy)
 (qc (jC (qw qdc (qu (qv (K:=K) rfl j) (pv 2) (pv 4) (fun _ _=>rfl)) (qw zY qg (pv 5))) (jN (pv 2) (pv 4) (jP j)))
 (qe (jC (qw qdc (qu (qv (K:=K) rfl j) (pv 2) (pv 5) (fun _ _=>rfl)) (qw zY qg (pv 4))) (jN (pv 2) (pv 5) (jP j))))))))))
 (qe (qm (pv 2))))))),?_⟩
  apply⟨by show 2<=sizeLine;decide,fun g Y=>?_⟩;have s0:=qG (Sr H) (o:=.tup [.ty "list",.ty "tuple"]) Y;apply qdl (s0 _ _ hl) qb ?_;apply yq ?_;apply qac (s0 _ _ hl) ?_;rw[ya];apply qL (fun h=>by have:=yk h;lk) fun _=>?_;apply⟨by show 1<=sizeLine;decide,fun z af=>?_⟩;have s1:=qG s0 (o:=.lst [.int 0]) af;apply .inr ⟨_,s1 _ _ W,?_⟩;ext;rw[zS];show⟨z,_,_,rfl,rfl,qb,by lk,by lk,by show 1*_<=sizeLine;rw[y0];show yW (qi (by lk)),fun n hn=>?_⟩;rw[y0,qcZ];have s2:=qG s1 (o:=.lst (zq (List.replicate ss.length 0))) hn;have n0:H n=none:=s1.free hn;apply .inl ⟨⟨_,SqL.of (s2 _ _ hl)⟩,jc (K:=K) (fun i σ H'=>∃ v3 v4 v5 ns,σ=[some (.ref d),some (.ref l),some (.ref n),v3,v4,v5]/\L2.Same H H'/\H' n=some (.lst (zq ns))/\qbR ss ns (tps.take i))
   ⟨none,none,none,_,rfl,s2,qb,bits_zero⟩ (fun i σ H' _ I=>by obtain⟨_,_,_,_,_,z,_⟩:=I;show SqL.of (z _ _ hl)) (fun i y σ H' hy I=>?_) fun σ H' I=>?_⟩
  .obtain⟨v3,v4,v5,ns,rfl,N,A,a⟩:=I;rw[yd] at hy;obtain⟨t,ht,rfl⟩:=yn.mp hy;have Z:i<ts.length:=(yc.mp ht).1;obtain⟨⟨p,r⟩,u⟩:∃ ab,tps[i]?=some ab:=⟨_,yb (by rw[<- L];show Z)⟩;have U:=D.at_ i t _ ht u;obtain⟨m1,m2,c⟩:=X.inn _ (ye u);dsimp only at U m1 m2 c;have J:tps.take (i+1)=tps.take i++[(p,r)]:=by rw[yM,u];rfl
   have ae:¬ ((p,r)∈tps.take i\/(r,p)∈tps.take i):=fun z=>by
    have h3:(tps.take (i+1)).Pairwise UN:=X.un.sublist (XI _ _);rw[J] at h3;have h4:=(List.pairwise_append.mp h3).2.2;rcases z with z | z
    .show(h4 _ z (p,r) (by simp)).1 rfl
    .show(h4 _ z (p,r) (by simp)).2 rfl
   obtain⟨C,aa,b,R⟩:=jZ (i:=0) m1;obtain⟨B,ac,s,S⟩:=jZ (i:=0) m2;rw[xO] at R S;have ag:C≠B:=fun e=>by rw[e,s] at b;cases b;show c rfl
   have m:C<ns.length:=by rw[a.1];show aa
   have M:B<ns.length:=by rw[a.1];show ac
   apply⟨d,t,ss,p,r,rfl,N _ _ W,N _ _ U,G _ m1,G _ m2,m1,m2,c,fun H1 t1=>?_⟩;have O:=N.trans t1;have x:=t1 _ _ A;apply yq ?_;apply .inl (zO (O _ _ U) rfl ?_);show .inr ⟨d,.int C,rfl,?_,?_⟩
   .have:=DGet.k (k:=Sum.inr p) (O _ _ W);rw[R] at this;show this
   apply .inl (zO (O _ _ U) rfl ?_);show .inr ⟨d,.int B,rfl,?_,?_⟩
   .have:=DGet.k (k:=Sum.inr r) (O _ _ W);rw[S] at this;show this
   apply .inl (zN x (qt (jm m)) ?_);apply⟨_,_,rfl,by lk,?_⟩;rw[qai,a.2.2 C B p r b s,yl ae];apply yq ?_;apply .inl (zN x (qt (jm m)) ?_);apply vI ⟨by lk,by lk,by decide⟩ ?_;ext;rw[qdR];show .inl (qeh x (qci (by unfold zq;rw[ya];show m)) ?_);rw[qbn];ext;have e2:(ns.set C (ns.getD C 0 ||| 2 ^ B)).getD B 0=ns.getD B 0:=by rw[zv m,yA ag]
   show .inl (zN qb (qt (jm (by simpa using M))) ?_);apply vI ⟨by lk,by lk,by decide⟩ ?_;ext;rw[qdR,e2];show .inl (qeh qb (qci (by unfold zq;rw[ya];simpa using M)) ?_);rw[qbn];show⟨_,_,_,_,rfl,qaE (qaE O n0) n0,qb,?_⟩;rw[J];show bits_step a ad b s c
  .obtain⟨v3,v4,v5,ns,rfl,N,A,a⟩:=I;ext;rw[ya,L,yS] at a;show q n _ H' N n0 A a
inductive spWeb(cw:Addr)(vs:List V)(H:Hp)(Q:VK)(E:XK):Prop|mk (x dx a l:Addr) (ss:LS) (ts:LX) (tps:LP) (_:vs=[.ref x,.ref a,.ref l]) (_:H x=some (.ins cw dx [])) (_:H a=some (.lst (ss.map V.str))) (_:ss.length<=14) (_:ss.Nodup) (_:(∀ s∈ss,zR s=true)) (_:PL H l ts tps) (_:TGo ss tps) (_:∀ ns H',But x H H'->WebN H cw H' x ss ns->qbR ss ns tps->Q .non H')
theorem PL.but{C l:Addr}{fs:List (Str×V)}(h:PL H l ts tps)(a:H x=some (.ins C dx fs))(b:But x H H'):PL H' l ts tps:=
 ⟨b _ _ (zJ h.1 a (by intro z;cases z)) h.1,h.2.mono fun t ab e=>b _ _ (zJ e a (by intro z;cases z)) e⟩
theorem ok_web(F:Fun K "__init__" "Web.__init__" qau f fd)(T:Txt K mg cc cw)(uQ:DefOk P w K mg base CX0 4 "numbers_of" ["names"] spNums)(X:DefOk P w K mg base CX0 4 "near_of" ["numbers","ties"] spNear) :
  FnOk P w K mg base CX0 5 f fd ["self","names","ties"] (spWeb cw):=by
 show F.ok uX fun _ _ _ _ H vs Q E N h=>?_
 .obtain⟨x,dx,a,l,ss,ts,tps,rfl,U,ha,j,nd,p,M,hg,q⟩:=h;have hu:=jV N;show⟨_,(qc (j5 (K:=K) rfl (pv 0) (qp uQ (hmR N) qB (qa (pv 1) qd)) rfl)
 (qc (j5 (K:=K) rfl (pv 0) (zl (qaK (K:=K) rfl rfl) rfl T.b_list xp (qa (qC (K:=K) rfl (pv 0) rfl) qd)) rfl)
 (qe (j5 (K:=K) rfl (pv 0) (qp X (hmR N) qB (qa (qC (K:=K) rfl (pv 0) rfl) (qa (pv 2) qd))) rfl)))),?_⟩
  apply⟨a,ss,rfl,ha,j,nd,p,fun d H1 W L R=>?_⟩;have Y:=(But.refl x H).same W;have A:=W _ _ U;have r:d≠x:=zJ R A (by intro z;cases z);apply .inl ⟨x,cw,dx,[],rfl,A,T.wcl,T.wn,by decide,?_⟩;have J:=Y.put (o:=.ins cw dx (qI "numbers" (.ref d) []));have g:upd H1 x (.ins cw dx (qI "numbers" (.ref d) [])) d=some (.dK (qbX ss 0)):=by rw[qf r];show R
  have c:upd H1 x (.ins cw dx (qI "numbers" (.ref d) [])) x=_:=qb;generalize upd H1 x (.ins cw dx (qI "numbers" (.ref d) []))=H2 at J g c;apply .inl ⟨x,cw,dx,_,.ref d,rfl,c,T.wcl,T.wn,by rw[qD,yG rfl],?_⟩;apply .inr (.inl ⟨d,_,rfl,g,fun ol s=>?_⟩);rw[qc0];have G:ol≠x:=fun e=>by subst e;rw[c] at s;cases s
  have Z:=J.new (o:=.lst (ss.map V.str)) s
  have y:H ol=none:=by
   cases q':H ol with
   | none=>rfl
   | some o'=>rw[J ol o' G q'] at s;cases s
  have O:d≠ol:=qJ g s;apply .inl ⟨x,cw,dx,_,rfl,(by rw[qf G.symm];show c),T.wcl,T.wo,Yp (jA _ _ _) (by decide),?_⟩;have D:=Z.put (o:=.ins cw dx (qI "order" (.ref ol) (qI "numbers" (.ref d) [])));have m:upd (upd H2 ol (.lst (ss.map V.str))) x (.ins cw dx (qI "order" (.ref ol) (qI "numbers" (.ref d) []))) d=some (.dK (qbX ss 0)):=by rw[qf r,qf O];show g
  have v:upd (upd H2 ol (.lst (ss.map V.str))) x (.ins cw dx (qI "order" (.ref ol) (qI "numbers" (.ref d) []))) ol=some (.lst (ss.map V.str)):=by rw[qf G];show qb
  have i:upd (upd H2 ol (.lst (ss.map V.str))) x (.ins cw dx (qI "order" (.ref ol) (qI "numbers" (.ref d) []))) x=_:=qb;generalize upd (upd H2 ol (.lst (ss.map V.str))) x (.ins cw dx (qI "order" (.ref ol) (qI "numbers" (.ref d) [])))=H3 at D m v i;apply .inl ⟨x,cw,dx,_,.ref d,rfl,i,T.wcl,T.wn,by rw[qD,yA (by room),qD,yG rfl],?_⟩;apply⟨d,l,ss,ts,tps,rfl,m,j,nd,p,M.but U D,hg,fun n ns H4 I t S b=>?_⟩;have B:=I _ _ i;have C:n≠x:=zJ S B (by intro z;cases z);apply .inl ⟨x,cw,dx,_,rfl,B,T.wcl,T.wr,Yp (jA _ _ _) (Yp (Nat.succ_le_succ (jA _ _ _)) (by decide)),?_⟩
  have u:H n=none:=by
   cases q':H n with
   | none=>rfl
   | some o'=>rw[D n o' C q'] at t;cases t
  show q ns _ (D.same I).put ⟨dx,d,ol,n,qb,by rw[qf r];show I _ _ m,by rw[qf G];show I _ _ v,by rw[qf C];show S,⟨b.1,j,nd,b.2.1,p⟩,L,y,u⟩ b
theorem uH:FnScope ["self"] ["self"] (qh zw):=fS
theorem ul:FnScope ["self","thing"] ["self","thing"] (qh jF):=fS
theorem um:FnScope ["self","place"] ["self","place"] (qh jG):=fS
theorem uI:FnScope ["self","place"] ["self","place"] (qh zx):=fS
theorem uc:FnScope ["self","place"] ["self","place"] (qh jp):=fS
theorem uh:FnScope ["self","one","other","bits"] ["self","one","other"] (qh qav):=fS
theorem ur:FnScope ["self","bits"] ["self","bits"] (qh jw):=fS
theorem jS{n:V}:(qI "near" n (qI "order" ol (qI "numbers" d []))).lookup ("numbers":Str)=some d:=by
 rw[qD,yA (by room),qD,yA (by room),qD,yG rfl]
theorem qa1{n:V}:(qI "near" n (qI "order" ol (qI "numbers" d []))).lookup ("order":Str)=some ol:=by
 rw[qD,yA (by room),qD,yG rfl]
theorem qeK{n:V}:(qI "near" n (qI "order" ol (qI "numbers" d []))).lookup ("near":Str)=some n:=by
 rw[qD,yG rfl]
theorem j0{f:Str}{n:V}(h:(f=="near"||f=="order"||f=="numbers")=false):(qI "near" n (qI "order" ol (qI "numbers" d []))).lookup f=none:=by
 simp only[Bool.or_eq_false_iff,YV] at h;rw[qD,yA h.1.1,qD,yA h.1.2,qD,yA h.2];rfl
noncomputable def inB:LS->Nat->Nat->LS
 | [],_,_=>[]
 | s::r,i,b=>if b.testBit i=true then s::inB r (i+1) b else inB r (i+1) b
theorem qbo(y:Str)(b:Nat):∀(l:LS) (k:Nat),inB (l++[y]) k b=inB l k b++(if b.testBit (k+l.length)=true then [y] else [])
 | [],k=>by simp[inB]
 | s::r,k=>by
  have a:=qbo y b r (k+1);have e:k+1+r.length=k+(s::r).length:=by simp;lk
  rw[e] at a;simp only[kI,inB,a];split<;>simp
theorem qbc(b:Nat):∀(l:LS) (k:Nat),(inB l k b).length<=l.length
 | [],_=>yh _
 | s::r,k=>by
  have a:=qbc b r (k+1);simp only[inB];split
  .simp;lk
  .simp;lk
inductive spHas(cw:Addr)(vs:List V)(H:Hp)(Q:VK)(E:XK):Prop|mk (x:Addr) (ss:LS) (ns:LN) (y:Str) (_:vs=[.ref x,.str y]) (_:WebAt cw H x ss ns) (_:y∈ss) (_:∀ H',L2.Same H H'->Q (.bl true) H')
inductive spNum(cw:Addr)(vs:List V)(H:Hp)(Q:VK)(E:XK):Prop|mk (x:Addr) (ss:LS) (ns:LN) (y:Str) (j:Nat) (_:vs=[.ref x,.str y]) (_:WebAt cw H x ss ns) (_:ss[j]?=some y) (_:∀ H',L2.Same H H'->Q (.int (j:Nat)) H')
inductive spBB(cw:Addr)(vs:List V)(H:Hp)(Q:VK)(E:XK):Prop|mk (x:Addr) (ss:LS) (ns:LN) (y:Str) (j:Nat) (_:vs=[.ref x,.str y]) (_:WebAt cw H x ss ns) (_:ss[j]?=some y) (_:∀ H',L2.Same H H'->Q (.int (ns.getD j 0:Nat)) H')
inductive spNIn(cw:Addr)(vs:List V)(H:Hp)(Q:VK)(E:XK):Prop|mk (x:Addr) (ss:LS) (ns:LN) (b:Nat) (_:vs=[.ref x,.int b]) (_:WebAt cw H x ss ns) (_:∀ l,H l=none->Q (.ref l) (upd H l (.lst ((inB ss 0 b).map V.str))))
inductive spBs(cw:Addr)(vs:List V)(H:Hp)(Q:VK)(E:XK):Prop|mk (x:Addr) (ss:LS) (ns:LN) (y:Str) (j:Nat) (_:vs=[.ref x,.str y]) (_:WebAt cw H x ss ns) (_:ss[j]?=some y) (_:∀ H',L2.Same H H'->∀ l,H' l=none->Q (.ref l) (upd H' l (.lst ((inB ss 0 (ns.getD j 0)).map V.str))))
inductive spTied(cw:Addr)(vs:List V)(H:Hp)(Q:VK)(E:XK):Prop|mk (x:Addr) (ss:LS) (ns:LN) (y z:Str) (j i:Nat) (_:vs=[.ref x,.str y,.str z]) (_:WebAt cw H x ss ns) (_:ss[j]?=some y) (_:ss[i]?=some z) (_:∀ H',L2.Same H H'->Q (.bl ((ns.getD j 0).testBit i)) H')
inductive spPls(cw:Addr)(vs:List V)(H:Hp)(Q:VK)(E:XK):Prop|mk (x:Addr) (ss:LS) (ns:LN) (_:vs=[.ref x]) (_:WebAt cw H x ss ns) (_:∀ l,H l=none->Q (.ref l) (upd H l (.lst (ss.map V.str))))
theorem ok_has(F:Fun K "has_place" "Web.has_place" jF f fd)(T:Txt K mg cc cw)(b:DefOk P w K mg base CX0 2 "is_place" ["numbers","thing"] spPlace):FnOk P w K mg base CX0 3 f fd ["self","thing"] (spHas cw):=by
 show F.ok ul fun _ _ _ _ H vs Q E e h=>?_
 .obtain⟨x,ss,ns,y,rfl,⟨dx,d,ol,n,g,c,j,i,hw⟩,a,q⟩:=h;show⟨_,(qe (qm (qp b (hmR e) qB (qa (qC (K:=K) rfl (pv 0) rfl) (qa (pv 1) qd))))),?_⟩;apply .inl ⟨x,cw,dx,_,.ref d,rfl,g,T.wcl,T.wn,jS,?_⟩;apply⟨d,ss,y,rfl,c,hw.nm _ a,a,q⟩
theorem ok_num(F:Fun K "number_of" "Web.number_of" jG f fd)(T:Txt K mg cc cw)(o:MethOk P w K mg base CX0 3 cw "has_place" ["self","thing"] (spHas cw)):FnOk P w K mg base CX0 4 f fd ["self","place"] (spNum cw):=by
 show F.ok um fun _ _ _ _ H vs Q E e h=>?_
 .obtain⟨x,ss,ns,y,j,rfl,c,b,q⟩:=h;obtain⟨dx,d,ol,n,g,r,v,u,hw⟩:=id c;have l:=ye b;have s:=jV e;show⟨_,(qc (qP (qZ (qU (qF o (hmR e) (pv 0) (qa (pv 1) qd)))) (qe jo) qy)
 (qe (qm (qu (qv (K:=K) rfl s) (qC (K:=K) rfl (pv 0) rfl) (pv 1) (fun _ _=>rfl))))),?_⟩
  apply⟨x,dx,_,rfl,g,j0 (by room),?_⟩;apply⟨x,ss,ns,y,rfl,c,l,fun H1 a=>?_⟩;apply yq ?_;obtain⟨i,t,p,m⟩:=jZ (i:=0) l;rw[xO,qz hw.nd p b] at m;apply .inl ⟨x,cw,dx,_,.ref d,rfl,a _ _ g,T.wcl,T.wn,jS,?_⟩;apply .inr ⟨d,.int j,rfl,?_,q H1 a⟩;have:=DGet.k (k:=Sum.inr y) (a _ _ r);rw[m] at this;show this
theorem ok_bb(F:Fun K "bits_beside" "Web.bits_beside" jp f fd)(T:Txt K mg cc cw)(i:MethOk P w K mg base CX0 4 cw "number_of" ["self","place"] (spNum cw)):FnOk P w K mg base CX0 5 f fd ["self","place"] (spBB cw):=by
 show F.ok uc fun _ _ _ _ H vs Q E c h=>?_
 .obtain⟨x,ss,ns,y,j,rfl,b,a,q⟩:=h;obtain⟨dx,d,ol,n,e,o,p,l,hw⟩:=id b;have m:=jV c;show⟨_,(qe (qm (qu (qv (K:=K) rfl m) (qC (K:=K) rfl (pv 0) rfl) (qF i (hmR c) (pv 0) (qa (pv 1) qd)) (fun _ _=>rfl)))),?_⟩;apply .inl ⟨x,cw,dx,_,.ref n,rfl,e,T.wcl,T.wr,qeK,?_⟩;apply⟨x,dx,_,rfl,e,j0 (by room),?_⟩;apply⟨x,ss,ns,y,j,rfl,b,a,fun H1 g=>?_⟩;show .inl (zN (g _ _ l) (qt (jm (by rw[hw.len];show(yc.mp a).1))) (q H1 g))
theorem ok_nin(F:Fun K "names_in" "Web.names_in" jw f fd)(T:Txt K mg cc cw)(A:DefOk P w K mg base CX0 1 "has_bit" ["bits","number"] spBit):FnOk P w K mg base CX0 2 f fd ["self","bits"] (spNIn cw):=by
 show F.ok ur fun _ _ _ _ H vs Q E u h=>?_
 .obtain⟨x,ss,ns,b,rfl,⟨dx,d,ol,n,v,D,t,L,hw⟩,q⟩:=h;have I:=jV u;show⟨_,(qe (qm (q9 (sc:=qh jw) (XN:=["self","bits"]) ["name","bits","self"] 1 [1,0] rfl rfl rfl (by room) rfl (by room)
  (qS (K:=K) rfl (qC (K:=K) rfl (pv 0) rfl)) (fun _ _ _ _=>(qo (i:=0) (show(["name","bits","self"]:LS).Nodup by room) rfl (yJ rfl))) qR
  (fun _ _ _ _=>(qV (qU (qp A (hmR u) qB (qa (pv 1) (qa (qu (qv (K:=K) rfl I) (qC (K:=K) rfl (pv 2) rfl) (pv 0) (fun _ _=>rfl)) qd))))))
  (fun _ _ _ _=>(pv 0))))),?_⟩
  apply .inl ⟨x,cw,dx,_,.ref ol,rfl,v,T.wcl,T.wo,qa1,?_⟩;show .inl ⟨⟨_,SqL.of t⟩,qH (K:=K) (fun i ys H'=>H'=H/\ys=(inB (ss.take i) 0 b).map V.str) ⟨rfl,by simp[inB]⟩ (fun i ys H' _ e=>by rw[e.1];show SqL.of t) (fun i y ys H' r e=>?_) fun ys H' e=>?_⟩
  .obtain⟨rfl,rfl⟩:=e;have G:i<ss.length:=by simpa using(yc.mp r).1
   have c:ss[i]?=some ss[i]:=yb G;generalize ss[i]=s at c;have B:y=.str s:=by rw[yd,c] at r;cases r;rfl
   subst B;obtain⟨j,J,C,z⟩:=jZ (i:=0) (ye c);rw[xO] at z;have p:j=i:=qz hw.nd C c;subst p;have g:ss.take (j+1)=ss.take j++[s]:=by rw[yM,c];rfl
   have a:(ss.take j).length=j:=by rw[yR];lk
   apply .inl ⟨x,cw,dx,_,.ref d,rfl,v,T.wcl,T.wn,jS,?_⟩;apply .inr ⟨d,.int j,rfl,?_,?_⟩
   .have:=DGet.k (k:=Sum.inr s) D;rw[z] at this;show this
   apply⟨_,_,rfl,by lk,?_⟩;rw[qai];ext
   have few:((inB (ss.take j) 0 b).map V.str).length<sizeLine:=by
    rw[ya];show qi (yi (qbc _ _ _) (by rw[a];have:=hw.few;lk))
   show qL (fun o=>?_) fun o=>?_
   .ext;show⟨few,rfl,?_⟩;rw[g,qbo,a,xO,yG o];simp
   .show⟨rfl,?_⟩;rw[g,qbo,a,xO,yA o];simp
  .obtain⟨rfl,rfl⟩:=e;have m:ss.take (ss.map V.str).length=ss:=by rw[ya,yS]
   rw[m];show⟨?_,fun l hl=>q l hl⟩;rw[ya];show yW (qi (yi (qbc _ _ _) (by have:=hw.few;lk)))
theorem ok_bs(F:Fun K "beside" "Web.beside" zx f fd)(T:Txt K mg cc cw)(g:MethOk P w K mg base CX0 5 cw "bits_beside" ["self","place"] (spBB cw))(i:MethOk P w K mg base CX0 2 cw "names_in" ["self","bits"] (spNIn cw)):FnOk P w K mg base CX0 6 f fd ["self","place"] (spBs cw):=by
 show F.ok uI fun _ _ _ _ H vs Q E b h=>?_
 .obtain⟨x,ss,ns,y,j,rfl,a,l,q⟩:=h;obtain⟨dx,d,ol,n,c,_⟩:=id a;show⟨_,(qe (qm (qF i (hmR b) (pv 0) (qa (qF g (hmR b) (pv 0) (qa (pv 1) qd)) qd)))),?_⟩;apply⟨x,dx,_,rfl,c,j0 (by room),?_⟩;apply⟨x,dx,_,rfl,c,j0 (by room),?_⟩;apply⟨x,ss,ns,y,j,rfl,a,l,fun H1 e=>?_⟩;apply⟨x,ss,ns,_,rfl,a.same e,q H1 e⟩
theorem ok_tied(F:Fun K "tied" "Web.tied" qav f fd)(T:Txt K mg cc cw)(g:MethOk P w K mg base CX0 5 cw "bits_beside" ["self","place"] (spBB cw))(m:MethOk P w K mg base CX0 4 cw "number_of" ["self","place"] (spNum cw))
  (l:DefOk P w K mg base CX0 1 "has_bit" ["bits","number"] spBit):FnOk P w K mg base CX0 6 f fd ["self","one","other"] (spTied cw):=by
 show F.ok uh fun _ _ _ _ H vs Q E b h=>?_
 .obtain⟨x,ss,ns,y,z,j,i,rfl,a,p,o,q⟩:=h;obtain⟨dx,d,ol,n,e,_⟩:=id a;show⟨_,(qc (qk (i:=3) uh.nd rfl (yJ rfl) (qF g (hmR b) (pv 0) (qa (pv 1) qd)))
 (qe (qm (qp l (hmR b) qB (qa (pv 3) (qa (qF m (hmR b) (pv 0) (qa (pv 2) qd)) qd)))))),?_⟩
  apply⟨x,dx,_,rfl,e,j0 (by room),?_⟩;apply⟨x,ss,ns,y,j,rfl,a,p,fun H1 c=>?_⟩;apply⟨x,dx,_,rfl,c _ _ e,j0 (by room),?_⟩;apply⟨x,ss,ns,z,i,rfl,a.same c,o,fun H2 r=>?_⟩;apply⟨_,_,rfl,by lk,?_⟩;rw[qai];show q H2 (c.trans r)
theorem ok_pls(F:Fun K "places" "Web.places" zw f fd)(T:Txt K mg cc cw):FnOk P w K mg base CX0 1 f fd ["self"] (spPls cw):=by
 show F.ok uH fun _ _ _ _ H vs Q E g h=>?_
 .obtain⟨x,ss,ns,rfl,⟨dx,d,ol,n,b,c,a,e,hw⟩,q⟩:=h;show⟨_,(qe (qm (zl (qaK (K:=K) rfl rfl) rfl T.b_list xp (qa (qC (K:=K) rfl (pv 0) rfl) qd)))),?_⟩;apply .inl ⟨x,cw,dx,_,.ref ol,rfl,b,T.wcl,T.wo,qa1,?_⟩;apply .inl ⟨ol,_,rfl,.inl (SqL.of a),q⟩
theorem Kq:FnScope ["self","pieces","seen","number","piece"] ["self"] (qh zy):=fS
theorem Ki:FnScope ["near","number","piece","before","at","bits"] ["near","number"] (qh jW):=fS
theorem qdm(m k:Nat):Builtin.bitOr (m:Int) (k:Int)=((m ||| k:Nat):Int):=by
 have c:Builtin.bitNot (m:Int)=-(m:Int)-1:=rfl;have d:Builtin.bitNot (k:Int)=-(k:Int)-1:=rfl;unfold Builtin.bitOr Builtin.bitAnd;rw[c,d,yl (by lk),yl (by lk)];dsimp only;unfold Builtin.bitNot;have a:(-(-(m:Int)-1)-1).toNat=m:=by lk
 have b:(-(-(k:Int)-1)-1).toNat=k:=by lk
 rw[a,b];lk
theorem qdn(j:Nat):(1*2 ^ (j:Int).toNat:Int)=((2 ^ j:Nat):Int):=by rw[y0,kA,xG];rfl
inductive Rch(ns:LN)(i:Nat):Nat->Prop
 | zero:Rch ns i i
 | step {a b:Nat} (h:Rch ns i a) (t:(ns.getD a 0).testBit b=true):Rch ns i b
theorem Rch.trans{a b:Nat}(h:Rch ns i a)(g:Rch ns a b):Rch ns i b:=by
 induction g with
 | zero=>show h
 | step _ t ih=>show .step ih t
inductive spPc(vs:List V)(H:Hp)(Q:VK)(E:XK):Prop|mk (n:Addr) (ns:LN) (i:Nat) (_:vs=[.ref n,.int i]) (_:H n=some (.lst (zq ns))) (_:i<ns.length) (_:ns.length<=14) (_:(∀ a,ns.getD a 0<2 ^ ns.length)) (_:∀(b:Nat) (H':Hp),L2.Same H H'->(∀ c,b.testBit c=true↔Rch ns i c)->Q (.int b) H')
noncomputable def qdo(ns:LN)(k:Nat):Bool:=@decide (∀ j,j<k->¬ Rch ns j k) (Classical.propDecidable _)
theorem isRep_iff{k:Nat}:qdo ns k=true↔∀ j,j<k->¬ Rch ns j k:=by unfold qdo;show @decide_eq_true_iff _ (Classical.propDecidable _)
noncomputable def qff(ns:LN)(n:Nat):LN:=(List.range n).filter (qdo ns)
open Classical in
noncomputable def qc1(ss:LS)(ns:LN)(k:Nat):LS:=ss.filter fun s=>decide (Rch ns k (ss.idxOf s))
theorem qa2(b:ss.Nodup)(h:ss[i]?=some s):ss.idxOf s=i:=by
 have a:s∈ss:=ye h;have hl:ss.idxOf s<ss.length:=Yc a;show qz b (by rw[yb hl,Yt]) h
theorem zF(f:ss.Nodup)(b:Nat):inB ss 0 b=ss.filter fun s=>b.testBit (ss.idxOf s):=by
 have e:∀ k,k<=ss.length->inB (ss.take k) 0 b=(ss.take k).filter fun s=>b.testBit (ss.idxOf s):=fun k=>by
  induction k with
  | zero=>intro _;simp[inB]
  | succ k ih =>
   intro h;have a:ss[k]?=some ss[k]:=yb (by lk);generalize ss[k]=g at a;have d:ss.take (k+1)=ss.take k++[g]:=by rw[yM,a];rfl
   have c:(ss.take k).length=k:=by rw[yR];lk
   rw[d,qbo,yV,ih (by lk),c,xO]
   congr 1
   rw[yK,Yx,qa2 f a]
 have:=e ss.length (yh _)
 rwa[yS] at this
theorem comp_of(a:ss.Nodup){b k:Nat}(h:∀ c,b.testBit c=true↔Rch ns k c):inB ss 0 b=qc1 ss ns k:=by
 rw[zF a];unfold qc1;apply YB;intro s _;rw[Yr,h];simp
def qhm(H H':Hp)(l:Addr)(a:Addr)(ps:LS):Prop:=H a=none/\a≠l/\H' a=some (.lst (ps.map V.str))
inductive spPcs(cw:Addr)(vs:List V)(H:Hp)(Q:VK)(E:XK):Prop|mk (x:Addr) (ss:LS) (ns:LN) (_:vs=[.ref x]) (_:WebAt cw H x ss ns) (_:∀(l:Addr) (ls:LX) (H':Hp),L2.Same H H'->H l=none->H' l=some (.lst (ls.map V.ref))->All2 (qhm H H' l) ls ((qff ns ss.length).map (qc1 ss ns))->Q (.ref l) H')
theorem ok_pc(F:Fun K "piece_around" "piece_around" jW f fd)(T:Txt K mg cc cw)(Kr:DefOk P w K mg base CX0 1 "has_bit" ["bits","number"] spBit):FnOk P w K mg base CX0 2 f fd ["near","number"] spPc:=by
 show F.ok Ki fun _ _ _ _ H vs Q E hr h=>?_
 .obtain⟨n,ns,i,rfl,Z,hi,ac,S,q⟩:=h;have hu:=jV hr;show⟨_,(qc (qk (i:=2) Ki.nd rfl (yJ rfl) (qw zY qg (pv 1)))
 (qc (qk (i:=3) Ki.nd rfl (yJ rfl) qg)
 (qc (qan yY (qj (qaJ (K:=K) rfl hu) (pv 3) (pv 2) (qA _))
 (qc (qk (i:=3) Ki.nd rfl (yJ rfl) (pv 2))
 (qe (jj yY rfl (pi_enum (K:=K) rfl rfl T.b_enumerate (qa (pv 0) qd)) (qbE rfl (jl (qo (i:=4) Ki.nd rfl (yJ rfl)) (jl (qo (i:=5) Ki.nd rfl (yJ rfl)) qaG)))
 (qe (qP (qU (qp Kr (hmR hr) qB (qa (pv 3) (qa (pv 4) qd)))) (qe (qk (i:=2) Ki.nd rfl (yJ rfl) (qw qdc (pv 2) (pv 5)))) qy))))))
 (qe (qm (pv 2)))))),?_⟩
  apply vI ⟨by lk,by lk,by decide⟩ ?_;ext;rw[qdn];have I:∀ c,(2 ^ i:Nat).testBit c=decide (i=c):=fun c=>YH;show⟨fun m σ H'=>∃(pc b:Nat) (j l:Option V),m=2 ^ ns.length-b/\σ=[some (.ref n),some (.int i),some (.int pc),some (.int b),j,l]/\L2.Same H H'/\b ||| pc=pc/\pc<2 ^ ns.length/\pc.testBit i=true/\(∀ c,pc.testBit c=true->Rch ns i c)/\∀ a c,b.testBit a=true->(ns.getD a 0).testBit c=true->pc.testBit c=true,
   ⟨_,2 ^ i,0,none,none,rfl,rfl,L2.Same.refl H,by simp,xm (by decide) hi,by rw[I];simp,fun c hc=>by rw[I] at hc;rw[<- yk hc];show .zero,fun a c L=>by simp at L⟩,fun m σ H1 hW=>?_⟩
  obtain⟨pc,b,j,l,rfl,rfl,X,G,D,C,d,x⟩:=hW;apply .inl ⟨rfl,rfl,?_⟩;apply qL (fun U=>?_) fun A=>?_
  .have aa:b≠pc:=fun e=>by
    subst e;simp[eqV] at U
   have ad:b<pc:=by
    have h1:b<=b ||| pc:=Nat.left_le_or;rw[G] at h1;lk
   show⟨fun J H'=>∃(pk:Nat) (j l:Option V),J=[some (.ref n),some (.int i),some (.int pk),some (.int pc),j,l]/\L2.Same H H'/\pc ||| pk=pk/\pk<2 ^ ns.length/\pk.testBit i=true/\(∀ c,pk.testBit c=true->Rch ns i c)/\∀ a c,pc.testBit a=true->(ns.getD a 0).testBit c=true->pk.testBit c=true,
    fun J H' hN=>?_,?_⟩
   .obtain⟨pk,j,l,rfl,k1,k2,k3,k4,k5,k6⟩:=hN;show⟨2 ^ ns.length-pc,by lk,pk,pc,j,l,rfl,rfl,k1,k2,k3,k4,k5,k6⟩
   .ext;show⟨n,zq ns,rfl,SqL.of (X _ _ Z),for_enum (K:=K) (fun k σ H'=>∃(pk:Nat) (j l:Option V),σ=[some (.ref n),some (.int i),some (.int pk),some (.int pc),j,l]/\L2.Same H H'/\pc ||| pk=pk/\pk<2 ^ ns.length/\(∀ c,pk.testBit c=true->Rch ns i c)/\∀ a c,a<k->pc.testBit a=true->(ns.getD a 0).testBit c=true->pk.testBit c=true)
     ⟨pc,_,_,rfl,X,by simp,D,d,fun a c h=>by lk⟩ (fun k σ H' _ B=>by obtain⟨_,_,_,_,z,_⟩:=B;show SqL.of (z _ _ Z)) (fun k y t σ H2 W ht B=>?_) fun σ H2 B=>?_⟩
    .obtain⟨pk,j,l,rfl,Y,g,r,s,p⟩:=B;have s3:=qG Y (o:=.tup [.int k,y]) ht;have O:k<ns.length:=by have:=(yc.mp W).1;unfold zq at this;simpa using this
     have ey:y=.int (ns.getD k 0:Nat):=by rw[jm O] at W;cases W;rfl
     show⟨t,_,rfl,SqT.of qb,rfl,_,_,rfl,_,_,rfl,rfl,?_⟩;subst ey;apply⟨_,_,rfl,by lk,?_⟩;rw[qai];apply qL (fun M=>?_) fun M=>?_
     .ext;rw[qdm];show⟨pk ||| ns.getD k 0,_,_,rfl,s3,by rw[<- Nat.or_assoc,g],xr r (S k),fun c hc=>?_,fun a c L h1 v=>?_⟩
      .rw [YT,Y1] at hc;rcases hc with hc | hc
       .show s c hc
       .show .step (d k M) hc
      .rw [YT,Y1];by_cases u:a=k
       .subst u;show .inr v
       .show .inl (p a c (by lk) h1 v)
     .show⟨pk,_,_,rfl,s3,g,r,s,fun a c L h1 v=>?_⟩;by_cases u:a=k
      .subst u;show absurd h1 M
      .show p a c (by lk) h1 v
    .obtain⟨pk,j,l,rfl,Y,g,r,s,p⟩:=B;show⟨pk,j,l,rfl,Y,g,r,by rw[<- g,YT,C];rfl,s,fun a c h1 v=>p a c ?_ h1 v⟩
     have R:a<ns.length:=by
      show XX fun N=>?_;have:pc.testBit a=false:=Nat.testBit_lt_two_pow (yj D (xP (by decide) N));rw[this] at h1;cases h1
     unfold zq;rw[ya];show R
  .have he:b=pc:=by
    simp only[Xv,eqV,xq,Bool.not_eq_false'] at A;have:((b:Int)==(pc:Int))=true:=by simpa using A
    have:=eq_of_beq this;lk
   subst he;apply q b H1 X fun c=>⟨d c,fun hc=>?_⟩
   induction hc with
   | zero=>show C
   | step _ t ih=>show x _ _ ih t
theorem qc2(ns:LN)(k:Nat):((∃ j,j<k/\Rch ns j k)->qff ns (k+1)=qff ns k)/\((¬ ∃ j,j<k/\Rch ns j k)->qff ns (k+1)=qff ns k++[k]):=by
 unfold qff;rw[YA,yV];constructor
 .rintro ⟨j,a,b⟩
  have e:qdo ns k=false:=by
   rw[Bool.eq_false_iff];intro h;show isRep_iff.mp h j a b
  simp[e]
 .intro h;have e:qdo ns k=true:=isRep_iff.mpr fun j a b=>h ⟨j,a,b⟩;simp[e]
theorem ok_pcs(F:Fun K "pieces" "Web.pieces" zy f fd)(T:Txt K mg cc cw)(Y:DefOk P w K mg base CX0 1 "has_bit" ["bits","number"] spBit)(uC:DefOk P w K mg base CX0 2 "piece_around" ["near","number"] spPc)
  (X:MethOk P w K mg base CX0 2 cw "names_in" ["self","bits"] (spNIn cw)):FnOk P w K mg base CX0 3 f fd ["self"] (spPcs cw):=by
 show F.ok Kq fun _ _ _ _ H vs Q E G h=>?_
 .obtain⟨x,ss,ns,rfl,U,q⟩:=h;obtain⟨dx,d,ol,n,N,hd,ho,hn,hw⟩:=id U;show⟨_,(qc (qk (i:=1) Kq.nd rfl (yJ rfl) (qW qd))
 (qc (qk (i:=2) Kq.nd rfl (yJ rfl) qg)
 (qc (jj yY rfl (jt rfl T.b_range (qa (qr (jY (K:=K) rfl) rfl T.b_len YQ (qa (qC (K:=K) rfl (pv 0) rfl) qd)) qd)) (qo (i:=3) Kq.nd rfl (yJ rfl))
 (qe (qP (qZ (qU (qp Y (hmR G) qB (qa (pv 2) (qa (pv 3) qd))))) (qc (qk (i:=4) Kq.nd rfl (yJ rfl) (qp uC (hmR G) qB (qa (qC (K:=K) rfl (pv 0) rfl) (qa (pv 3) qd))))
 (qc (qk (i:=2) Kq.nd rfl (yJ rfl) (qw qdc (pv 2) (pv 4)))
 (qe (qN (qaW (K:=K) rfl yD Yd Ye qO (pv 1) (qa (qF X (hmR G) (pv 0) (qa (pv 4) qd)) qd)))))) qy)))
 (qe (qm (pv 1)))))),?_⟩
  apply⟨by decide,fun l hl=>?_⟩;have O:=qG (Sr H) (o:=.lst []) hl;apply .inl ⟨x,cw,dx,_,.ref ol,rfl,O _ _ N,T.wcl,T.wo,qa1,?_⟩;apply qac (O _ _ ho) ?_;rw[ya];have few:=hw.few;show⟨_,rfl,by lk,by lk,?_⟩;rw[y0];show zj (fun k σ H'=>k<=ss.length/\∃(sn:Nat) (m:LX) (R S:Option V),σ=[some (.ref x),some (.ref l),some (.int sn),R,S]/\L2.Same H H'/\H' l=some (.lst (m.map V.ref))/\All2 (qhm H H' l) m ((qff ns k).map (qc1 ss ns))/\m.length<=k/\∀ b,sn.testBit b=true↔∃ j,j<k/\Rch ns j b)
   ⟨YS _,0,[],none,none,rfl,O,qb,All2.nil,yh _,fun b=>⟨fun h=>by simp at h,fun⟨j,h,_⟩=>by lk⟩⟩ (fun k σ H1 hk s=>?_) fun σ H1 s=>?_
  .obtain⟨_,sn,m,R,S,rfl,B,r,g,W,t⟩:=s;ext;rw[xQ];show⟨_,_,rfl,by lk,?_⟩;rw[qai];apply qL (fun J=>?_) fun J=>?_
   .have D:¬ ∃ j,j<k/\Rch ns j k:=fun h=>by
     rw[<- t] at h;rw[h] at J;cases J
    apply .inl ⟨x,cw,dx,_,.ref n,rfl,B _ _ N,T.wcl,T.wr,qeK,?_⟩;apply⟨n,ns,k,rfl,B _ _ hn,by rw[hw.len];lk,by rw[hw.len];show few,by rw[hw.len];show hw.lt,fun b H2 L C=>?_⟩;have M:=B.trans L;have y:=L _ _ r;ext;rw[qdm];show⟨.inl ⟨rfl,_,SqL.of y⟩,?_⟩;apply⟨x,dx,_,rfl,M _ _ N,j0 (by room),?_⟩;apply⟨x,ss,ns,b,rfl,U.same M,fun a I=>?_⟩;ext;have A:l≠a:=qJ y I;show⟨l,_,_,rfl,rfl,by rw[qf A];show y,by rw[ya];show qi (by lk),?_⟩;have s4:=qaE (qG M (o:=.lst ((inB ss 0 b).map V.str)) I) (o:=.lst (m.map V.ref++[.ref a])) hl;show⟨by lk,sn ||| b,m++[a],_,_,rfl,s4,by rw[qb,yu];rfl,?_,by rw[yt];show m.length+1<=k+1;lk,fun c=>?_⟩
    .rw [(qc2 ns k).2 D,yu];show All2.snoc (g.mono fun Z ps s=>⟨s.1,s.2.1,?_⟩) ⟨M.free I,A.symm,?_⟩
     .have na:Z≠a:=fun e=>by
       have z:=L _ _ s.2.2;rw[e,I] at z;cases z
      rw[qf s.2.1,qf na];show L _ _ s.2.2
     .rw [qf A.symm,qb,comp_of hw.nd C]
    .rw [YT,Y1,t,C];constructor
     .rintro (⟨j,h1,p⟩ | h)
      .show⟨j,by lk,p⟩
      .show⟨k,by lk,h⟩
     .rintro ⟨j,h1,p⟩;by_cases v:j=k
      .subst v;show .inr p
      .show .inl ⟨j,by lk,p⟩
   .have u:∃ j,j<k/\Rch ns j k:=by
     rw[<- t];simpa using J
    show⟨by lk,sn,m,_,_,rfl,B,r,?_,by lk,fun c=>?_⟩
    .rw [(qc2 ns k).1 u];show g
    .rw [t];constructor
     .rintro ⟨j,h1,p⟩;show⟨j,by lk,p⟩
     .rintro ⟨j,h1,p⟩;by_cases v:j=k
      .subst v;obtain⟨i,hi,G⟩:=u;show⟨i,hi,G.trans p⟩
      .show⟨j,by lk,p⟩
  .obtain⟨_,sn,m,R,S,rfl,B,r,g,_,_⟩:=s;apply q l m H1 B hl r g
theorem KN:FnScope ["self","ties","one","other"] ["self"] (qh qaw):=fS
theorem qdp(a:ss.Nodup){b:Nat}(h:s∈inB ss 0 b):s∈ss/\b.testBit (ss.idxOf s)=true:=by
 rw[zF a] at h;show yp.mp h
noncomputable def qfm(ss:LS)(ns:LN)(i:Nat):LP:=((inB ss 0 (ns.getD i 0)).filter fun o=>decide (i<ss.idxOf o)).map fun o=>(ss.getD i "",o)
noncomputable def qE(ss:LS)(ns:LN)(i:Nat):LP:=(List.range i).flatMap (qfm ss ns)
def PrAt(H H':Hp)(l:Addr)(t:Addr)(ab:Str×Str):Prop:=H t=none/\t≠l/\H' t=some (.tup [.str ab.1,.str ab.2])
theorem PrAt.same{l t:Addr}(h:PrAt H H1 l t ab)(s:L2.Same H1 H2):PrAt H H2 l t ab:=⟨h.1,h.2.1,s _ _ h.2.2⟩
inductive spTs(cw:Addr)(vs:List V)(H:Hp)(Q:VK)(E:XK):Prop|mk (x:Addr) (ss:LS) (ns:LN) (_:vs=[.ref x]) (_:WebAt cw H x ss ns) (_:∀(l:Addr) (ts:LX) (H':Hp),L2.Same H H'->H l=none->H' l=some (.lst (ts.map V.ref))->ts.length<=196->All2 (PrAt H H' l) ts (qE ss ns ss.length)->Q (.ref l) H')
theorem ok_ts(F:Fun K "ties" "Web.ties" qaw f fd)(T:Txt K mg cc cw)(KA:MethOk P w K mg base CX0 6 cw "beside" ["self","place"] (spBs cw)):FnOk P w K mg base CX0 7 f fd ["self"] (spTs cw):=by
 show F.ok KN fun _ _ _ _ H vs Q E hr h=>?_
 .obtain⟨x,ss,ns,rfl,hW,q⟩:=h;have hu:=jV hr;obtain⟨dx,d,ol,n,hx,hd,ho,hn,hw⟩:=id hW;have few:=hw.few
  have Y:∀(H1:Hp) (y:Str) (i:Nat),L2.Same H H1->ss[i]?=some y->DGet H1 d (.str y) (some (.int (i:Nat))):=fun H1 y i O D=>by
   obtain⟨j,hj,gj,vj⟩:=jZ (i:=0) (ye D);rw[xO] at vj;have af:j=i:=qz hw.nd gj D;subst af;have:=DGet.k (k:=Sum.inr y) (O _ _ hd);rw[vj] at this;show this
  show⟨_,(qc (qk (i:=1) KN.nd rfl (yJ rfl) (qW qd))
 (qc (jj yY rfl (qS (K:=K) rfl (qC (K:=K) rfl (pv 0) rfl)) (qo (i:=2) KN.nd rfl (yJ rfl))
 (qe (jj yY rfl (qS (K:=K) rfl (qF KA (hmR hr) (pv 0) (qa (pv 2) qd))) (qo (i:=3) KN.nd rfl (yJ rfl))
 (qe (qP (qj qep (qu (qv (K:=K) rfl hu) (qC (K:=K) rfl (pv 0) rfl) (pv 2) (fun _ _=>rfl)) (qu (qv (K:=K) rfl hu) (qC (K:=K) rfl (pv 0) rfl) (pv 3) (fun _ _=>rfl)) (qA _)) (qe (qN (qaW (K:=K) rfl yD Yd Ye qO (pv 1) (qa (jO (qa (pv 2) (qa (pv 3) qd))) qd)))) qy)))))
 (qe (qm (pv 1))))),?_⟩
  apply⟨by decide,fun l hl=>?_⟩;have s0:=qG (Sr H) (o:=.lst []) hl;apply .inl ⟨x,cw,dx,_,.ref ol,rfl,s0 _ _ hx,T.wcl,T.wo,qa1,?_⟩;show .inl ⟨⟨_,SqL.of (s0 _ _ ho)⟩,jc (K:=K) (fun i σ H'=>∃(ts:LX) (x2 S:Option V),σ=[some (.ref x),some (.ref l),x2,S]/\L2.Same H H'/\H' l=some (.lst (ts.map V.ref))/\ts.length<=i*14/\All2 (PrAt H H' l) ts (qE ss ns i))
   ⟨[],none,none,rfl,s0,qb,by simp,All2.nil⟩ (fun i σ H' _ B=>by obtain⟨_,_,_,_,z,_⟩:=B;show SqL.of (z _ _ ho)) (fun i y σ H1 hy B=>?_) fun σ H1 B=>?_⟩
  .obtain⟨ts,x2,S,rfl,O,G,s,c⟩:=B;have hi:i<ss.length:=by simpa using(yc.mp hy).1
   have D:ss[i]?=some ss[i]:=yb hi;generalize ss[i]=p at D;have ey:y=.str p:=by rw[yd,D] at hy;cases hy;rfl
   subst ey;have al:=hw.nm p (ye D);apply⟨x,dx,_,rfl,O _ _ hx,j0 (by room),?_⟩;apply⟨x,ss,ns,p,i,rfl,hW.same O,D,fun H2 s2 b W=>?_⟩;have s3:=O.trans s2;have s4:=qG s3 (o:=.lst ((inB ss 0 (ns.getD i 0)).map V.str)) W;have R:=qG s2 (o:=.lst ((inB ss 0 (ns.getD i 0)).map V.str)) W;have eb:upd H2 b (.lst ((inB ss 0 (ns.getD i 0)).map V.str)) b=some (.lst ((inB ss 0 (ns.getD i 0)).map V.str)):=qb;have ah:b≠l:=fun e=>by rw[e,s2 _ _ G] at W;cases W
   have aj:H b=none:=s3.free W;show .inl ⟨⟨_,SqL.of qb⟩,?_⟩;generalize upd H2 b (.lst ((inB ss 0 (ns.getD i 0)).map V.str))=H3 at s4 R eb ⊢;have J:∀ o,o∈inB ss 0 (ns.getD i 0)->o∈ss:=fun o h=>(qdp hw.nd h).1;have ad:=qbc (ns.getD i 0) ss 0;have r:qfm ss ns i=((inB ss 0 (ns.getD i 0)).filter fun o=>decide (i<ss.idxOf o)).map fun o=>(ss.getD i "",o):=rfl;have aa:ss.getD i ""=p:=by simp[List.getD,D]
   rw[aa] at r;generalize ak:inB ss 0 (ns.getD i 0)=bs at eb J ad r ⊢;show jc (K:=K) (fun k σ H'=>∃(us:LX) (S:Option V),σ=[some (.ref x),some (.ref l),some (.str p),S]/\L2.Same H H'/\H' b=some (.lst (bs.map V.str))/\H' l=some (.lst (us.map V.ref))/\us.length<=i*14+k/\All2 (PrAt H H' l) us (qE ss ns i++((bs.take k).filter fun o=>decide (i<ss.idxOf o)).map fun o=>(p,o)))
    ⟨ts,_,rfl,s4,eb,R _ _ G,s,by simpa using c.mono fun _ _ h=>h.same R⟩ (fun k σ H' _ B=>by obtain⟨_,_,_,_,z,_⟩:=B;show SqL.of z) (fun k u σ Z M B=>?_) fun σ Z B=>?_
   .obtain⟨us,S,rfl,I,C,g,v,a⟩:=B;have hk:k<bs.length:=by simpa using(yc.mp M).1
    have gk:bs[k]?=some bs[k]:=yb hk;generalize bs[k]=m at gk;have eu:u=.str m:=by rw[yd,gk] at M;cases M;rfl
    subst eu;have ag:=J m (ye gk);have ae:=Yc ag;have ac:ss[ss.idxOf m]?=some m:=by rw[yb ae,Yt]
    have X:bs.take (k+1)=bs.take k++[m]:=by rw[yM,gk];rfl
    apply .inl ⟨x,cw,dx,_,.ref d,rfl,I _ _ hx,T.wcl,T.wn,jS,?_⟩;apply .inr ⟨d,.int i,rfl,Y Z p i I D,?_⟩;apply .inl ⟨x,cw,dx,_,.ref d,rfl,I _ _ hx,T.wcl,T.wn,jS,?_⟩;apply .inr ⟨d,.int (ss.idxOf m:Nat),rfl,Y Z m _ I ac,?_⟩;apply qL (fun L=>?_) fun L=>?_
    .have A:i<ss.idxOf m:=by have:=yk L;lk
     apply⟨.inl ⟨rfl,_,SqL.of g⟩,?_⟩;apply⟨by show 2<=sizeLine;decide,fun t ht=>?_⟩;have N:l≠t:=qJ g ht;have ai:b≠t:=qJ C ht;have s6:=qG (Sr Z) (o:=.tup [.str p,.str m]) ht;apply⟨l,_,_,rfl,rfl,by rw[qf N];show g,by rw[ya];show qi (by have:i*14<=14*14:=Nat.mul_le_mul_right 14 (by lk);lk),?_⟩;show⟨us++[t],_,rfl,qaE (I.trans s6) hl,by rw[qf ah,qf ai];show C,by rw[qb,yu];rfl,by rw[yt];show us.length+1<=_;lk,?_⟩;rw[X,yV,yu,<- Yl];have U:([m].filter fun o=>decide (i<ss.idxOf o)).map (fun o=>(p,o))=[(p,m)]:=by simp[A]
     rw[U];show All2.snoc (a.mono fun t' ab h=>⟨h.1,h.2.1,?_⟩) ⟨I.free ht,N.symm,?_⟩
     .rw [qf h.2.1];show s6 _ _ h.2.2
     .rw [qf N.symm,qb]
    .have A:¬ i<ss.idxOf m:=fun h=>L (yB (by lk));show⟨us,_,rfl,I,C,g,by lk,?_⟩;have U:([m].filter fun o=>decide (i<ss.idxOf o)).map (fun o=>(p,o))=[]:=by simp[A]
     rw[X,yV,yu,U,Yh];show a
   .obtain⟨us,S,rfl,I,C,g,v,a⟩:=B;rw[ya,yS] at a;rw[ya] at v;show⟨us,_,_,rfl,I,g,by lk,?_⟩;unfold qE at a ⊢;rw[YA,xY];have U:[i].flatMap (qfm ss ns)=(bs.filter fun o=>decide (i<ss.idxOf o)).map fun o=>(p,o):=by rw[<- r];simp
    rw[U];show a
  .obtain⟨ts,x2,S,rfl,O,G,s,c⟩:=B;rw[ya] at s c;apply q l ts H1 O hl G (by have:ss.length*14<=14*14:=Nat.mul_le_mul_right 14 few;lk) c
def Box(H:Hp)(p:Addr):Prop:=∃ a b c:Int,H p=some (.lst [.int a,.int b,.int c])
def BB(p:Addr)(H H':Hp):Prop:=(∀ b o,b≠p->H b=some o->H' b=some o)/\Box H' p
inductive spTake(vs:List V)(H:Hp)(Q:VK)(E:XK):Prop|mk (p:Addr) (m:Int) (_:vs=[.ref p,.int m]) (_:Box H p) (_:0<m) (_:m<1073741824) (_:∀(r:Int) (H':Hp),0<=r->r<m->BB p H H'->Q (.int r) H')
inductive spCell(K:W.Frag)(vs:List V)(H:Hp)(Q:VK)(E:XK):Prop|mk (a:Addr) (ns:LY) (k:Int) (_:vs=[.ref a,.int k]) (_:SqL K H a (ns.map V.int)) (_:0<=k) (_:k<1000) (_:∀ i:Int,Q (.int i) H)
inductive spBox(vs:List V)(H:Hp)(Q:VK)(E:XK):Prop|mk (i:Int) (_:vs=[.int i]) (_:∀(p:Addr) (a b c:Int),H p=none->Q (.ref p) (upd H p (.lst [.int a,.int b,.int c])))
noncomputable def NewH(H H':Hp):Hp:=fun a=>match H a with | none=>H' a | some _=>none
theorem zG:∀{l m:LS},l.Nodup->(∀ x∈l,x∈m)->l.length<=m.length
 | [],_,_,_=>YS _
 | x::r,m,hn,h=>by
  obtain⟨h1,c⟩:=yo.mp hn;have a:=h x yO;have d:=zG (l:=r) (m:=m.erase x) c fun y b=>(Xr (fun e=>h1 (by rw[<- e];show b))).mpr (h y (yz _ b));rw[YZ a] at d;have:0<m.length:=Y5 a;simp only[yF];lk
theorem qdq(c:Str)(ss:LS):inV (.str c) (ss.map V.str)=decide (c∈ss):=by
 unfold inV;rw[Kc,Yr,YJ,yI];constructor
 .rintro ⟨y,a,e⟩;have:y=c:=eq_of_beq e;rw[<- this];show a
 .intro h;show⟨c,h,xx c⟩
theorem flat_strs(ss:LS):(ss.map V.str).all qaD=true:=by rw[kS];show YI.mpr fun _ _=>rfl
inductive spFresh(vs:List V)(H:Hp)(Q:VK)(E:XK):Prop|mk (l:Addr) (ss:LS) (_:vs=[.ref l]) (_:H l=some (.lst (ss.map V.str))) (_:ss.length<=14) (_:∀(x:Str) (H':Hp),L2.Same H H'->zR x=true->x∉ss->Q (.str x) H')
noncomputable def signs:LS:=("abcdefghijklmno":Str).cps.toList.map fun c=>⟨#[c]⟩
theorem slice_ix(k n:Nat):Builtin.Str.strSliceIndices none (some (k:Int)) 1 n=List.range (min k n):=by
 unfold Builtin.Str.strSliceIndices sliceRange;simp only[show(1:Int)>0 by decide,Xv];rw[yA (show ¬ ((k:Int)<0) by lk)];have a:max 0 (min (k:Int) n)=((min k n:Nat):Int):=by lk
 rw[a];have b:(fun(j:Nat)=>((0:Int)+1*(j:Int)).toNat)=id:=by funext j;show _=j;lk
 rw[b,List.map_id]
 congr 1
 split
 .rw [Int.ediv_one];lk
 .omega
theorem qeL(a:Array Nat):∀ m,m<=a.size->(List.range m).filterMap (a[·]?)=a.toList.take m
 | 0,_=>rfl
 | m+1,h=>by
  rw[YA,List.filterMap_append,qeL a m (by lk),yM]
  congr 1
  have e:a[m]?=some a[m]:=xC (by lk);have b:a.toList[m]?=some a[m]:=by rw[xB];show e
  rw[b,Xx,e];rfl
theorem qbd(z:Str)(k:Nat):(Txt.slice z none (some (k:Int))).cps.toList=z.cps.toList.take k:=by
 unfold Txt.slice;rw[slice_ix];have hz:z.length=z.cps.toList.length:=by simp[Str.length]
 split
 .rename_i h
  rw[YW] at h;have:min k z.length=z.length:=by simpa using h
  rw[YU (by lk)]
 .show(List.filterMap _ _).toArray.toList=_;rw[qeL z.cps (min k z.length) (kG _ _)];show z.cps.toList.take (min k z.length)=_;by_cases a:k<=z.length
  .rw [kY a]
  .rw [kK (by lk),YU (by lk),YU (by lk)]
theorem qa3(a b:Str):(a++b).cps.toList=a.cps.toList++b.cps.toList:=by
 show(a.cps++b.cps).toList=_;show Array.toList_append
theorem qdS:∀{xs:LS},(∀ x∈xs,x.cps.toList.all sg=true)->(Str.join "" xs).cps.toList.all sg=true
 | [],_=>rfl
 | [x],h=>h x (by simp)
 | x::y::r,h=>by
  have e:Str.join "" (x::y::r)=x++""++Str.join "" (y::r):=rfl;rw[e,qa3,qa3,X7,X7,h x (by simp),qdS fun z hz=>h z (yz _ hz)]
  room
theorem qgu{c:Nat}(h:97<=c)(b:c<=122):sg c=true:=by
 have a:∀ i,i<26->sg (97+i)=true:=by room
 have:=a (c-97) (by lk)
 rwa[show 97+(c-97)=c by lk] at this
theorem join_len{xs:LS}(h:∀ x∈xs,x.length=1):(Txt.join "" xs).length=xs.length:=by
 have e:Txt.join "" xs=Str.join "" xs:=Yw.mp (join_plain_closes "" xs);rw[e]
 cases xs with
 | nil=>rfl
 | cons a l =>
  rw[len_join_cons]
  have b:∀ l:LS,(∀ x∈l,x.length=1)->(l.map (·.length)).sum=l.length:=by
   intro l
   induction l with
   | nil=>intro _;rfl
   | cons a l ih =>
    intro h;rw[YD,kE,h a yO,ih fun x c=>h x (yz _ c),yF];lk
  have z:("":Str).length=0:=by room
  rw[b _ h,z];lk
theorem sum_ones{xs:LS}(h:∀ x∈xs,x.length=1):(xs.map (·.length)).sum=xs.length:=by
 induction xs with
 | nil=>rfl
 | cons a l ih =>
  rw[YD,kE,h a yO,ih fun x b=>h x (yz _ b),yF];lk
def Signs(p:Addr)(H:Hp)(i:Nat)(ys:List V)(H':Hp):Prop:=BB p H H'/\∃ xs:LS,ys=xs.map V.str/\xs.length=i/\∀ x∈xs,x.length=1/\x.cps.toList.all sg=true
noncomputable def L26:Str:="abcdefghijklmnopqrstuvwxyz"
theorem qfC{i:Int}(b:0<=i)(h1:i<26):atI L26.cps.toList i=some (97+i.toNat):=by
 obtain⟨n,rfl⟩:=Int.eq_ofNat_of_zero_le b;have a:∀ n,n<26->L26.cps.toList[n]?=some (97+n):=by room
 rw[y0];show qt (a n (by lk))
theorem qbp{x:Str}{l:LN}(e:x.cps.toList=l)(h1:1<=l.length)(a:l.length<=6)(h:l.all sg=true):zR x=true:=by
 have hl:x.length=l.length:=by rw[<- e];simp[Str.length]
 unfold zR;rw[yG ⟨by lk,by lk⟩,e];show h
theorem nodup_key(h:∀(i j:Nat) (s:Str),ss[i]?=some s->ss[j]?=some s->i=j):ss.Nodup:=by
 show Yy.mpr fun i j a c b e=>?_;have:=h i j ss[j] (by rw[yb a,e]) (yb c);lk
def NL(p:Addr)(H':Hp)(l:Addr)(ss:LS):Prop:=H' l=some (.lst (ss.map V.str))/\l≠p
structure NOk(ss:LS):Prop where
 few:ss.length<=14
 nd:ss.Nodup
 nm:∀ s∈ss,zR s=true
def PrT(p:Addr)(H:Hp)(t:Addr)(ab:Str×Str):Prop:=t≠p/\H t=some (.tup [.str ab.1,.str ab.2])
def TL(p:Addr)(H:Hp)(l:Addr)(ts:LX)(tps:LP):Prop:=H l=some (.lst (ts.map V.ref))/\l≠p/\All2 (PrT p H) ts tps
structure TOk(ss:LS)(tps:LP):Prop where
 few:tps.length<=30
 ok:∀ ab∈tps,∃ j k:Nat,j<k/\ss[j]?=some ab.1/\ss[k]?=some ab.2
 nd:tps.Nodup
inductive spTies(vs:List V)(H:Hp)(Q:VK)(E:XK):Prop|mk (p n:Addr) (ss:LS) (_:vs=[.ref p,.ref n]) (_:Box H p) (_:NL p H n ss) (_:NOk ss) (_:∀(l:Addr) (ts:LX) (tps:LP) (H':Hp),BB p H H'->H l=none->TL p H' l ts tps->TOk ss tps->Q (.ref l) H')
def Shuf(tps d:LP):Prop:=∃ c,d.Perm c/\All2 (fun a b=>b=a\/b=(a.2,a.1)) tps c
inductive spShuf(vs:List V)(H:Hp)(Q:VK)(E:XK):Prop|mk (p l:Addr) (ts:LX) (tps:LP) (_:vs=[.ref p,.ref l]) (_:Box H p) (_:TL p H l ts tps) (_:tps.length<=30) (_:∀(l':Addr) (us:LX) (ups:LP) (H':Hp),BB p H H'->H l'=none->TL p H' l' us ups->Shuf tps ups->Q (.ref l') H')
theorem all_true(n:Nat):(List.range n).all (fun _=>true)=true:=by simp
theorem qdT{a b:Addr}{c t':Str}(h:H b=some (.tup [.str c,.str t']))(g:H a=some (.tup [.str s,.str t])):EqD K H 1 (.ref b) (.ref a) (decide ((c,t')=(s,t))):=by
 by_cases e:b=a
 .subst e;rw[h] at g;cases g;rw[yB rfl];show .self
 .have z:=EqT.tup (K:=K) (H:=H) (n:=0) (e:=fun j=>if j=0 then eqV (.str c) (.str s) else eqV (.str t') (.str t)) (SqT.of h) (SqT.of g) fun j x y d f=>by
   match j,d,f with
   | 0,d,f=>cases d;cases f;show .flat rfl rfl
   | 1,d,f=>cases d;cases f;show .flat rfl rfl
  have i:((List.range (min [V.str c,V.str t'].length [V.str s,V.str t].length)).all (fun j=>if j=0 then eqV (.str c) (.str s) else eqV (.str t') (.str t))&&[V.str c,V.str t'].length==[V.str s,V.str t].length)=decide ((c,t')=(s,t)):=by
   show((c==s)&&((t'==t)&&true)&&true)=_;rw[Yr];simp
  rw[i] at z;show .deep z e
noncomputable def qei(H:Hp)(z:V):Option (Str×Str):=match z with
 | .ref t=>(match H t with
  | some (.tup [.str a,.str b])=>some (a,b)
  | _=>none)
 | _=>none
theorem qcj{t:Addr}(h:H t=some (.tup [.str a,.str b])):qei H (.ref t)=some (a,b):=by
 unfold qei;dsimp only;rw[h]
theorem any_in(h:All2 (fun t ab=>H t=some (.tup [.str ab.1,.str ab.2])) ts tps)(st:Str×Str):((ts.map V.ref).any fun z=>decide (qei H z=some st))=decide (st∈tps):=by
 rw[Yr,YJ,yI];constructor
 .rintro ⟨z,hz,e⟩;obtain⟨t,f,rfl⟩:=yE.mp hz;obtain⟨ab,b,r⟩:=h.mem f;have e:=yk e;rw[qcj r] at e;cases e;show b
 .intro d;obtain⟨k,c,e⟩:=kc d;have a:k<ts.length:=by rw[h.len];show c
  have r:=h.at_ k ts[k] tps[k] (yb a) (yb c);show⟨.ref ts[k],yE.mpr ⟨_,Y2 a,rfl⟩,yB ?_⟩;rw[qcj r,e]
theorem pl_in{l a:Addr}{Q:VK}(h:PL H l ts tps)(d:H a=some (.tup [.str s,.str t]))(q:Q (.bl (decide ((s,t)∈tps))) H):qem K false (.ref a) (.ref l) H Q:=by
 show .inr (.inr ⟨l,ts.map V.ref,fun z=>decide (qei H z=some (s,t)),1,rfl,SqL.of h.1,by decide,fun z hz=>?_,?_⟩)
 .obtain⟨b,f,rfl⟩:=yE.mp hz;obtain⟨ab,_,r⟩:=h.2.mem f;have e:=qdT (K:=K) r d
  have c:decide (qei H (.ref b)=some (s,t))=decide ((ab.1,ab.2)=(s,t)):=by
   rw[qcj r];apply Yq.mpr;rw[Option.some.injEq]
  show EqD K H 1 (.ref b) (.ref a) (decide (qei H (.ref b)=some (s,t)));rw[c];show e
 .rw [any_in h.2];show q
theorem jT{y:V}(a:(ss.map V.str)[i]?=some y):∃ s,ss[i]?=some s/\y=.str s:=by
 rw[yd] at a
 cases h:ss[i]? with
 | none=>rw[h] at a;cases a
 | some s=>rw[h] at a;cases a;show⟨s,rfl,rfl⟩
def Adj(ss:LS)(ns:LN)(tps:LP):Prop:=∀ a b s t,ss[a]?=some s->ss[b]?=some t->((ns.getD a 0).testBit b=true↔((s,t)∈tps\/(t,s)∈tps))
theorem qeM{a b:Addr}(c:H a=some (.lst xs))(d:H b=some (.lst ys))(hl:xs.length=ys.length)(h:∀(j:Nat) x y,xs[j]?=some x->ys[j]?=some y->EqD K H n x y true):EqT K H (n+1) a b true:=by
 have z:=EqT.lst (K:=K) (H:=H) (n:=n) (e:=fun _=>true) (SqL.of c) (SqL.of d) hl h;rw[all_true] at z;show z
theorem eqT_pl{l r:Addr}(h:PL H l ts tps)(g:PL H r us tps):EqT K H 2 l r true:=by
 show qeM h.1 g.1 (by rw[ya,ya,h.2.len,g.2.len]) fun j x y c d=>?_;rw[yd] at c d
 cases a:ts[j]? with
 | none=>rw[a] at c;cases c
 | some t =>
  cases b:us[j]? with
  | none=>rw[b] at d;cases d
  | some u =>
   rw[a] at c;rw[b] at d;cases c;cases d;have f:j<tps.length:=by rw[<- h.2.len];show(yc.mp a).1
   have e:=qdT (K:=K) (h.2.at_ j t tps[j] a (yb f)) (g.2.at_ j u tps[j] b (yb f));rw[yB rfl] at e;show e
theorem KW:FnScope ["web","thing","paired","tie"] ["web","thing"] (qh zT):=fS
theorem uD:FnScope ["self","thing"] ["self","thing"] (qh za):=fS
noncomputable def qck(a:LS):List (Key×V):=a.map fun s=>(.inr s,.bl true)
theorem qaj(y:Str):∀ a:LS,(jR (qck a) (.inr y:Key)).isSome=decide (y∈a)
 | []=>rfl
 | s::r=>by
  by_cases e:s=y
  .subst e;show(jR (((.inr s:Key),V.bl true)::qck r) _).isSome=_;rw[yB (by simp)];simp[jR]
  .show(jR (((.inr s:Key),V.bl true)::qck r) _).isSome=_;rw[qY (p:=((.inr s:Key),V.bl true)) (fun z=>e (xk z)),qaj y r];apply Yq.mpr;simp[Yo e]
theorem qcl{a:LS}(h:y∉a):zI (qck a) (.inr y:Key) (.bl true)=qck (a++[y]):=by
 have:jR (qck a) (.inr y:Key)=none:=by
  have:=qaj y a;rw[yl h] at this;show Option.isNone_iff_eq_none.mp (by rw[<- Option.not_isSome,this];rfl)
 rw[qaR _ this];unfold qck;rw[yu];rfl
noncomputable def qx(qs:LP):LS:=qs.flatMap fun q=>[q.1,q.2]
noncomputable def prK(qs:LP):List (Key×V):=qs.flatMap fun q=>[(.inr q.1,.str q.2),(.inr q.2,.str q.1)]
noncomputable def pt:LP->Str->Option Str
 | [],_=>none
 | q::r,s=>if q.1=s then some q.2 else if q.2=s then some q.1 else pt r s
theorem jH(s:Str):∀ qs,jR (prK qs) (.inr s:Key)=(pt qs s).map V.str
 | []=>rfl
 | q::r=>by
  show jR (((.inr q.1:Key),V.str q.2)::((.inr q.2:Key),V.str q.1)::prK r) _=(pt (q::r) s).map V.str;unfold pt;by_cases h1:q.1=s
  .rw [jh (p:=((.inr q.1:Key),V.str q.2)) (congrArg Sum.inr h1),yG h1];rfl
  .rw [qY (p:=((.inr q.1:Key),V.str q.2)) (fun z=>h1 (xk z)),yA h1];by_cases a:q.2=s
   .rw [jh (p:=((.inr q.2:Key),V.str q.1)) (congrArg Sum.inr a),yG a];rfl
   .rw [qY (p:=((.inr q.2:Key),V.str q.1)) (fun z=>a (xk z)),yA a,jH s r]
theorem pt_none:∀{qs:LP},pt qs s=none↔s∉qx qs
 | []=>by simp[pt,qx]
 | q::r=>by
  have e:qx (q::r)=q.1::q.2::qx r:=rfl;rw[e];unfold pt;by_cases h1:q.1=s
  .rw [yG h1];simp[h1]
  .rw [yA h1];by_cases a:q.2=s
   .rw [yG a];simp[a]
   .rw [yA a,pt_none];simp only[yy,not_or];show⟨fun z=>⟨Yo h1,Yo a,z⟩,fun z=>z.2.2⟩
structure PGo(ss:LS)(tps qs:LP):Prop where
 inn:∀ q∈qs,(q∈tps\/(q.2,q.1)∈tps)/\q.1∈ss/\q.2∈ss/\q.1≠q.2
 nd:(qx qs).Nodup
 few:qs.length<=30
theorem zU(qs:LP):(qx qs).length=2*qs.length:=by
 induction qs with
 | nil=>rfl
 | cons q r ih=>show(q.1::q.2::qx r).length=_;simp only[yF];lk
theorem zz(qs:LP)(q:Str×Str):qx (qs++[q])=qx qs++[q.1,q.2]:=by
 unfold qx;rw[xY];rfl
theorem PGo.new(g:PGo ss tps qs)(h:qs[i]?=some ab):qs.take (i+1)=qs.take i++[ab]/\(qx (qs.take i++[ab])).Nodup/\ab.1∉qx (qs.take i)/\ab.2∉qx (qs.take i):=by
 have b:qs.take (i+1)=qs.take i++[ab]:=by rw[yM,h];rfl
 have a:(qx (qs.take i++[ab])).Nodup:=by
  rw[<- b];have:qx qs=qx (qs.take (i+1))++qx (qs.drop (i+1)):=by unfold qx;rw[<- xY,List.take_append_drop]
  have e:=g.nd;rw[this] at e;show(Yk.mp e).1
 have c:=a;rw[zz] at c;have d:=(Yk.mp c).2.2;show⟨b,a,fun z=>d _ z ab.1 (by simp) rfl,fun z=>d _ z ab.2 (by simp) rfl⟩
inductive spHt(cw:Addr)(vs:List V)(H:Hp)(Q:VK)(E:XK):Prop|mk (x t:Addr) (ss:LS) (ns:LN) (tps:LP) (ab:Str×Str) (_:vs=[.ref x,.ref t]) (_:WebAt cw H x ss ns) (_:Adj ss ns tps) (_:H t=some (.tup [.str ab.1,.str ab.2])) (_:(ab∈tps\/(ab.2,ab.1)∈tps)) (_:ab.1∈ss) (_:ab.2∈ss) (_:ab.1≠ab.2) (_:∀ H',L2.Same H H'->Q (.bl true) H')
inductive spAp(cw:Addr)(vs:List V)(H:Hp)(Q:VK)(E:XK):Prop|mk (x l:Addr) (ss:LS) (ns:LN) (us:LX) (tps qs:LP) (_:vs=[.ref x,.ref l]) (_:WebAt cw H x ss ns) (_:Adj ss ns tps) (_:PL H l us qs) (_:PGo ss tps qs) (_:∀ H',L2.Same H H'->Q (.bl true) H')
theorem ok_ht(F:Fun K "has_tie" "Web.has_tie" za f fd)(T:Txt K mg cc cw)(y:DefOk P w K mg base CX0 3 "are_two_places" ["numbers","thing"] spTwo)(D:MethOk P w K mg base CX0 6 cw "tied" ["self","one","other"] (spTied cw)):FnOk P w K mg base CX0 7 f fd ["self","thing"] (spHt cw):=by
 show F.ok uD fun _ _ _ _ H vs Q E g h=>?_
 .obtain⟨x,t,ss,ns,tps,ab,rfl,p,z,m,c,m1,m2,e,q⟩:=h;have s:=jV g;obtain⟨u,l,ol,G,r,d,B,A,hw⟩:=id p;show⟨_,(qe (qm (qb1 (qp y (hmR g) qB (qa (qC (K:=K) rfl (pv 0) rfl) (qa (pv 1) qd))) (qb0 (qF D (hmR g) (pv 0) (qa (qu (qv (K:=K) rfl s) (pv 1) qg (fun _ _=>rfl)) (qa (qu (qv (K:=K) rfl s) (pv 1) qg (fun _ _=>rfl)) qd))))))),?_⟩;apply .inl ⟨x,cw,u,_,.ref l,rfl,r,T.wcl,T.wn,jS,?_⟩;apply⟨l,t,ss,ab.1,ab.2,rfl,d,m,hw.nm _ m1,hw.nm _ m2,m1,m2,e,fun H1 b=>?_⟩;show⟨true,rfl,zZ ?_⟩;have a:=b _ _ m;apply⟨x,u,_,rfl,b _ _ r,j0 (by room),?_⟩;apply .inl (zO a (v:=.str ab.1) (qt (j:=0) rfl) ?_);apply .inl (zO a (v:=.str ab.2) (qt (j:=1) rfl) ?_);ext;obtain⟨j,o⟩:=yf m1;obtain⟨i,n⟩:=yf m2;show⟨x,ss,ns,ab.1,ab.2,j,i,rfl,p.same b,o,n,fun H2 C=>?_⟩;rw[(z j i ab.1 ab.2 o n).mpr c];show q H2 (b.trans C)
theorem ok_ap(F:Fun K "are_pairs" "are_pairs" zT f fd)(T:Txt K mg cc cw)(KR:MethOk P w K mg base CX0 7 cw "has_tie" ["self","thing"] (spHt cw)):FnOk P w K mg base CX0 8 f fd ["web","thing"] (spAp cw):=by
 show F.ok KW fun _ _ _ _ H vs Q E W h=>?_
 .obtain⟨x,l,ss,ns,us,tps,qs,rfl,U,hA,⟨hl,r⟩,g,q⟩:=h;have e:=jV W;obtain⟨wx,dd,ol,nn,hb,_⟩:=id U;have few:=g.few;have M:=r.len;show⟨_,(qc (qP (qZ (qU (qr (qaX (K:=K) rfl) rfl T.b_isinstance YO (qa (pv 1) (qa (jz (v:=.ty "list") rfl T.b_list xp rfl) qd))))) (qe (qm js)) qy)
 (qc (qk (i:=2) KW.nd rfl (yJ rfl) j7)
 (qc (jj yY rfl (qS (K:=K) rfl (pv 1)) (qo (i:=3) KW.nd rfl (yJ rfl))
 (qc (qP (PW.pt (zK (qZ (qU (qF KR (hmR W) (pv 0) (qa (pv 3) qd)))) (zK (qj (zQ (K:=K) rfl e) (qu (qv (K:=K) rfl e) (pv 3) qg (fun _ _=>rfl)) (pv 2) (by with_unfolding_all rfl)) (zE (qj (zQ (K:=K) rfl e) (qu (qv (K:=K) rfl e) (pv 3) qg (fun _ _=>rfl)) (pv 2) (by with_unfolding_all rfl)))))) (qe (qm js)) qy)
 (qc (jC js (jN (pv 2) (qu (qv (K:=K) rfl e) (pv 3) qg (fun _ _=>rfl)) (jP e)))
 (qe (jC js (jN (pv 2) (qu (qv (K:=K) rfl e) (pv 3) qg (fun _ _=>rfl)) (jP e)))))))
 (qe (qm js))))),?_⟩
  apply qch (.inl (.lst hl)) rfl (zP K "list" (by simp) "list" (by simp)) ?_;apply yq ?_;ext;intro d C;have N:=qG (Sr H) (o:=.dK []) C;have S:upd H d (.dK []) d=some (.dK (qck [])):=qb;generalize upd H d (.dK [])=H1 at N S;apply .inl ⟨⟨_,.of (N _ _ hl)⟩,jc (xs:=us.map V.ref) (fun i σ J=>L2.Same H J/\∃ O,σ=[some (.ref x),some (.ref l),some (.ref d),O]/\J d=some (.dK (qck (qx (qs.take i))))) ⟨N,_,rfl,S⟩ (fun i σ J _ u=>.of (u.1 _ _ hl)) (fun i y σ J X u=>?_) fun σ J u=>?_⟩
  .obtain⟨n,O,rfl,c⟩:=u;rw[yd] at X;obtain⟨b,s,rfl⟩:=yn.mp X;have hi:i<us.length:=(yc.mp s).1;obtain⟨ab,m⟩:∃ ab,qs[i]?=some ab:=⟨_,yb (by rw[<- M];show hi)⟩;have B:=r.at_ i b ab s m;obtain⟨ht,m1,m2,t⟩:=g.inn ab (ye m);obtain⟨L,aa,Y,Z⟩:=g.new m;have ac:(qx (qs.take i)).length<=60:=by rw[zU,yR];lk
   have I:b≠d:=fun z=>by rw[z,C] at B;cases B
   apply⟨x,wx,_,rfl,n _ _ hb,j0 (by room),?_⟩;apply⟨x,b,ss,ns,tps,ab,rfl,U.same n,hA,n _ _ B,ht,m1,m2,t,fun G D=>?_⟩;have A:=n.trans D;have a:=A _ _ B;apply yq ?_;apply .inl (zO a (v:=.str ab.1) (qt (j:=0) rfl) ?_);apply .inr (.inl ⟨d,_,rfl,DGet.k (k:=Sum.inr ab.1) (D _ _ c),?_⟩);rw[yA (by decide),qaj,yl Y];apply yq ?_;apply .inl (zO a (v:=.str ab.2) (qt (j:=1) rfl) ?_);apply .inr (.inl ⟨d,_,rfl,DGet.k (k:=Sum.inr ab.2) (D _ _ c),?_⟩);rw[yA (by decide),qaj,yl Z];apply yq ?_;apply .inl (zO a (v:=.str ab.1) (qt (j:=0) rfl) ?_);apply .inr ⟨d,_,rfl,DPut.k (k:=Sum.inr ab.1) (D _ _ c) (by unfold qck;rw[ya,YF];lk),?_⟩;rw[qcl Y];have s3:=qaE A (o:=.dK (qck (qx (qs.take i)++[ab.1]))) C;have R:upd G d (.dK (qck (qx (qs.take i)++[ab.1]))) d=some (.dK (qck (qx (qs.take i)++[ab.1]))):=qb;have p:upd G d (.dK (qck (qx (qs.take i)++[ab.1]))) b=some (.tup [.str ab.1,.str ab.2]):=by rw[qf I];show a
   generalize upd G d (.dK (qck (qx (qs.take i)++[ab.1])))=J3 at s3 R p;apply .inl (zO p (v:=.str ab.2) (qt (j:=1) rfl) ?_);apply .inr ⟨d,_,rfl,DPut.k (k:=Sum.inr ab.2) R (by unfold qck;rw[ya,yt,YF];simp only[yF,Y0];lk),?_⟩;rw[qcl (fun z=>by rcases yC.mp z with z | z;show Z z;show t (yH.mp z).symm)];show⟨qaE s3 C,_,rfl,by rw[qb,L,zz,Yl];rfl⟩
  .obtain⟨n,O,rfl,c⟩:=u;apply q J n
theorem KL:FnScope ["web","pairs","partners","pair"] ["web","pairs"] (qh zc):=fS
theorem prK_len(qs:LP):(prK qs).length=2*qs.length:=by
 induction qs with
 | nil=>rfl
 | cons q r ih=>show(_::_::prK r).length=_;simp only[yF];rw[ih];lk
theorem prK_snoc(qs:LP)(q:Str×Str):prK (qs++[q])=prK qs++[(.inr q.1,.str q.2),(.inr q.2,.str q.1)]:=by
 unfold prK;rw[xY];rfl
theorem prK_put{q:Str×Str}(h:(qx (qs++[q])).Nodup):zI (zI (prK qs) (.inr q.1:Key) (.str q.2)) (.inr q.2:Key) (.str q.1)=prK (qs++[q]):=by
 rw[zz] at h;obtain⟨h1,b,c⟩:=Yk.mp h;have e:q.1∉qx qs:=fun z=>c _ z _ (by simp) rfl;have f:q.2∉qx qs:=fun z=>c _ z q.2 (by simp) rfl;have g:q.1≠q.2:=by simp at b;show b
 have i:jR (prK qs) (.inr q.1:Key)=none:=by rw[jH,pt_none.mpr e];rfl
 rw[qaR _ i]
 have a:jR (prK qs++[((.inr q.1:Key),V.str q.2)]) (.inr q.2:Key)=none:=by
  have a:jR (prK qs) (.inr q.2:Key)=none:=by rw[jH,pt_none.mpr f];rfl
  unfold jR at a ⊢;rw[List.find?_append];have:(prK qs).find? (fun d=>decide (d.1=(.inr q.2:Key)))=none:=by simpa using a
  rw[this];simp[g]
 rw[qaR _ a,prK_snoc];simp
inductive spPn(cw:Addr)(vs:List V)(H:Hp)(Q:VK)(E:XK):Prop|mk (x l:Addr) (ss:LS) (ns:LN) (us:LX) (tps qs:LP) (_:vs=[.ref x,.ref l]) (_:WebAt cw H x ss ns) (_:Adj ss ns tps) (_:PL H l us qs) (_:PGo ss tps qs) (_:∀(d:Addr) (H':Hp),L2.Same H H'->H d=none->H' d=some (.dK (prK qs))->Q (.ref d) H')
theorem ok_pn(F:Fun K "partners_in" "partners_in" zc f fd)(T:Txt K mg cc cw)(X:DefOk P w K mg base CX0 8 "are_pairs" ["web","thing"] (spAp cw)):FnOk P w K mg base CX0 9 f fd ["web","pairs"] (spPn cw):=by
 show F.ok KL fun _ _ _ _ H vs Q E R h=>?_
 .obtain⟨x,l,ss,ns,us,tps,qs,rfl,Z,Y,⟨hl,n⟩,g,q⟩:=h;have p:=jV R;have few:=g.few;have u:=n.len;show⟨_,(qc (qP (qZ (qU (qp X (hmR R) qB (qa (pv 0) (qa (pv 1) qd))))) (qe jo) qy)
 (qc (qk (i:=2) KL.nd rfl (yJ rfl) j7)
 (qc (jj yY rfl (qS (K:=K) rfl (pv 1)) (qo (i:=3) KL.nd rfl (yJ rfl))
 (qc (jC (qu (qv (K:=K) rfl p) (pv 3) qg (fun _ _=>rfl)) (jN (pv 2) (qu (qv (K:=K) rfl p) (pv 3) qg (fun _ _=>rfl)) (jP p)))
 (qe (jC (qu (qv (K:=K) rfl p) (pv 3) qg (fun _ _=>rfl)) (jN (pv 2) (qu (qv (K:=K) rfl p) (pv 3) qg (fun _ _=>rfl)) (jP p))))))
 (qe (qm (pv 2)))))),?_⟩
  apply⟨x,l,ss,ns,us,tps,qs,rfl,Z,Y,⟨hl,n⟩,g,fun H1 U=>?_⟩;apply yq ?_;ext;intro d O;have c:=U.free O;have I:=qG U (o:=.dK []) O;have N:upd H1 d (.dK []) d=some (.dK (prK [])):=qb;generalize upd H1 d (.dK [])=H2 at I N;apply .inl ⟨⟨_,.of (I _ _ hl)⟩,jc (xs:=us.map V.ref) (fun i σ J=>L2.Same H J/\∃ L,σ=[some (.ref x),some (.ref l),some (.ref d),L]/\J d=some (.dK (prK (qs.take i)))) ⟨I,_,rfl,N⟩ (fun i σ J _ t=>.of (t.1 _ _ hl)) (fun i y σ J S t=>?_) fun σ J t=>?_⟩
  .obtain⟨A,L,rfl,a⟩:=t;rw[yd] at S;obtain⟨b,s,rfl⟩:=yn.mp S;have hi:i<us.length:=(yc.mp s).1;obtain⟨ab,r⟩:∃ ab,qs[i]?=some ab:=⟨_,yb (by rw[<- u];show hi)⟩;have B:=n.at_ i b ab s r;obtain⟨G,D,n1,n2⟩:=g.new r;have C:b≠d:=fun z=>by rw[z,c] at B;cases B
   have m:=A _ _ B;have aa:(prK (qs.take i)).length<=2000:=by rw[prK_len,yR];lk
   apply .inl (zO m (v:=.str ab.2) (qt (j:=1) rfl) ?_);apply .inl (zO m (v:=.str ab.1) (qt (j:=0) rfl) ?_);apply .inr ⟨d,_,rfl,DPut.k (k:=Sum.inr ab.1) a (by rw[YF];lk),?_⟩;have W:=qaE A (o:=.dK (zI (prK (qs.take i)) (Sum.inr ab.1) (.str ab.2))) c;have M:upd J d (.dK (zI (prK (qs.take i)) (Sum.inr ab.1) (.str ab.2))) d=some (.dK (zI (prK (qs.take i)) (Sum.inr ab.1) (.str ab.2))):=qb;have e:upd J d (.dK (zI (prK (qs.take i)) (Sum.inr ab.1) (.str ab.2))) b=some (.tup [.str ab.1,.str ab.2]):=by rw[qf C];show m
   generalize upd J d (.dK (zI (prK (qs.take i)) (Sum.inr ab.1) (.str ab.2)))=J3 at W M e;apply .inl (zO e (v:=.str ab.1) (qt (j:=0) rfl) ?_);apply .inl (zO e (v:=.str ab.2) (qt (j:=1) rfl) ?_);apply .inr ⟨d,_,rfl,DPut.k (k:=Sum.inr ab.2) M ?_,?_⟩
   .have:=jB (prK (qs.take i)) (Sum.inr ab.1:Key) (.str ab.2);rw[YF];lk
   .show⟨qaE W c,_,rfl,by rw[qb,prK_put D,G]⟩
  .obtain⟨A,L,rfl,a⟩:=t;rw[ya,u,yS] at a;apply q d J A c a
structure Gr(A:Str->Str->Prop)(f:Str->Option Str):Prop where
 as:∀{a b},A a b->A b a
 ir:∀{a b},A a b->a≠b
 fs:∀{a b},f a=some b->f b=some a
 fa:∀{a b},f a=some b->A a b
structure FS where
 rows:Str->Option (LS)
 par:Str->Option Str
 bas:Str->Str
def Turns(A:Str->Str->Prop)(f:Str->Option Str)(r:LS):Prop:=∀(j:Nat) a b,r[j]?=some a->r[j+1]?=some b->A a b/\(f a=some b↔j % 2=1)
structure Alt(A:Str->Str->Prop)(f:Str->Option Str)(r:LS)(v:Str):Prop where
 nd:r.Nodup
 odd:r.length % 2=1
 hd:∀ s,r[0]?=some s->f s=none
 tl:∃ r0,r=r0++[v]
 st:Turns A f r
structure FI(A:Str->Str->Prop)(f:Str->Option Str)(S:FS):Prop where
 alt:∀ v r,S.rows v=some r->Alt A f r v
 bse:∀ v r,S.rows v=some r->∃ rb t,S.rows (S.bas v)=some rb/\r=rb++t/\∀ u∈t,S.bas u=S.bas v
 idm:∀ v r,S.rows v=some r->S.bas (S.bas v)=S.bas v
 dwn:∀ b r q,S.rows b=some r->S.bas b=b->f b=some q->S.rows q=none/\∃ z rz,S.par q=some z/\S.rows z=some rz/\r=rz++[q,b]
 mat:∀ v,S.bas v≠v->(∃ r,S.rows v=some r)/\∃ u,f v=some u/\S.bas u=S.bas v
 odd:∀ x z,S.par x=some z->A z x/\(∃ r,S.rows z=some r)/\∃ y r,f x=some y/\S.rows y=some r
section
variable{A:Str->Str->Prop}{f:Str->Option Str}{S:FS}
theorem FI.own(I:FI A f S)(h:S.rows v=none):S.bas v=v:=Yj fun z=>by
 obtain⟨⟨r,e⟩,_⟩:=I.mat v z;rw[h] at e;cases e
theorem FI.evb(I:FI A f S){r:LS}(h:S.rows v=some r):∃ a,S.rows (S.bas v)=some a:=(I.bse v r h).elim fun a z=>⟨a,z.elim fun _ y=>y.1⟩
theorem FI.pair(I:FI A f S){w:Str}{r s:LS}(hv:S.rows v=some r)(hw:S.rows w=some s)(h:f v=some w):S.bas v=S.bas w:=by
 by_cases z:S.bas v=v
 .have:=(I.dwn v r w hv z h).1;rw[hw] at this;cases this
 .obtain⟨_,u,a,e⟩:=I.mat v z;rw[h] at a;cases a;show e.symm
inductive Ch(f:Str->Option Str)(S:FS):Str->LS->Prop
 | root {b:Str}:f b=none->Ch f S b [b]
 | step {b q z:Str} {l:LS}:f b=some q->S.par q=some z->Ch f S (S.bas z) l->Ch f S b (b::l)
theorem Ch.one(h:Ch f S b l):∀{m},Ch f S b m->m=l:=by
 induction h with
 | root e=>intro m g;cases g with
  | root _=>rfl
  | step e' _ _=>rw[e] at e';cases e'
 | step e p _ ih=>intro m g;cases g with
  | root e'=>rw[e] at e';cases e'
  | step e' p' g'=>rw[e] at e';cases e';rw[p] at p';cases p';rw[ih g']
theorem Ch.ne(h:Ch f S b l):∃ t,l=b::t:=by cases h<;>show⟨_,rfl⟩
theorem FI.chain(I:FI A f S):∀(n:Nat) {b:Str} {r:LS},r.length<=n->S.rows b=some r->S.bas b=b->∃ l,Ch f S b l
 | n,b,r,hn,hb,hbb=>by
  cases e:f b with
  | none=>show⟨_,.root e⟩
  | some q =>
   obtain⟨_,z,rz,p,hz,c⟩:=I.dwn b r q hb hbb e;obtain⟨a,t,h1,d,_⟩:=I.bse z rz hz;have hl:a.length<n:=by rw[c,d] at hn;simp at hn;lk
   match n,hl with
   | n+1,hl =>
    obtain⟨l,g⟩:=I.chain n (b:=S.bas z) (r:=a) (by lk) h1 (I.idm z rz hz);show⟨_,.step e p g⟩
theorem FI.chainOf(I:FI A f S){r:LS}(h:S.rows v=some r):∃ l,Ch f S (S.bas v) l:=by
 obtain⟨a,e⟩:=I.evb h;show I.chain _ (yh _) e (I.idm v r h)
def Cov(f:Str->Option Str)(S:FS)(l:LS)(u:Str):Prop:=∃ d∈l,S.bas u=d\/f d=some u
theorem Cov.mono{m:LS}(h:Cov f S l u)(a:∀ d∈l,d∈m):Cov f S m u:=h.elim fun d z=>⟨d,a d z.1,z.2⟩
theorem Ch.up(I:FI A f S)(h:Ch f S b l):∀{v:Str} {r:LS},S.rows v=some r->S.bas v=b->∀{l1 l2:LS} {c:Str},l=l1++c::l2->∃ s t,S.rows c=some s/\S.bas c=c/\Ch f S c (c::l2)/\r=s++t/\∀ u∈t,S.bas u=c\/Cov f S l1 u:=by
 induction h with
 | root e =>
  intro v r hv m l1 l2 c j
  cases l1 with
  | cons x y=>show absurd (congrArg List.length j) (by simp)
  | nil =>
   cases j;obtain⟨o,t,h1,n,i⟩:=I.bse v r hv;rw[m] at h1 i;show⟨o,t,h1,by rw[<- m];show I.idm v r hv,.root e,n,fun u hu=>.inl (i u hu)⟩
 | @step b q z l e p g ih =>
  intro v r hv m l1 l2 c j;obtain⟨o,t,h1,n,i⟩:=I.bse v r hv;rw[m] at h1 i;have a:S.bas b=b:=by rw[<- m];show I.idm v r hv
  cases l1 with
  | nil =>
   cases j;show⟨o,t,h1,a,.step e p g,n,fun u hu=>.inl (i u hu)⟩
  | cons x y =>
   cases j;obtain⟨J,K,rz,w,hz,B⟩:=I.dwn b o q h1 a e;rw[p] at w;cases w;obtain⟨s,t',D,E,F,G,H⟩:=ih hz rfl rfl;show⟨s,t'++[q,b]++t,D,E,F,by rw[n,B,G];simp,fun u hu=>?_⟩;rcases yC.mp hu with hu | hu
   .rcases yC.mp hu with hu | hu
    .show(H u hu).imp id fun z=>z.mono fun d C=>yz _ C
    .simp only[yy,Yb,YL] at hu;rcases hu with rfl | rfl
     .show .inr ⟨b,yO,.inr e⟩
     .show .inr ⟨_,yO,.inl a⟩
   .show .inr ⟨b,yO,.inl (i u hu)⟩
theorem Ch.bs0(I:FI A f S){r:LS}(hv:S.rows v=some r)(h:Ch f S (S.bas v) l)(hc:c∈l):∃ a,S.rows c=some a/\S.bas c=c:=by
 obtain⟨l1,l2,e⟩:=Yu hc;obtain⟨a,_,h1,b,_⟩:=h.up I hv rfl e;show⟨a,h1,b⟩
theorem Ch.cov(G:Gr A f)(I:FI A f S){r:LS}(hv:S.rows v=some r)(h:Ch f S (S.bas v) l)(hu:u∈r):Cov f S l u:=by
 have hl:l≠[]:=by obtain⟨t,e⟩:=h.ne;rw[e];show kO _ _
 obtain⟨o,t,h1,s,w,x,y⟩:=h.up I hv rfl (xt hl).symm;have b:l.getLast hl∈l:=List.getLast_mem hl;rw[x] at hu;rcases yC.mp hu with hu | hu
 .have D:f (l.getLast hl)=none:=by
   cases w with
   | root e=>show e
   | step _ _ g=>obtain⟨_,e⟩:=g.ne;cases e
  have c:=I.alt _ _ h1;obtain⟨q,i⟩:=c.tl
  have m:q=[]:=by
   cases j:q.length with
   | zero=>show List.eq_nil_of_length_eq_zero j
   | succ n =>
    exfalso;have p:o.length=n+2:=by rw[i];simp[j]
    obtain⟨a,B⟩:∃ a,o[n]?=some a:=⟨_,yb (by lk)⟩;have C:o[n+1]?=some (l.getLast hl):=by rw[i,yP (by lk),j];simp
    have:=G.fs ((c.st n a _ B C).2.mpr (by have:=c.odd;lk));rw[D] at this;cases this
  rw[i,m] at hu;have e:u=l.getLast hl:=by simpa using hu
  show⟨_,b,.inl (by rw[e];show s)⟩
 .rcases y u hu with z | ⟨d,hd,z⟩
  .show⟨_,b,.inl z⟩
  .show⟨d,List.dropLast_subset l hd,z⟩
theorem Cov.apart(G:Gr A f)(I:FI A f S){m:LS}(hl:∀ d∈l,∃ r,S.rows d=some r/\S.bas d=d)(n:∀ d∈m,∃ r,S.rows d=some r/\S.bas d=d)(t:∀ d∈l,d∉m)(h1:Cov f S l u)(p:Cov f S m u):False:=by
 have i:∀{d e:Str},(∃ r,S.rows d=some r/\S.bas d=d)->(∃ r,S.rows e=some r/\S.bas e=e)->S.bas u=d->f e=some u->False:=fun⟨r,b,q⟩ ⟨s,g,j⟩ h h'=>by
  have o:=(I.dwn _ _ _ g j h').1;have:=I.own o;rw[h] at this;rw[this,o] at b;cases b
 obtain⟨d,b,z⟩:=h1;obtain⟨e,g,y⟩:=p;have c:d≠e:=fun w=>t d b (by rw[w];show g);rcases z with z | z<;>rcases y with y | y
 .show c (z.symm.trans y)
 .show i (hl d b) (n e g) z y
 .show i (n e g) (hl d b) y z
 .have a:=G.fs z;rw[G.fs y] at a;show c (ym a).symm
theorem Turns.app{r s:LS}(h:Turns A f r)(g:∀(j:Nat) a b,s[j]?=some a->s[j+1]?=some b->A a b/\(f a=some b↔(r.length+j) % 2=1))(w:∀ a b,r[r.length-1]?=some a->s[0]?=some b->0<r.length->A a b/\(f a=some b↔(r.length-1) % 2=1)):Turns A f (r++s):=fun j a b c d=>by
 by_cases h1:j+1<r.length
 .rw [Yg (by lk)] at c;rw[Yg h1] at d;show h j a b c d
 .by_cases e:j+1=r.length
  .rw [Yg (by lk),show j=r.length-1 by lk] at c;rw[yP (by lk),show j+1-r.length=0 by lk] at d;rw[show j=r.length-1 by lk];show w a b c d (by lk)
  .rw [yP (by lk)] at c;rw[yP (by lk),show j+1-r.length=j-r.length+1 by lk] at d;have:=g _ a b c d
   rwa[show r.length+(j-r.length)=j by lk] at this
theorem Alt.back(G:Gr A f){r s t:LS}{w q:Str}(hw:Alt A f s w)(hv:Alt A f r v)(i:r=rz++q::c::t)(hz:rz.length % 2=1)(F:A w v)(H:f w≠some v)(B:∀ u∈s,u∉q::c::t):Alt A f (s++(q::c::t).reverse) q:=by
 obtain⟨L,p⟩:=hw.tl;obtain⟨K,l⟩:=hv.tl;have o:0<s.length:=by rw[p];simp
 have I:=hv.odd;have n:r.length=rz.length+(t.length+2):=by rw[i];simp
 have at_:∀{j:Nat} {a:Str},(q::c::t).reverse[j]?=some a->j<t.length+2/\r[r.length-1-j]?=some a:=fun{j a} h=>by
  have hl:=(yc.mp h).1;rw[YG] at hl;simp only[yF] at hl;rw[List.getElem?_reverse (by simp only[yF];lk)] at h;simp only[yF] at h;show⟨by lk,?_⟩;rw[n]
  conv=>lhs;rw[i]
  rw[yP (by lk),show rz.length+(t.length+2)-1-j-rz.length=t.length+1+1-1-j by lk];show h
 show⟨Yk.mpr ⟨hw.nd,?_,fun x J y g e=>B x J (by rw[e];show kP.mp g)⟩,?_,fun y g=>?_,⟨s++(c::t).reverse,by simp⟩,hw.st.app (fun j a b h1 m=>?_) fun a b h1 m _=>?_⟩
 .show(List.reverse_perm _).nodup_iff.mpr ((Yk.mp (i ▸ hv.nd)).2.1)
 .rw [yt,YG];simp only[yF];have:=hw.odd;lk
 .rw [Yg o] at g;show hw.hd y g
 .obtain⟨l1,C⟩:=at_ h1;obtain⟨l2,d⟩:=at_ m;have:=hv.st (r.length-1-(j+1)) b a d (by rw[show r.length-1-(j+1)+1=r.length-1-j by lk];show C);show⟨G.as this.1,⟨fun z=>?_,fun z=>?_⟩⟩
  .have:=this.2.mp (G.fs z);have:=hw.odd;lk
  .show G.fs (this.2.mpr (by have:=hw.odd;lk))
 .have D:a=w:=by
   rw[p,yt,yP (by simp)] at h1;simpa using h1.symm
  have E:b=v:=by
   obtain⟨_,d⟩:=at_ m;rw[Kb,l,yt,yP (by simp)] at d;simpa using d.symm
  subst D;subst E;show⟨F,⟨fun z=>absurd z H,fun z=>by have:=hw.odd;lk⟩⟩
end
section
variable{A:Str->Str->Prop}{f:Str->Option Str}{S S':FS}
theorem Ch.nd(I:FI A f S)(h:Ch f S b l):∀{v:Str} {r:LS},S.rows v=some r->S.bas v=b->l.Nodup:=by
 induction h with
 | root e=>intro _ _ _ _;simp
 | @step b q z l e p g ih =>
  intro v r hv d;have a:S.bas b=b:=by rw[<- d];show I.idm v r hv
  obtain⟨n,h1⟩:=I.evb hv;rw[d] at h1;obtain⟨_,o,rz,i,hz,_⟩:=I.dwn b n q h1 a e;rw[p] at i;cases i;show yo.mpr ⟨fun j=>?_,ih hz rfl⟩;obtain⟨x,y,c⟩:=Yu j;obtain⟨_,_,_,_,m,_⟩:=g.up I hz rfl c;have:=m.one (.step e p g);rw[c] at this;have:=congrArg List.length this;simp at this;lk
theorem Ch.suf(I:FI A f S){r:LS}(hv:S.rows v=some r)(h:Ch f S (S.bas v) l){q:Str}(e:l=l1++c::l2)(b:f c=some q):∃ rz t,r=rz++q::c::t/\rz.length % 2=1/\S.rows q=none/\∀ u∈q::c::t,Cov f S (l1++[c]) u:=by
 obtain⟨p,t,h1,a,_,g,i⟩:=h.up I hv rfl e;obtain⟨m,z,rz,_,n,o⟩:=I.dwn c p q h1 a b;show⟨rz,t,by rw[g,o];simp,(I.alt z rz n).odd,m,fun u hu=>?_⟩;rcases yy.mp hu with rfl | hu
 .show⟨c,by simp,.inr b⟩
 .rcases yy.mp hu with rfl | hu
  .show⟨u,by simp,.inl a⟩
  .rcases i u hu with z | z
   .show⟨c,by simp,.inl z⟩
   .show z.mono fun d j=>yU _ j
theorem Ch.meet(I:FI A f S){w:Str}{r s:LS}(hv:S.rows v=some r)(hw:S.rows w=some s)(h:Ch f S (S.bas v) l)(h':Ch f S (S.bas w) l'){m:Str}(j:l=l1++m::l2)(i:l'=m1++m::m2)(H:∀ d∈l1,d∉l'):m2=l2/\∀ d∈m1,d∉l:=by
 obtain⟨_,_,_,_,k,_⟩:=h.up I hv rfl j;obtain⟨_,_,_,_,k',_⟩:=h'.up I hw rfl i;have D:m2=l2:=(xw (k.one k')).2;show⟨D,fun d J hl=>?_⟩;obtain⟨a,b,B⟩:=Yu J;obtain⟨x,y,ex⟩:=Yu hl;obtain⟨_,_,_,_,g,_⟩:=h.up I hv rfl ex;obtain⟨_,_,_,_,g',_⟩:=h'.up I hw rfl (l1:=a) (c:=d) (l2:=b++m::m2) (by rw[i,B];simp);have t:y=b++m::m2:=(xw (g'.one g)).2;have e:=h.nd I hv rfl;have n:d∈l':=by rw[i,B];simp
 have p:d∉l1:=fun z=>H d z n;have o:d∈m::l2:=by rw[j] at hl;show(yC.mp hl).resolve_left p
 rcases yy.mp o with z | z
 .rw [z] at ex;rw[ex,t] at e;have:=(Yk.mp e).2.1;show(yo.mp this).1 (by simp)
 .have q:m∈x:=by
   obtain⟨K,C,E⟩:=Yu z;have u:l=(l1++m::K)++d::C:=by rw[j,E];simp
   obtain⟨_,_,_,_,G,_⟩:=h.up I hv rfl u;have F:C=y:=(xw (g.one G)).2;rw[u,F] at ex;rw[<- List.append_cancel_right ex];simp
  rw[ex,t] at e;show(Yk.mp e).2.2 m q m (by simp) rfl
def NewRow(S:FS)(v w u:Str)(r:LS):Prop:=∃ rv rw rz t,S.rows v=some rv/\S.rows w=some rw/\rv=rz++u::t/\r=rw++(u::t).reverse
def InR(f:Str->Option Str)(m:Str)(a:LS)(u:Str):Prop:=u=m\/∃ c∈a,u=c\/f c=some u
structure Mg(f:Str->Option Str)(S S':FS)(v w m:Str)(l1 m1:LS):Prop where
 par:S'.par=S.par
 old:∀ u r,S.rows u=some r->S'.rows u=some r
 new:∀ u r,S'.rows u=some r->S.rows u=some r\/(∃ c∈l1,f c=some u/\NewRow S v w u r)\/(∃ c∈m1,f c=some u/\NewRow S w v u r)
 all:∀ c∈l1++m1,∀ q,f c=some q->∃ r,S'.rows q=some r
 inn:∀ u,InR f m (l1++m1) (S.bas u)->S'.bas u=m
 out:∀ u,¬ InR f m (l1++m1) (S.bas u)->S'.bas u=S.bas u
theorem qeN{a b c d:LS}{x:Str}(h:(a++x::b).Nodup)(e:a++x::b=c++x::d):a=c/\b=d:=by
 induction a generalizing c with
 | nil =>
  cases c with
  | nil=>show⟨rfl,(xw e).2⟩
  | cons y c =>
   obtain⟨f,g⟩:=xw e;show absurd (show x∈b by rw[g];simp) (yo.mp h).1
 | cons y a ih =>
  cases c with
  | nil =>
   obtain⟨f,g⟩:=xw e;show absurd (show y∈a++x::b by rw[f];simp) (yo.mp h).1
  | cons z c =>
   obtain⟨f,g⟩:=xw e;obtain⟨h1,i⟩:=ih (yo.mp h).2 g;show⟨by rw[f,h1],i⟩
theorem NewRow.ok(G:Gr A f)(I:FI A f S){w:Str}{r:LS}(hv:S.rows v=some rv)(hw:S.rows w=some rw)(h:Ch f S (S.bas v) l)(h':Ch f S (S.bas w) l')(o:l=l1++l2)(J:∀ d∈l1,d∉l')(F:A w v)(H:S.bas w≠S.bas v)(hc:c∈l1)(L:f c=some u)(K:NewRow S v w u r) :
  Alt A f r u/\S.rows u=none/\∃ t,r=rw++t/\∀ x∈t,Cov f S l1 x:=by
 obtain⟨M,N,rz,t,p,q,s,y⟩:=K;rw[hv] at p;cases p;rw[hw] at q;cases q;obtain⟨a,b,n⟩:=Yu hc;obtain⟨O,t',j,B,C,m⟩:=h.suf I hv (l1:=a) (c:=c) (l2:=b++l2) (by rw[o,n];simp) L;have e:=(I.alt v rv hv).nd;obtain⟨D,E⟩:=qeN (by rw[<- s];show e) (s.symm.trans j);subst D;subst E;have sub:∀ d∈a++[c],d∈l1:=fun d z=>by rw[n];rcases yC.mp z with z | z;show yU _ z;rw[yH.mp z];simp
 have inl:∀ d∈l1,d∈l:=fun d z=>by rw[o];show yU _ z
 show⟨?_,C,_,y,fun x g=>(m x (kP.mp g)).mono sub⟩;rw[y];show Alt.back G (I.alt w rw hw) (I.alt v rv hv) j B F (fun z=>H (I.pair hw hv z)) fun x g i=>?_;show Cov.apart G I (fun d z=>h.bs0 I hv (inl d (sub d z))) (fun d z=>h'.bs0 I hw z) (fun d z=>J d (sub d z)) (m x i) (h'.cov G I hw g)
theorem FI.merge(G:Gr A f)(I:FI A f S){w m:Str}(hv:S.rows v=some rv)(hw:S.rows w=some rw)(h:Ch f S (S.bas v) (l1++m::l2))(h':Ch f S (S.bas w) (m1++m::l2))(hd:∀ d∈l1,d∉m1++m::l2)(U:∀ d∈m1,d∉l1++m::l2)(ha:A v w)(hb:S.bas v≠S.bas w)(M:Mg f S S' v w m l1 m1):FI A f S':=by
 have hm:∃ r,S.rows m=some r/\S.bas m=m:=h.bs0 I hv (by simp);obtain⟨P,H,W⟩:=hm
 have B:∀ c∈l1++m1,(∃ r,S.rows c=some r/\S.bas c=c)/\c≠m/\∃ q,f c=some q/\S.rows q=none:=fun c hc=>by
  rcases yC.mp hc with z | z
  .show⟨h.bs0 I hv (yU _ z),fun e=>hd c z (by rw[e];simp),?_⟩;obtain⟨a,b,E⟩:=Yu z;obtain⟨rc,_,D,o,p,_⟩:=h.up I hv rfl (l1:=a) (c:=c) (l2:=b++m::l2) (by rw[E];simp);generalize l:b++m::l2=x at p
   cases p with
   | root _=>show absurd (congrArg List.length l) (by simp)
   | step e _ _=>show⟨_,e,(I.dwn _ _ _ D o e).1⟩
  .show⟨h'.bs0 I hw (yU _ z),fun e=>U c z (by rw[e];simp),?_⟩;obtain⟨a,b,E⟩:=Yu z;obtain⟨rc,_,D,o,p,_⟩:=h'.up I hw rfl (l1:=a) (c:=c) (l2:=b++m::l2) (by rw[E];simp);generalize l:b++m::l2=x at p
   cases p with
   | root _=>show absurd (congrArg List.length l) (by simp)
   | step e _ _=>show⟨_,e,(I.dwn _ _ _ D o e).1⟩
 have cov:∀ u,Cov f S (l1++m1) u->S'.bas u=m:=fun u ⟨d,hd,z⟩=>by
  show M.inn u ?_;rcases z with z | z
  .show .inr ⟨d,hd,.inl z⟩
  .have hn:=(B d hd).2.2;obtain⟨q,e,F⟩:=hn;rw[z] at e;cases e;rw[I.own F];show .inr ⟨d,hd,.inr z⟩
 have K:∀ u,Cov f S l1 u->S'.bas u=m:=fun u z=>cov u (z.mono fun d y=>yU _ y);have L:∀ u,Cov f S m1 u->S'.bas u=m:=fun u z=>cov u (z.mono fun d y=>yT _ y);have bm:∀ u,S.bas u=m->S'.bas u=m:=fun u z=>M.inn u (.inl z);have m0:S'.bas m=m:=bm m W;have Z:=M.old m P H
 have J:∀{x:Str} {rx a b:LS},S.rows x=some rx->Ch f S (S.bas x) (a++m::b)->(∀ d∈a,d∈l1++m1)->∃ t,rx=P++t/\∀ u∈t,S'.bas u=m:=fun{x rx a b} l hc hs=>by
  obtain⟨rc,t,D,_,_,R,g5⟩:=hc.up I l rfl rfl;rw[H] at D;cases D;show⟨t,R,fun u j=>(g5 u j).elim (bm u) fun z=>cov u (z.mono hs)⟩
 have nw:∀ u r,(∃ c∈l1,f c=some u/\NewRow S v w u r)\/(∃ c∈m1,f c=some u/\NewRow S w v u r)->Alt A f r u/\S.rows u=none/\S'.bas u=m/\∃ t,r=P++t/\∀ x∈t,S'.bas x=m:=fun u r z=>by
  rcases z with⟨c,hc,j,C⟩ | ⟨c,hc,j,C⟩
  .obtain⟨D,o,t,p,R⟩:=NewRow.ok G I hv hw h h' rfl hd (G.as ha) (Yo hb) hc j C;obtain⟨t0,p1,p2⟩:=J hw h' fun d y=>yT _ y;show⟨D,o,K u ⟨c,hc,.inr j⟩,t0++t,by rw[p,p1];simp,fun x l=>(yC.mp l).elim (p2 x) fun y=>K x (R x y)⟩
  .obtain⟨D,o,t,p,R⟩:=NewRow.ok G I hw hv h' h rfl U ha hb hc j C;obtain⟨t0,p1,p2⟩:=J hv h fun d y=>yU _ y;show⟨D,o,L u ⟨c,hc,.inr j⟩,t0++t,by rw[p,p1];simp,fun x l=>(yC.mp l).elim (p2 x) fun y=>L x (R x y)⟩
 have af:∀ u r,S.rows u=some r->InR f m (l1++m1) (S.bas u)->S.bas u=m\/S.bas u∈l1++m1:=fun u r j z=>by
  rcases z with z | ⟨c,hc,z | z⟩
  .show .inl z
  .show .inr (by rw[z];show hc)
  .obtain⟨q,e,F⟩:=(B c hc).2.2;rw[z] at e;cases e;obtain⟨rb,n⟩:=I.evb j;rw[F] at n;cases n
 show⟨fun u r j=>?_,fun u r j=>?_,fun u r j=>?_,fun b r q aa O F=>?_,fun u j=>?_,fun x z l=>?_⟩
 .rcases M.new u r j with z | z
  .show I.alt u r z
  .show(nw u r z).1
 .rcases M.new u r j with z | z
  .by_cases i:InR f m (l1++m1) (S.bas u)
   .rw [M.inn u i];show⟨P,?_⟩
    have:∃ t,r=P++t/\∀ x∈t,S'.bas x=m:=by
     rcases af u r z i with y | y
     .obtain⟨rb,t,N,n,e3⟩:=I.bse u r z;rw[y,H] at N;cases N;show⟨t,n,fun x l=>bm x ((e3 x l).trans y)⟩
     .rcases yC.mp y with y | y
      .obtain⟨a,b,E⟩:=Yu y;obtain⟨_,_,_,_,g,_⟩:=h.up I hv rfl (l1:=a) (c:=S.bas u) (l2:=b++m::l2) (by rw[E];simp);show J z (a:=S.bas u::b) (by simpa using g) fun d hd=>by rw[E];rcases yy.mp hd with rfl | hd<;>simp[*]
      .obtain⟨a,b,E⟩:=Yu y;obtain⟨_,_,_,_,g,_⟩:=h'.up I hw rfl (l1:=a) (c:=S.bas u) (l2:=b++m::l2) (by rw[E];simp);show J z (a:=S.bas u::b) (by simpa using g) fun d hd=>by rw[E];rcases yy.mp hd with rfl | hd<;>simp[*]
    obtain⟨t,N,n⟩:=this;show⟨t,Z,N,n⟩
   .rw [M.out u i];obtain⟨rb,t,N,n,e3⟩:=I.bse u r z;show⟨rb,t,M.old _ _ N,n,fun x l=>by rw[M.out x (by rw[e3 x l];show i)];show e3 x l⟩
  .obtain⟨_,_,e,t,N,n⟩:=nw u r z;rw[e];show⟨P,t,Z,N,n⟩
 .by_cases i:InR f m (l1++m1) (S.bas u)
  .rw [M.inn u i];show m0
  .rw [M.out u i];rcases M.new u r j with z | z
   .have e:=I.idm u r z;rw[M.out _ (by rw[e];show i)];show e
   .obtain⟨_,o,_⟩:=nw u r z;have e:=I.own o;rw[e,M.out u (by rw[e] at i ⊢;show i)];show e
 .have ac:S.bas b=b/\(b=m\/¬ InR f m (l1++m1) (S.bas b)):=by
   by_cases i:InR f m (l1++m1) (S.bas b)
   .have:=M.inn b i;rw[O] at this;rw[this];show⟨W,.inl rfl⟩
   .have:=M.out b i;rw[O] at this;show⟨this.symm,.inr i⟩
  obtain⟨T,ad⟩:=ac
  have C:S.rows b=some r:=by
   rcases M.new b r aa with z | z
   .show z
   .exfalso;obtain⟨_,o,p,_⟩:=nw b r z;rw[O] at p;rw[p,H] at o;cases o
  obtain⟨k1,z,rz,k2,k3,k4⟩:=I.dwn b r q C T F;show⟨?_,z,rz,by rw[M.par];show k2,M.old _ _ k3,k4⟩
  cases e:S'.rows q with
  | none=>rfl
  | some s =>
   exfalso
   have Y:∀ c∈l1++m1,f c=some q->False:=fun c hc ae=>by
    have:=G.fs ae;rw[G.fs F] at this;have n:=ym this;subst n;rcases ad with y | y
    .show(B b hc).2.1 y
    .show y (.inr ⟨b,hc,.inl T⟩)
   rcases M.new q s e with y | ⟨c,hc,y,_⟩ | ⟨c,hc,y,_⟩
   .rw [k1] at y;cases y
   .show Y c (yU _ hc) y
   .show Y c (yT _ hc) y
 .by_cases i:InR f m (l1++m1) (S.bas u)
  .rw [M.inn u i] at j ⊢;by_cases X:S.bas u=u
   .rw [X] at i;rcases i with z | ⟨c,hc,z | z⟩
    .show absurd z.symm j
    .subst z;obtain⟨⟨r,C,_⟩,_,q,F,_⟩:=B u hc;show⟨⟨r,M.old _ _ C⟩,q,F,cov q ⟨u,hc,.inr F⟩⟩
    .show⟨M.all c hc u z,c,G.fs z,cov c ⟨c,hc,.inl (B c hc).1.choose_spec.2⟩⟩
   .obtain⟨⟨r,C⟩,y,hy,e⟩:=I.mat u X;show⟨⟨r,M.old _ _ C⟩,y,hy,M.inn y (by rw[e];show i)⟩
  .rw [M.out u i] at j ⊢;obtain⟨⟨r,C⟩,y,hy,e⟩:=I.mat u j;show⟨⟨r,M.old _ _ C⟩,y,hy,by rw[M.out y (by rw[e];show i)];show e⟩
 .rw [M.par] at l;obtain⟨k1,⟨r,k2⟩,y,s,k3,k4⟩:=I.odd x z l;show⟨k1,⟨r,M.old _ _ k2⟩,y,s,k3,M.old _ _ k4⟩
end
structure Aug(A:Str->Str->Prop)(f:Str->Option Str)(r:LS):Prop where
 nd:r.Nodup
 two:2<=r.length
 ev:r.length % 2=0
 st:Turns A f r
 hd:∀ s,r[0]?=some s->f s=none
 tl:∀ s,r[r.length-1]?=some s->f s=none
section
variable{A:Str->Str->Prop}{f:Str->Option Str}{S S':FS}
theorem FI.aug(G:Gr A f)(I:FI A f S){w:Str}(hv:S.rows v=some rv)(hw:S.rows w=some rw)(h:Ch f S (S.bas v) l)(h':Ch f S (S.bas w) l')(hl:l.getLast?≠l'.getLast?)(E:A v w):Aug A f (rv++rw.reverse):=by
 have n:∀ d∈l,d∉l':=fun d F p=>by
  obtain⟨a,b,e⟩:=Yu F;obtain⟨x,y,q⟩:=Yu p;obtain⟨_,_,_,_,k,_⟩:=h.up I hv rfl e;obtain⟨_,_,_,_,k',_⟩:=h'.up I hw rfl q;have:=k.one k';show hl (by rw[e,q,this,Xs,Xs];rfl)
 have c:=I.alt v rv hv;have g:=I.alt w rw hw;obtain⟨O,r⟩:=c.tl;obtain⟨P,t⟩:=g.tl;have K:0<rv.length:=by rw[r];simp
 have L:0<rw.length:=by rw[t];simp
 have M:=c.odd;have N:=g.odd
 have H:f v≠some w:=fun z=>by
  have e:=I.pair hv hw z;have:=h.one (e ▸ h');rw[this] at hl;show hl rfl
 have at_:∀{j:Nat} {a:Str},rw.reverse[j]?=some a->j<rw.length/\rw[rw.length-1-j]?=some a:=fun{j a} e=>by
  have hl:=(yc.mp e).1;rw[YG] at hl;rw[List.getElem?_reverse hl] at e;show⟨hl,e⟩
 show⟨Yk.mpr ⟨c.nd,(List.reverse_perm _).nodup_iff.mpr g.nd,fun x J y u e=>?_⟩,by rw[yt,YG];lk,by rw[yt,YG];lk,c.st.app (fun j a b h1 o=>?_) fun a b h1 o _=>?_,fun s i=>?_,fun s i=>?_⟩
 .rw [<- e] at u;show Cov.apart G I (fun d z=>h.bs0 I hv z) (fun d z=>h'.bs0 I hw z) n (h.cov G I hv J) (h'.cov G I hw (kP.mp u))
 .obtain⟨l1,B⟩:=at_ h1;obtain⟨l2,m⟩:=at_ o;have:=g.st (rw.length-1-(j+1)) b a m (by rw[show rw.length-1-(j+1)+1=rw.length-1-j by lk];show B);show⟨G.as this.1,⟨fun z=>?_,fun z=>?_⟩⟩
  .have:=this.2.mp (G.fs z);lk
  .show G.fs (this.2.mpr (by lk))
 .have C:a=v:=by
   rw[r,yt,yP (by simp)] at h1;simpa using h1.symm
  have D:b=w:=by
   obtain⟨_,m⟩:=at_ o;rw[Kb,t,yt,yP (by simp)] at m;simpa using m.symm
  subst C;subst D;show⟨E,⟨fun z=>absurd z H,fun z=>by lk⟩⟩
 .rw [Yg K] at i;show c.hd s i
 .rw [yt,YG,yP (by lk),show rv.length+rw.length-1-rv.length=rw.length-1 by lk] at i;obtain⟨_,e⟩:=at_ i;rw[kU] at e;show g.hd s e
structure Gw(S S':FS)(p u y:Str)(r:LS):Prop where
 ry:S'.rows y=some (r++[u,y])
 ro:∀ s,s≠y->S'.rows s=S.rows s
 pu:S'.par u=some p
 po:∀ s,s≠u->S'.par s=S.par s
 ba:S'.bas=S.bas
theorem FI.fresh(G:Gr A f)(I:FI A f S)(a:S.rows u=none)(g:S.par u=none)(c:f u=some y):S.rows y=none:=by
 cases e:S.rows y with
 | none=>rfl
 | some s =>
  exfalso;by_cases z:S.bas y=y
  .obtain⟨_,_,_,k,_⟩:=I.dwn y s u e z (G.fs c);rw[g] at k;cases k
  .obtain⟨_,x,b,k⟩:=I.mat y z;rw[G.fs c] at b;cases b;rw[I.own a] at k;obtain⟨h,d⟩:=I.evb e;rw[<- k,a] at d;cases d
theorem FI.grow(G:Gr A f)(I:FI A f S){p:Str}{r:LS}(n:S.rows p=some r)(N:A p u)(o:S.rows u=none)(J:S.par u=none)(m:f u=some y)(W:Gw S S' p u y r):FI A f S':=by
 have c:=I.fresh G o J m;have R:u≠y:=G.ir (G.fa m);have py:p≠y:=fun z=>by rw[z,c] at n;cases n
 have old:∀ s t,S.rows s=some t->S'.rows s=some t:=fun s t e=>by rw[W.ro s (fun z=>by rw[z,c] at e;cases e)];show e
 have new:∀ s t,S'.rows s=some t->(s=y/\t=r++[u,y])\/(s≠y/\S.rows s=some t):=fun s t e=>by
  by_cases z:s=y
  .subst z;rw[W.ry] at e;show .inl ⟨rfl,(ym e).symm⟩
  .rw [W.ro s z] at e;show .inr ⟨z,e⟩
 obtain⟨l,hl⟩:=I.chainOf n
 have B:∀ x∈r,x≠u/\x≠y:=fun x C=>by
  obtain⟨d,U,z⟩:=hl.cov G I n C;obtain⟨rd,g,i⟩:=hl.bs0 I n U;show⟨fun e=>?_,fun e=>?_⟩
  .rw [e] at z;rcases z with z | z
   .rw [I.own o] at z;rw[z,g] at o;cases o
   .obtain⟨_,_,_,k,_⟩:=I.dwn d rd u g i z;rw[J] at k;cases k
  .rw [e] at z;rcases z with z | z
   .rw [I.own c] at z;rw[z,g] at c;cases c
   .have:=G.fs z;rw[G.fs m] at this;rw[ym this,g] at o;cases o
 have w:=I.alt p r n;obtain⟨r0,M⟩:=w.tl;have K:0<r.length:=by rw[M];simp
 show⟨fun v t e=>?_,fun v t e=>?_,fun v t e=>?_,fun b t q e O E=>?_,fun v e=>?_,fun x z e=>?_⟩
 .rcases new v t e with⟨rfl,rfl⟩ | ⟨_,e⟩
  .show⟨Yk.mpr ⟨w.nd,by simp[R],fun x C z hz D=>?_⟩,by rw[yt];have:=w.odd;simp only[yF,Y0];lk,fun s P=>?_,⟨r++[u],by simp⟩,w.st.app (fun j a b h1 H=>?_) fun a b h1 H _=>?_⟩
   .obtain⟨Y,Z⟩:=B x C;simp only[yy,Yb,YL] at hz;rcases hz with rfl | rfl
    .show Y D
    .show Z D
   .rw [Yg K] at P;show w.hd s P
   .have X:j=0:=by have:=(yc.mp H).1;simp at this;lk
    subst X;cases h1;cases H;show⟨G.fa m,⟨fun _=>by have:=w.odd;lk,fun _=>m⟩⟩
   .cases H
    have T:a=p:=by
     rw[M,yt,yP (by simp)] at h1;simpa using h1.symm
    subst T;show⟨N,⟨fun z=>?_,fun z=>by have:=w.odd;lk⟩⟩;have:=G.fs z;rw[m] at this;show absurd (ym this).symm py
  .show I.alt v t e
 .rw [W.ba];rcases new v t e with⟨rfl,rfl⟩ | ⟨_,e⟩
  .rw [I.own c];show⟨_,[],W.ry,by simp,(fun x h=>by cases h)⟩
  .obtain⟨rb,s,g,i,F⟩:=I.bse v t e;show⟨rb,s,old _ _ g,i,F⟩
 .rw [W.ba];rcases new v t e with⟨rfl,rfl⟩ | ⟨_,e⟩
  .rw [I.own c,I.own c]
  .show I.idm v t e
 .rw [W.ba] at O;rcases new b t e with⟨rfl,rfl⟩ | ⟨_,e⟩
  .rw [G.fs m] at E;cases E;show⟨by rw[W.ro u R];show o,p,r,W.pu,old _ _ n,rfl⟩
  .obtain⟨g,z,rz,i,F,L⟩:=I.dwn b t q e O E;show⟨?_,z,rz,?_,old _ _ F,L⟩
   .rw [W.ro q fun z=>?_]
    .show g
    .rw [z] at E;have:=G.fs E;rw[G.fs m] at this;rw[<- ym this,o] at e;cases e
   .rw [W.po q fun z=>?_]
    .show i
    .rw [z,J] at i;cases i
 .rw [W.ba] at e ⊢;obtain⟨⟨t,g⟩,i⟩:=I.mat v e;show⟨⟨t,old _ _ g⟩,i⟩
 .by_cases C:x=u
  .subst C;rw[W.pu] at e;cases e;show⟨N,⟨r,old _ _ n⟩,y,_,m,W.ry⟩
  .rw [W.po x C] at e;obtain⟨g,⟨t,i⟩,y',s,F,L⟩:=I.odd x z e;show⟨g,⟨t,old _ _ i⟩,y',s,F,old _ _ L⟩
theorem FI.start(h1:∀ v r,S.rows v=some r->f v=none/\r=[v])(d:∀ x,S.par x=none)(c:∀ v,S.bas v=v):FI A f S:=by
 show⟨fun v r e=>?_,fun v r e=>?_,fun v r e=>by rw[c,c],fun b r q e _ g=>?_,fun v e=>absurd (c v) e,fun x z e=>by rw[d] at e;cases e⟩
 .obtain⟨k,rfl⟩:=h1 v r e;show⟨by simp,rfl,fun s i=>by cases i;show k,⟨[],rfl⟩,fun j a b h1 d=>?_⟩;simp at d
 .show⟨r,[],by rw[c];show e,by simp,(fun x h=>by cases h)⟩
 .rw [(h1 b r e).1] at g;cases g
end
structure CI(A:Str->Str->Prop)(S:FS)(Pd:Str->Prop):Prop where
 cl:∀ v u,Pd v->A v u->S.bas u=S.bas v\/(S.par u≠none/\¬ Pd u)
 pe:∀ v,Pd v->S.rows v≠none
theorem CI.mono(h:CI A S Pd)(b:∀ u v,S.bas u=S.bas v->S'.bas u=S'.bas v)(c:∀ u,S.par u≠none->S'.par u≠none)(d:∀ u,S.rows u≠none->S'.rows u≠none):CI A S' Pd:=
 ⟨fun v u k a=>(h.cl v u k a).imp (b u v) fun z=>⟨c u z.1,z.2⟩,fun v k=>d v (h.pe v k)⟩
theorem qcw:∀{l m:LS},l.Nodup->(∀ x∈l,x∈m)->l.length<=m.length
 | [],_,_,_=>YS _
 | x::r,m,hn,hs=>by
  obtain⟨h1,c⟩:=yo.mp hn;have a:=hs x yO;have:=qcw (l:=r) (m:=m.erase x) c fun y b=>(Xr (fun e=>h1 (by rw[<- e];show b))).mpr (hs y (yz _ b));rw[YZ a] at this;have:0<m.length:=Y5 a;simp only[yF];lk
theorem qfn:∀(n:Nat) {X:LS},X.length<=n->X.Nodup->(∀ x∈X,∃ y∈X,g x=some y/\y≠x/\g y=some x)->X.length % 2=0
 | _,[],_,_,_=>rfl
 | 0,x::r,h,_,_=>by simp at h
 | n+1,x::r,h,hn,hp=>by
  obtain⟨h1,d⟩:=yo.mp hn;obtain⟨y,p,j,i,l⟩:=hp x yO;have c:y∈r:=(yy.mp p).resolve_left i;have hl:=YZ c;have t:0<r.length:=Y5 c
  have:=qfn n (X:=r.erase y) (by simp at h;lk) (d.erase y) fun z hz=>by
   have a:=(d.mem_erase_iff.mp hz);obtain⟨u,o,m,f,b⟩:=hp z (yz _ a.2);have q:u≠x:=fun e=>by rw[e,j] at b;show a.1 (ym b).symm
   have s:u≠y:=fun e=>by rw[e,l] at b;show h1 (by rw[ym b];show a.2)
   show⟨u,d.mem_erase_iff.mpr ⟨s,(yy.mp o).resolve_left q⟩,m,f,b⟩
  simp only[yF];lk
structure Fn(A:Str->Str->Prop)(f:Str->Option Str)(S:FS)(ss:LS):Prop where
 fi:FI A f S
 gr:Gr A f
 inn:∀ a b,A a b->a∈ss
 nd:ss.Nodup
 cl:∀ v u,S.rows v≠none->A v u->S.bas u=S.bas v\/(S.par u≠none/\S.rows u=none)
 sng:∀ z∈ss,f z=none->S.rows z≠none
 es:∀ v,S.rows v≠none->v∈ss
noncomputable def qdr(S:FS)(ss:LS)(b:Str):LS:=ss.filter fun u=>(S.rows u).isSome&&decide (S.bas u=b)
noncomputable def qbS(S:FS)(ss:LS):LS:=ss.filter fun u=>(S.rows u).isSome&&decide (S.bas u=u)
noncomputable def qds(S:FS)(ss:LS):LS:=ss.filter fun u=>(S.par u).isSome&&!(S.rows u).isSome
noncomputable def snL(g:Str->Option Str)(ss:LS):LS:=ss.filter fun u=>!(g u).isSome
section
variable{A:Str->Str->Prop}{f g:Str->Option Str}{S:FS}{ss:LS}
theorem isS{o:Option α}:o.isSome=true↔o≠none:=by cases o<;>simp
theorem mem_cls:u∈qdr S ss b↔u∈ss/\S.rows u≠none/\S.bas u=b:=by
 unfold qdr;rw[yp,yX,isS,yI]
theorem mem_bas:u∈qbS S ss↔u∈ss/\S.rows u≠none/\S.bas u=u:=by
 unfold qbS;rw[yp,yX,isS,yI]
theorem mem_bar:u∈qds S ss↔u∈ss/\S.par u≠none/\S.rows u=none:=by
 unfold qds;rw[yp,yX,isS];cases S.rows u<;>simp
theorem mem_sn:u∈snL g ss↔u∈ss/\g u=none:=by
 unfold snL;rw[yp];cases g u<;>simp
theorem some_of{o:Option α}(h:o≠none):∃ r,o=some r:=by cases o with | none=>show absurd rfl h | some r=>show⟨r,rfl⟩
theorem FI.evE(I:FI A f S)(hv:S.rows v≠none)(e:S.bas u=S.bas v):S.rows u≠none:=fun b=>by
 obtain⟨r,c⟩:=some_of hv;obtain⟨d,a⟩:=I.evb c;rw[I.own b] at e;rw[<- e,b] at a;cases a
theorem Fn.cls_odd(F:Fn A f S ss)(p:b∈qbS S ss):(qdr S ss b).length % 2=1:=by
 obtain⟨o,j,l⟩:=mem_bas.mp p;have c:b∈qdr S ss b:=mem_cls.mpr ⟨o,j,l⟩;have a:(qdr S ss b).Nodup:=F.nd.filter _
 have:=qfn (g:=f) _ (X:=(qdr S ss b).erase b) (yh _) (a.erase b) fun z hz=>by
  obtain⟨s,hz⟩:=a.mem_erase_iff.mp hz;obtain⟨t,m,n⟩:=mem_cls.mp hz;obtain⟨_,u,d,h⟩:=F.fi.mat z (fun e=>s (e.symm.trans n));have i:=F.fi.evE m h;show⟨u,a.mem_erase_iff.mpr ⟨fun e=>?_,mem_cls.mpr ⟨F.es u i,i,h.trans n⟩⟩,d,Yo (F.gr.ir (F.gr.fa d)),F.gr.fs d⟩;obtain⟨r,q⟩:=some_of j;rw[e] at d;show m (F.fi.dwn b r z q l (F.gr.fs d)).1
 rw[YZ c] at this;have:=Y5 c;lk
theorem Fn.count(F:Fn A f S ss):(qbS S ss).length=(snL f ss).length+(qds S ss).length:=by
 have v:(qbS S ss).Nodup:=F.nd.filter _
 have e:(qbS S ss).length=((qbS S ss).filter fun b=>!(f b).isSome).length+((qbS S ss).filter fun b=>(f b).isSome).length:=by
  generalize qbS S ss=l
  induction l with
  | nil=>rfl
  | cons x r ih =>
   rw[yK,yK,yF,ih];cases (f x).isSome
   .rw [yG (show(!false)=true from rfl),yA Ys,yF];lk
   .rw [yA (show ¬ (!true)=true by decide),yG (show true=true from rfl),yF];lk
 rw[e];have D:((qbS S ss).filter fun b=>!(f b).isSome).length=(snL f ss).length:=xH
  (qcw (v.filter _) fun x c=>by
   obtain⟨h1,d⟩:=yp.mp c;show mem_sn.mpr ⟨(mem_bas.mp h1).1,?_⟩
   cases e:f x with
   | none=>rfl
   | some y=>rw[e] at d;cases d)
  (qcw (F.nd.filter _) fun x c=>by
   obtain⟨h1,d⟩:=mem_sn.mp c;show yp.mpr ⟨mem_bas.mpr ⟨h1,F.sng x h1 d,Yj fun z=>?_⟩,by rw[d];rfl⟩;obtain⟨_,u,i,_⟩:=F.fi.mat x z;rw[d] at i;cases i)
 have E:((qbS S ss).filter fun b=>(f b).isSome).length=(qds S ss).length:=by
  have inj:(((qbS S ss).filter fun b=>(f b).isSome).map fun b=>(f b).getD "").Nodup:=by
   show YX.mpr (xj (fun{a b} G g o e=>?_) (v.filter _));obtain⟨x,c⟩:=xi.mp (yp.mp G).2;obtain⟨y,w⟩:=xi.mp (yp.mp g).2;rw[c,w] at e;have n:x=y:=e;have k:=F.gr.fs c;rw[n,F.gr.fs w] at k;show o (ym k).symm
  show xH ?_ ?_
  .have:=qcw inj (m:=qds S ss) fun q p=>?_
   rwa[ya] at this
   obtain⟨b,g,rfl⟩:=yE.mp p;obtain⟨h1,d⟩:=yp.mp g;obtain⟨x,c⟩:=xi.mp d;obtain⟨L,B,C⟩:=mem_bas.mp h1;obtain⟨r,H⟩:=some_of B;obtain⟨j,z,rz,t,_⟩:=F.fi.dwn b r x H C c;rw[c];have I:S.par x≠none:=by rw[t];show fun e=>by cases e
   show x∈qds S ss;show mem_bar.mpr ⟨F.inn _ _ (F.gr.as (F.gr.fa c)),I,j⟩
  .have:(qds S ss).length<=(((qbS S ss).filter fun b=>(f b).isSome).map fun b=>(f b).getD "").length:=qcw (F.nd.filter _) fun q p=>?_
   rwa[ya] at this
   obtain⟨M,J,K⟩:=mem_bar.mp p;obtain⟨z,hz⟩:=some_of J;obtain⟨_,_,y,r,j,t⟩:=F.fi.odd q z hz;have h:S.rows y≠none:=by rw[t];show fun e=>by cases e
   show yE.mpr ⟨y,yp.mpr ⟨mem_bas.mpr ⟨F.es y h,h,Yj fun e=>?_⟩,by rw[F.gr.fs j];rfl⟩,by rw[F.gr.fs j];rfl⟩;obtain⟨_,u,i,s⟩:=F.fi.mat y e;rw[F.gr.fs j] at i;cases i;show F.fi.evE h s K
 rw[D,E]
theorem Fn.most(F:Fn A f S ss)(m:Gr A g):(snL f ss).length<=(ss.filter fun u=>!(g u).isSome&&(S.rows u).isSome).length:=by
 have n:∀ b∈qbS S ss,∃ v∈qdr S ss b,g v=none\/∃ w,g v=some w/\w∈qds S ss:=fun b l=>Yj fun r=>by
  have D:=F.cls_odd l
  have:=qfn (g:=g) _ (X:=qdr S ss b) (yh _) (F.nd.filter _) fun v hv=>by
   obtain⟨E,t,G⟩:=mem_cls.mp hv
   cases e:g v with
   | none=>show absurd ⟨v,hv,.inl e⟩ r
   | some w =>
    have hw:=m.as (m.fa e);rcases F.cl v w t (m.fa e) with z | ⟨z1,z2⟩
    .have s:=F.fi.evE t z;show⟨w,mem_cls.mpr ⟨F.es w s,s,z.trans G⟩,rfl,Yo (m.ir (m.fa e)),m.fs e⟩
    .show absurd ⟨v,hv,.inr ⟨w,e,mem_bar.mpr ⟨F.inn _ _ hw,z1,z2⟩⟩⟩ r
  lk
 obtain⟨j,i⟩:∃ j:Str->Str,∀ b∈qbS S ss,j b∈qdr S ss b/\(g (j b)=none\/∃ w,g (j b)=some w/\w∈qds S ss):=
  ⟨fun b=>@dite _ (b∈qbS S ss) (Classical.propDecidable _) (fun h=>(n b h).choose) fun _=>b,fun b l=>by
   dsimp only;rw[dif_pos l];show⟨(n b l).choose_spec.1,(n b l).choose_spec.2⟩⟩
 have inj:∀ a∈qbS S ss,∀ b∈qbS S ss,j a=j b->a=b:=fun a o b l e=>by
  have h1:=(mem_cls.mp (i a o).1).2.2;have H:=(mem_cls.mp (i b l).1).2.2;rw[<- h1,<- H,e]
 have l:(qbS S ss).Nodup:=F.nd.filter _
 have B:(qbS S ss).length<=((ss.filter fun u=>!(g u).isSome&&(S.rows u).isSome)++qds S ss).length:=by
  rw[<- ya (f:=fun b=>(g (j b)).getD (j b))];show qcw (YX.mpr (xj (fun{a b} o d q e=>?_) l)) fun x I=>?_
  .have C:∀ c∈qbS S ss,S.rows (j c)≠none:=fun c hc=>(mem_cls.mp (i c hc).1).2.1;rcases(i a o).2 with z | ⟨w,z,hw⟩<;>rcases(i b d).2 with y | ⟨u,y,hu⟩
   .rw [z,y] at e;show q (inj a o b d e)
   .rw [z,y] at e;have p:j a=u:=e;show C a o (by rw[p];show(mem_bar.mp hu).2.2)
   .rw [z,y] at e;have p:w=j b:=e;show C b d (by rw[<- p];show(mem_bar.mp hw).2.2)
   .rw [z,y] at e;have p:w=u:=e;have k:=m.fs z;rw[p,m.fs y] at k;show q (inj a o b d (ym k).symm)
  .obtain⟨b,d,rfl⟩:=yE.mp I;obtain⟨E,t,G⟩:=mem_cls.mp (i b d).1;rcases(i b d).2 with z | ⟨w,z,hw⟩
   .rw [z];show yU _ (yp.mpr ⟨E,by show(!(g (j b)).isSome&&(S.rows (j b)).isSome)=true;rw[z,isS.mpr t];rfl⟩)
   .rw [z];show yT _ hw
 rw[F.count,yt] at B;lk
end
theorem qc3:∀{qs:LP},pt qs s=some t->(s,t)∈qs\/(t,s)∈qs
 | [],h=>by cases h
 | q::r,h=>by
  unfold pt at h;split at h
  .rename_i e;cases h;show .inl (by rw[<- e];simp)
  .split at h
   .rename_i e;cases h;show .inr (by rw[<- e];simp)
   .rcases qc3 h with z | z
    .show .inl (yz _ z)
    .show .inr (yz _ z)
theorem qgv:∀{qs:LP},(qx qs).Nodup->∀{a b:Str},(a,b)∈qs\/(b,a)∈qs->pt qs a=some b
 | [],_,a,b,m=>by rcases m with z | z<;>cases z
 | q::r,h,a,b,m=>by
  have f:(q.1::q.2::qx r).Nodup:=h;obtain⟨i,n⟩:=yo.mp f;obtain⟨o,p⟩:=yo.mp n;have inr:∀{x y:Str},(x,y)∈r->x∈qx r/\y∈qx r:=fun d=>⟨Y9.mpr ⟨_,d,by simp⟩,Y9.mpr ⟨_,d,by simp⟩⟩;unfold pt
  have c:(a,b)∈r\/(b,a)∈r->(if q.1=a then some q.2 else if q.2=a then some q.1 else pt r a)=some b:=fun l=>by
   have j:a∈qx r:=l.elim (fun z=>(inr z).1) fun z=>(inr z).2;rw[yA (fun z=>i (by rw[z];show yz _ j)),yA (fun z=>o (by rw[z];show j))];show qgv p l
  rcases m with z | z
  .rcases yy.mp z with z | z
   .subst z;rw[yG rfl]
   .show c (.inl z)
  .rcases yy.mp z with z | z
   .subst z;have g:b≠a:=fun e=>i (by show b∈a::_;rw[e];show yO);rw[yA g,yG rfl]
   .show c (.inr z)
theorem qeO(h:(qx qs).Nodup):pt qs a=some b↔(a,b)∈qs\/(b,a)∈qs:=⟨qc3,qgv h⟩
theorem qeP(h:(qx qs).Nodup):pt qs a=some b↔pt qs b=some a:=by
 rw[qeO h,qeO h,Or.comm]
theorem qeQ{x y:Option Str}(h:∀ b,x=some b↔y=some b):x=y:=by
 cases x with
 | none=>cases y with
  | none=>rfl
  | some b=>show absurd ((h b).mpr rfl) (fun z=>by cases z)
 | some a=>show((h a).mp rfl).symm
theorem uu:FnScope ["self","place","row"] ["self","place","row"] (qh jX):=fS
structure Fo where
 x:Addr
 b:Addr
 dp:Addr
 dr:Addr
 da:Addr
 ds:Addr
 dg:Addr
 dw:Addr
 ex:LX
noncomputable def Fo.six(a:Fo):LX:=[a.x,a.dr,a.da,a.ds,a.dg,a.dw]
noncomputable def Fo.all(a:Fo):LX:=a.six++a.ex
noncomputable def Fo.tab(a:Fo)(lo:V):List (Str×V):=[("board",.ref a.b),("partners",.ref a.dp),("rows",.ref a.dr),("parents",.ref a.da),("bases",.ref a.ds),("rings",.ref a.dg),("waiting",.ref a.dw),("longer",lo)]
def Bx(l:LX)(H H':Hp):Prop:=∀ c o,c∉l->H c=some o->H' c=some o
def RowV(H:Hp)(l:LX)(o:Option V):Option (LS)->Prop
 | none=>o=none
 | some r=>∃ t,o=some (.ref t)/\H t=some (.lst (r.map V.str))/\t∉l
def FoO(b:Addr)(H:Hp)(a:Fo)(lo:V):Prop:=∃ dx fs,H a.x=some (.ins b dx fs)/\fs.length<=9/\(lo=.non->fs.length<=8)/\(∀ f v,(f,v)∈a.tab lo->fs.lookup f=some v)/\∀ f,f∉fAtt->fs.lookup f=none
structure FoA(cf cw:Addr)(H0 H:Hp)(a:Fo)(ss:LS)(ns:LN)(qs:LP)(S:FS)(bs dn wt:LS)(lo:V):Prop where
 sm:L2.Same H0 H
 web:WebAt cw H0 a.b ss ns
 prt:H0 a.dp=some (.dK (prK qs))
 fr:∀ c∈a.six,H0 c=none
 nd:[a.dr,a.da,a.ds,a.dg,a.dw].Nodup
 exf:∀ c∈a.ex,H0 c=none/\c∉a.six/\∃ o,H c=some o
 obj:FoO cf H a lo
 row:∃ kvs,H a.dr=some (.dK kvs)/\kvs.length<=(dn++wt).length/\∀ s,RowV H a.all (jR kvs (.inr s:Key)) (S.rows s)
 par:∃ kvs,H a.da=some (.dK kvs)/\(∃ po:LS,kvs.length<=po.length/\po.Nodup/\∀ u∈po,u∈ss/\S.par u≠none)/\∀ s,jR kvs (.inr s:Key)=(S.par s).map V.str
 bas:∃ kvs,H a.ds=some (.dK kvs)/\kvs.length<=bs.length/\∀ s∈bs,jR kvs (.inr s:Key)=some (.str (S.bas s))
 rng:∃ xs,H a.dg=some (.lst xs)/\xs.length<=(dn++wt).length
 wai:H a.dw=some (.lst (wt.map V.str))
 evn:(dn++wt).Nodup
 evi:∀ v,v∈dn++wt↔S.rows v≠none
 evs:∀ v∈dn++wt,v∈ss
theorem RowV.mono{l:LX}{o:Option V}{r:Option (LS)}(h:RowV H l o r){m:LX}(k:Bx m H H')(d:∀ c∈m,c∈l):RowV H' l o r:=by
 cases r with
 | none=>show h
 | some r=>obtain⟨t,h1,b,a⟩:=h;show⟨t,h1,k _ _ (fun z=>a (d _ z)) b,a⟩
theorem Fo.sub{a:Fo}:∀ c∈a.six,c∈a.all:=fun c h=>yU _ h
theorem Bx.of{l:LX}(s:L2.Same H H'):Bx l H H':=fun c o _ e=>s c o e
theorem Bx.trans{l:LX}{d:Hp}(a:Bx l H H')(b:Bx l H' d):Bx l H d:=fun c o n e=>b c o n (a c o n e)
section
variable{cf cw:Addr}{H0 H H':Hp}{a:Fo}{ss:LS}{ns:LN}{qs:LP}{S S':FS}{bs dn wt:LS}{lo:V}
theorem FoA.same(h:FoA cf cw H0 H a ss ns qs S bs dn wt lo)(s:L2.Same H H'):FoA cf cw H0 H' a ss ns qs S bs dn wt lo:=by
 obtain⟨dx,fs,h1,i⟩:=h.obj;obtain⟨j,r,t,u⟩:=h.row;obtain⟨m,p,q⟩:=h.par;obtain⟨n,b,d⟩:=h.bas;obtain⟨xs,f,g⟩:=h.rng;show⟨h.sm.trans s,h.web,h.prt,h.fr,h.nd,fun c hc=>⟨(h.exf c hc).1,(h.exf c hc).2.1,(h.exf c hc).2.2.elim fun o e=>⟨o,s _ _ e⟩⟩,⟨dx,fs,s _ _ h1,i⟩,⟨j,s _ _ r,t,fun z=>(u z).mono (Bx.of (l:=[]) s) (fun c h=>by cases h)⟩,⟨m,s _ _ p,q⟩,⟨n,s _ _ b,d⟩,⟨xs,s _ _ f,g⟩,s _ _ h.wai,h.evn,h.evi,h.evs⟩
theorem FoA.six(h:FoA cf cw H0 H a ss ns qs S bs dn wt lo):∀ c∈a.six,∃ o,H c=some o:=fun c hc=>by
 obtain⟨dx,fs,h1,_⟩:=h.obj;obtain⟨g,f,_⟩:=h.row;obtain⟨i,e,_⟩:=h.par;obtain⟨j,b,_⟩:=h.bas;obtain⟨xs,d,_⟩:=h.rng;simp only[Fo.six,yy,Yb,YL] at hc;rcases hc with rfl | rfl | rfl | rfl | rfl | rfl
 .show⟨_,h1⟩
 .show⟨_,f⟩
 .show⟨_,e⟩
 .show⟨_,b⟩
 .show⟨_,d⟩
 .show⟨_,h.wai⟩
theorem FoA.new(h:FoA cf cw H0 H a ss ns qs S bs dn wt lo){c:Addr}(e:H c=none):c∉a.six:=fun z=>by
 obtain⟨o,k⟩:=h.six c z;rw[e] at k;cases k
theorem FoA.sep(h:FoA cf cw H0 H a ss ns qs S bs dn wt lo):a.six.Nodup:=by
 obtain⟨dx,fs,h1,_⟩:=h.obj;obtain⟨f,e,_⟩:=h.row;obtain⟨g,d,_⟩:=h.par;obtain⟨i,b,_⟩:=h.bas;obtain⟨xs,c,_⟩:=h.rng;show yo.mpr ⟨fun z=>?_,h.nd⟩;simp only[yy,Yb,YL] at z;rcases z with z | z | z | z | z
 .rw [z,e] at h1;cases h1
 .rw [z,d] at h1;cases h1
 .rw [z,b] at h1;cases h1
 .rw [z,c] at h1;cases h1
 .rw [z,h.wai] at h1;cases h1
theorem FoO.eq(h:FoO cf H a lo)(e:H' a.x=H a.x):FoO cf H' a lo:=by
 obtain⟨dx,fs,h1,b⟩:=h;show⟨dx,fs,e.trans h1,b⟩
theorem Bx.upd{l:LX}{c:Addr}(k:Bx l H H')(hc:c∈l):Bx l H (upd H' c o):=fun d u n e=>by
 rw[qf (fun z=>n (by rw[z];show hc))];show k d u n e
noncomputable def Fo.add(a:Fo)(c:Addr):Fo:={ a with ex:=c::a.ex }
theorem FoA.add(h:FoA cf cw H0 H a ss ns qs S bs dn wt lo){c:Addr}(e:H c=none):FoA cf cw H0 (upd H c o) (a.add c) ss ns qs S bs dn wt lo:=by
 have g:=h.same (qG (Sr H) (o:=o) e);obtain⟨f,q,w,x⟩:=g.row;obtain⟨n,v,_,A⟩:=h.row
 have s:n=f:=by
  have:=qG (Sr H) (o:=o) e _ _ v;rw[q] at this;show(HO.dK.inj (ym this)).symm
 subst s;show⟨g.sm,g.web,g.prt,g.fr,g.nd,fun d hd=>?_,g.obj,⟨n,q,w,fun z=>?_⟩,g.par,g.bas,g.rng,g.wai,g.evn,g.evi,g.evs⟩
 .rcases yy.mp hd with rfl | hd
  .show⟨h.sm.free e,h.new e,_,qb⟩
  .show g.exf d hd
 .have b:=x z;have j:=A z
  cases i:S.rows z with
  | none=>rw[i] at b;show b
  | some r =>
   rw[i] at b j;obtain⟨t,f,u,p⟩:=b;obtain⟨t',l,m,_⟩:=j;rw[f] at l;cases l;show⟨t,f,u,fun y=>?_⟩;rcases yC.mp y with y | y
   .show p (yU _ y)
   .rcases yy.mp y with y | y
    .rw [y,e] at m;cases m
    .show p (yT _ y)
theorem FoA.updE(h:FoA cf cw H0 H a ss ns qs S bs dn wt lo){c:Addr}(hc:c∈a.ex):FoA cf cw H0 (upd H c o) a ss ns qs S bs dn wt lo:=by
 obtain⟨l,p,_⟩:=h.exf c hc;have ne:∀{d:Addr},d∈a.six->upd H c o d=H d:=fun b=>qf fun z=>p (by rw[<- z];show b);obtain⟨q,w,x,A⟩:=h.row;obtain⟨r,t,v⟩:=h.par;obtain⟨s,f,g⟩:=h.bas;obtain⟨xs,i,j⟩:=h.rng;show⟨qaE h.sm l,h.web,h.prt,h.fr,h.nd,fun d b=>⟨(h.exf d b).1,(h.exf d b).2.1,by by_cases z:d=c;show⟨_,by rw[z,qb]⟩;rw[qf z];show(h.exf d b).2.2⟩,h.obj.eq (ne (by simp[Fo.six])),⟨q,(ne (by simp[Fo.six])).trans w,x,fun z=>(A z).mono (m:=[c]) (fun d u n e=>by rw[qf (fun y=>n (by rw[y];simp))];show e) fun d b=>by rw[yH.mp b];show yT _ hc⟩,⟨r,(ne (by simp[Fo.six])).trans t,v⟩,⟨s,(ne (by simp[Fo.six])).trans f,g⟩,⟨xs,(ne (by simp[Fo.six])).trans i,j⟩,(ne (by simp[Fo.six])).trans h.wai,h.evn,h.evi,h.evs⟩
theorem FoA.drop(h:FoA cf cw H0 H a ss ns qs S bs dn wt lo){l:LX}(f:∀ c∈l,c∈a.ex):FoA cf cw H0 H { a with ex:=l } ss ns qs S bs dn wt lo:=by
 obtain⟨d,j,m,n⟩:=h.row;show⟨h.sm,h.web,h.prt,h.fr,h.nd,fun c hc=>h.exf c (f c hc),h.obj,⟨d,j,m,fun z=>?_⟩,h.par,h.bas,h.rng,h.wai,h.evn,h.evi,h.evs⟩;have b:=n z
 cases e:S.rows z with
 | none=>rw[e] at b;show b
 | some r =>
  rw[e] at b;obtain⟨t,d,g,i⟩:=b;show⟨t,d,g,fun y=>i ((yC.mp y).elim (fun z=>yU _ z) fun z=>yT _ (f _ z))⟩
theorem FoA.newA(h:FoA cf cw H0 H a ss ns qs S bs dn wt lo){c:Addr}(e:H c=none):c∉a.all:=fun z=>by
 rcases yC.mp z with z | z
 .show h.new e z
 .obtain⟨o,k⟩:=(h.exf c z).2.2;rw[e] at k;cases k
theorem FoA.few(h:FoA cf cw H0 H a ss ns qs S bs dn wt lo):(dn++wt).length<=ss.length:=zG h.evn h.evs
end
noncomputable def FS.setRow(S:FS)(p:Str)(r:LS):FS:=⟨fun s=>if s=p then some r else S.rows s,S.par,S.bas⟩
inductive spRe(cc:Nat->Addr)(cw:Addr)(vs:List V)(H:Hp)(Q:VK)(E:XK):Prop|mk (H0:Hp) (a:Fo) (ss:LS) (ns:LN) (qs:LP) (S:FS) (bs dn wt:LS) (lo:V) (p:Str) (t:Addr) (r:LS) (_:vs=[.ref a.x,.str p,.ref t]) (_:FoA (cc 9) cw H0 H a ss ns qs S bs dn wt lo) (_:ss.length<=14) (_:H t=some (.lst (r.map V.str))) (_:t∉a.all) (_:p∈ss) (_:S.rows p=none) (_:∀ H',FoA (cc 9) cw H0 H' a ss ns qs (S.setRow p r) bs dn (wt++[p]) lo->Bx a.six H H'->(∀ o,H a.dg=some o->H' a.dg=some o)->Q .non H')
inductive spBd(cc:Nat->Addr)(cw:Addr)(vs:List V)(H:Hp)(Q:VK)(E:XK):Prop|mk (H0:Hp) (a:Fo) (ss:LS) (ns:LN) (qs:LP) (S:FS) (dn wt:LS) (lo:V) (p:Str) (r l:LS) (A:Str->Str->Prop) (_:vs=[.ref a.x,.str p]) (_:FoA (cc 9) cw H0 H a ss ns qs S ss dn wt lo) (_:ss.length<=14) (_:FI A (pt qs) S) (_:S.rows p=some r) (_:Ch (pt qs) S (S.bas p) l) (_:l.length<=14) (_:∀(t:Addr) (H':Hp),L2.Same H H'->H t=none->H' t=some (.lst (l.map V.str))->Q (.ref t) H')
section
variable{P:Program}{w:World}{K:W.Frag}{mg:Str->Option Value}{base:Heap}{cc:Nat->Addr}{cw:Addr}{H0 H:Hp}{a:Fo}{ss:LS}{ns:LN}{qs:LP}{S:FS}{bs dn wt:LS}{lo:V}
theorem FoO.rd{Q:V->Prop}{f:Str}{v:V}(h:FoO (cc 9) H a lo)(T:Txt K mg cc cw)(i:Nat)(e:(a.tab lo)[i]?=some (f,v))(q:Q v):∃(c C dx:Addr) (fs:List (Str×V)) (u:V),V.ref a.x=.ref c/\H c=some (.ins C dx fs)/\Cls K C/\NoAttr K C f/\fs.lookup f=some u/\Q u:=by
 obtain⟨dx,fs,h1,_,_,b,_⟩:=h;show⟨a.x,cc 9,dx,fs,v,rfl,h1,T.fcl,T.fa f ?_,b f v (ye e),q⟩;have:((a.tab lo).map Prod.fst)[i]?=some f:=by rw[yd,e];rfl
 show ye (l:=fAtt) (i:=i) this
theorem ok_re(F:Fun K "reach" "Forest.reach" jX f fd)(T:Txt K mg cc cw):FnOk P w K mg base CX0 1 f fd ["self","place","row"] (spRe cc cw):=by
 show F.ok uu fun _ _ _ _ H vs Q E U h=>?_
 .obtain⟨H0,a,ss,ns,qs,S,bs,dn,wt,lo,p,t,r,rfl,h,R,W,d,s,m,q⟩:=h;have X:=jV U;have b:=h.few;have l:p∉dn++wt:=fun z=>(h.evi p).mp z m;show⟨_,(qc (jC (pv 2) (jN (qC (K:=K) rfl (pv 0) rfl) (pv 1) (jP X)))
 (qe (qN (qaW (K:=K) rfl yD Yd Ye qO (qC (K:=K) rfl (pv 0) rfl) (qa (pv 1) qd))))),?_⟩
  ext;obtain⟨⟨n1,n2,n3,n4,n5⟩,⟨n6,n7,C,D⟩,⟨aa,ac,A⟩,⟨ad,B⟩,g⟩:=(by simpa [Fo.six] using h.sep:(¬a.x=a.dr/\¬a.x=a.da/\¬a.x=a.ds/\¬a.x=a.dg/\¬a.x=a.dw)/\(¬a.dr=a.da/\¬a.dr=a.ds/\¬a.dr=a.dg/\¬a.dr=a.dw)/\(¬a.da=a.ds/\¬a.da=a.dg/\¬a.da=a.dw)/\(¬a.ds=a.dg/\¬a.ds=a.dw)/\¬a.dg=a.dw);obtain⟨j,r1,r2,r3⟩:=h.row;obtain⟨Z,p1,p2,p3⟩:=h.par;obtain⟨ks,J,L,M⟩:=h.bas;obtain⟨xs,N,O⟩:=h.rng;show .inl (h.obj.rd T 2 rfl ?_);apply .inr ⟨a.dr,_,rfl,DPut.k (k:=Sum.inr p) r1 (by rw[YF];lk),?_⟩;have G:FoO (cc 9) (upd H a.dr (.dK (zI j (Sum.inr p) (.ref t)))) a lo:=h.obj.eq (qf n1);have I:upd H a.dr (.dK (zI j (Sum.inr p) (.ref t))) a.dw=some (.lst (wt.map V.str)):=by rw[qf (Yo D)];show h.wai
  apply .inl (G.rd T 6 rfl ?_);show⟨.inl ⟨rfl,_,.of I⟩,?_⟩;apply⟨a.dw,_,_,rfl,rfl,I,by rw[ya];show qi (by rw[yt] at b;lk),?_⟩;have u:∀{c:Addr} {o o':HO},c∉a.six->upd (upd H a.dr o) a.dw o' c=H c:=fun hc=>by rw[qf (fun z=>hc (by rw[z];simp[Fo.six])),qf (fun z=>hc (by rw[z];simp[Fo.six]))]
  have i:Bx a.six H (upd (upd H a.dr (.dK (zI j (Sum.inr p) (.ref t)))) a.dw (.lst (wt.map V.str++[.str p]))):=fun c o n e=>by rw[u n];show e
  show q _ ⟨qaE (qaE h.sm (h.fr _ (by simp[Fo.six]))) (h.fr _ (by simp[Fo.six])),h.web,h.prt,h.fr,h.nd,fun c hc=>⟨(h.exf c hc).1,(h.exf c hc).2.1,(h.exf c hc).2.2.elim fun o e=>⟨o,i _ _ (h.exf c hc).2.1 e⟩⟩,G.eq (qf n5),⟨_,by rw[qf D,qb],?_,fun z=>?_⟩,⟨Z,by rw[qf A,qf (Yo n6)];show p1,p2,p3⟩,⟨ks,by rw[qf B,qf (Yo n7)];show J,L,M⟩,⟨xs,by rw[qf g,qf (Yo C)];show N,?_⟩,by rw[qb,yu];rfl,?_,fun v=>?_,fun v hv=>?_⟩ i fun o e=>by(rw[qf g,qf (Yo C)];show e)
  .have:=jB j (Sum.inr p:Key) (.ref t);rw[<- Yl,yt (bs:=[p])];show _<=_+1;lk
  .unfold FS.setRow;dsimp only;rw[qaQ];by_cases e:z=p
   .subst e;rw[yG rfl,yG rfl];show⟨t,rfl,i _ _ (fun y=>d (Fo.sub _ y)) W,d⟩
   .rw [yA (fun y=>e (xk y)),yA e];show(r3 z).mono i Fo.sub
  .rw [<- Yl,yt (bs:=[p])];show kz O
  .rw [<- Yl];show Yk.mpr ⟨h.evn,XH _ _,fun x u y Y e=>l (by rw[<- yH.mp Y,<- e];show u)⟩
  .rw [<- Yl,yC,yH,h.evi];unfold FS.setRow;dsimp only;by_cases e:v=p
   .subst e;rw[yG rfl];show⟨(fun _ z=>by cases z),fun _=>.inr rfl⟩
   .rw [yA e];show⟨fun z=>z.resolve_right e,.inl⟩
  .rw [<- Yl] at hv;rcases yC.mp hv with z | z
   .show h.evs v z
   .rw [yH.mp z];show s
end
theorem Kn:FnScope ["self","place","bases","below"] ["self","place"] (qh qT):=fS
theorem atI_last{xs:LS}:atI ((xs++[c]).map V.str) (-1)=some (.str c):=by
 have e:ixN ((xs++[c]).map V.str).length (-1)=some xs.length:=by
  unfold ixN;rw[yA (by lk),yG (by rw[ya,yt];simp;lk)]
  congr 1
  rw[ya,yt];simp only[yF,Y0];lk
 unfold atI;rw[e];show((xs++[c]).map V.str)[xs.length]?=_;rw[yd,yP (yh _),kU];rfl
theorem Ch.cases'{f:Str->Option Str}{t:LS}(h:Ch f S b (b::t)):(f b=none/\t=[])\/∃ q z,f b=some q/\S.par q=some z/\Ch f S (S.bas z) t:=by
 generalize e:b::t=l at h
 cases h with
 | root h=>cases e;show .inl ⟨h,rfl⟩
 | step h1 h2 h3=>cases e;show .inr ⟨_,_,h1,h2,h3⟩
theorem in_prK{d:Addr}{Q:VK}(a:H d=some (.dK (prK qs)))(q:Q (.bl (pt qs s).isSome) H):qem K false (.str s) (.ref d) H Q:=by
 show .inr (.inl ⟨d,_,rfl,DGet.k (k:=Sum.inr s) a,?_⟩);rw[jH,yA (by decide),xM];show q
theorem qeR{d:Addr}{v:V}{Q:VK}(a:H d=some (.dK kvs))(e:jR kvs (.inr s:Key)=some v)(q:Q v H):qgH K (.ref d) (.str s) H Q:=.inr ⟨d,v,rfl,by rw[<- e];show DGet.k (k:=Sum.inr s) a,q⟩
theorem ok_bd(F:Fun K "bases_down_from" "Forest.bases_down_from" qT f fd)(T:Txt K mg cc cw):FnOk P w K mg base CX0 1 f fd ["self","place"] (spBd cc cw):=by
 show F.ok Kn fun _ _ _ _ H vs Q E hr h=>?_
 .obtain⟨H0,a,ss,ns,qs,S,dn,wt,lo,p,r,l,B,rfl,h,ad,I,hp,y,aa,q⟩:=h;have n:=jV hr;show⟨_,(qc (qk (i:=2) Kn.nd rfl (yJ rfl) (qW (qa (qu (qv (K:=K) rfl n) (qC (K:=K) rfl (pv 0) rfl) (pv 1) (fun _ _=>rfl)) qd)))
 (qc (qan yY (qj (zQ (K:=K) rfl n) (qu (qv (K:=K) rfl n) (pv 2) (qaO qaP qg) (fun _ _=>rfl)) (qC (K:=K) rfl (pv 0) rfl) (by with_unfolding_all rfl))
 (qc (qk (i:=3) Kn.nd rfl (yJ rfl) (qu (qv (K:=K) rfl n) (qC (K:=K) rfl (pv 0) rfl) (qu (qv (K:=K) rfl n) (qC (K:=K) rfl (pv 0) rfl) (qu (qv (K:=K) rfl n) (pv 2) (qaO qaP qg) (fun _ _=>rfl)) (fun _ _=>rfl)) (fun _ _=>rfl)))
 (qe (qN (qaW (K:=K) rfl yD Yd Ye qO (pv 2) (qa (qu (qv (K:=K) rfl n) (qC (K:=K) rfl (pv 0) rfl) (pv 3) (fun _ _=>rfl)) qd))))))
 (qe (qm (pv 2))))),?_⟩
  have u:∀{v:Str} {r:LS},S.rows v=some r->v∈ss:=fun e=>h.evs _ ((h.evi _).mpr (by rw[e];show fun z=>by cases z));obtain⟨ks,b1,b2,b3⟩:=h.bas;apply .inl (h.obj.rd T 4 rfl ?_);apply qeR b1 (b3 p (u hp)) ?_;apply⟨by show 1<=sizeLine;decide,fun bl j=>?_⟩;have s1:=qG (Sr H) (o:=.lst [.str (S.bas p)]) j;have e1:upd H bl (.lst [.str (S.bas p)]) bl=some (.lst (([]++[S.bas p]).map V.str)):=qb;generalize upd H bl (.lst [.str (S.bas p)])=H1 at s1 e1;ext;obtain⟨W,g⟩:∃ W:Nat->L2.St->Hp->Prop,W=fun m σ J=>∃(l1 l2:LS) (c:Str) (y3:Option V),l=l1++c::l2/\σ=[some (.ref a.x),some (.str p),some (.ref bl),y3]/\L2.Same H J/\J bl=some (.lst ((l1++[c]).map V.str))/\m=l2.length:=⟨_,rfl⟩;obtain⟨t0,R⟩:=y.ne;show⟨W,⟨t0.length,by rw[g];show⟨[],t0,_,_,R,rfl,s1,e1,rfl⟩⟩,fun m σ J hW=>?_⟩;rw[g] at hW;obtain⟨l1,l2,c,y3,M,rfl,sJ,s,hm⟩:=hW;obtain⟨rc,_,Y,U,A,_⟩:=y.up I hp rfl M;have d:=h.same sJ;have D:=d.sm _ _ h.prt;apply⟨1,rfl,?_⟩;show .inl (zN s (v:=.str c) atI_last ?_);apply .inl (d.obj.rd T 1 rfl ?_);show in_prK D ?_;rcases A.cases' with⟨C,rfl⟩ | ⟨q',z,C,G,X⟩
  .rw [C];show⟨_,rfl,qL (fun h=>by cases h) fun _=>?_⟩;apply q bl J sJ j (by rw[M];show s)
  .rw [C];show⟨_,rfl,zZ ⟨fun L H'=>∃ m',m'<m/\W m' L H',fun L H' z=>z,?_⟩⟩;obtain⟨_,z',rz,b,Z,_⟩:=I.dwn c rc q' Y U C;rw[G] at b;cases b;obtain⟨ka,p1,p2,p3⟩:=d.par;obtain⟨ae,N,ac,O⟩:=d.bas;apply .inl (d.obj.rd T 3 rfl ?_);apply .inl (d.obj.rd T 1 rfl ?_);apply⟨1,rfl,?_⟩;show .inl (zN s (v:=.str c) atI_last ?_);show qeR D (by rw[jH,C];rfl) ?_;show qeR p1 (by rw[p3,G];rfl) ?_;apply⟨.inl ⟨rfl,_,.of s⟩,?_⟩;apply .inl (d.obj.rd T 4 rfl ?_);apply qeR N (O z (u Z)) ?_;apply⟨bl,_,_,rfl,rfl,s,by rw[ya];show qi (by have:=congrArg List.length M;rw[yt,yF] at this;rw[yt];simp only[yF,Y0];lk),?_⟩;obtain⟨t1,t⟩:=X.ne;rw[g];show⟨t1.length,by rw[hm,t];simp,l1++[c],t1,S.bas z,_,by rw[M,t];simp,rfl,qaE sJ j,by rw[qb,yu (l₁:=l1++[c])];rfl,rfl⟩
theorem Kh:FnScope ["self","one","other","bases","side","base","place","row"] ["self","one","other","bases"] (qh jf):=fS
structure RR(f:Str->Option Str)(S S':FS)(v w:Str)(cs:LS):Prop where
 par:S'.par=S.par
 bas:S'.bas=S.bas
 old:∀ u r,S.rows u=some r->S'.rows u=some r
 new:∀ u r,S'.rows u=some r->S.rows u=some r\/∃ c∈cs,f c=some u/\NewRow S v w u r
 all:∀ c∈cs,∀ q,f c=some q->∃ r,S'.rows q=some r
noncomputable def pq(qs:LP)(c:Str):Str:=(pt qs c).getD ""
inductive spRr(cc:Nat->Addr)(cw:Addr)(vs:List V)(H:Hp)(Q:VK)(E:XK):Prop|mk (H0:Hp) (a:Fo) (ss:LS) (ns:LN) (qs:LP) (S:FS) (dn wt:LS) (lo:V) (v w:Str) (lb:Addr) (cs rv rw:LS) (_:vs=[.ref a.x,.str v,.str w,.ref lb]) (_:FoA (cc 9) cw H0 H a ss ns qs S ss dn wt lo) (_:ss.length<=14) (_:H lb=some (.lst (cs.map V.str))) (_:lb∉a.six) (_:S.rows v=some rv) (_:S.rows w=some rw) (_:rv.length<=14) (_:rw.length<=14) (_:rv.Nodup) (_:cs.Nodup) (_:cs.length<=14) (_:(qx qs).Nodup) (_:(∀ c∈cs,∃ q rz t,pt qs c=some q/\S.rows q=none/\q∈ss/\rv=rz++q::t)) (_:∀(t:Addr) (sd more:LS) (H':Hp) (S':FS),FoA (cc 9) cw H0 H' (a.add t) ss ns qs S' ss dn (wt++more) lo->Bx a.six H H'->H t=none->H' t=some (.lst (sd.map V.str))->(∀ u,u∈sd↔∃ c∈cs,u=c\/pt qs c=some u)->sd.length=2*cs.length->more=cs.map (pq qs)->RR (pt qs) S S' v w cs->(∀ o,H a.dg=some o->H' a.dg=some o)->Q (.ref t) H')
theorem qdt{t:LS}{q:Str}(a:(rz++q::t).Nodup):(rz++q::t).idxOf q=rz.length:=by
 show qa2 a (by rw[yP (yh _),kU];rfl)
theorem qfo{a b:Addr}{Q:VK}(c:G a=some (.lst xs))(d:G b=some (.lst ys))(hl:xs.length+ys.length<=1000)(q:∀ p,G p=none->Q (.ref p) (upd G p (.lst (xs++ys)))):qef K (.ref a) (.ref b) G Q:=.inl ⟨a,b,_,_,rfl,rfl,c,d,yi hl (by decide),q⟩
theorem ok_rr(F:Fun K "reach_round" "Forest.reach_round" jf f fd)(T:Txt K mg cc cw)(Kt:MethOk P w K mg base CX0 1 (cc 9) "reach" ["self","place","row"] (spRe cc cw)):FnOk P w K mg base CX0 2 f fd ["self","one","other","bases"] (spRr cc cw):=by
 show F.ok Kh fun _ _ _ _ H vs Q E hr h=>?_
 .obtain⟨H0,a,ss,ns,qs,S,dn,wt,lo,v,w,lb,R,rv,g,rfl,h,aq,L,ba,hv,hw,bc,bj,al,ax,bg,ak,ay,q⟩:=h;have hu:=jV hr;show⟨_,(qc (qk (i:=4) Kh.nd rfl (yJ rfl) (qW qd))
 (qc (jj yY rfl (qS (K:=K) rfl (pv 3)) (qo (i:=5) Kh.nd rfl (yJ rfl))
 (qc (qk (i:=6) Kh.nd rfl (yJ rfl) (qu (qv (K:=K) rfl hu) (qC (K:=K) rfl (pv 0) rfl) (pv 5) (fun _ _=>rfl)))
 (qc (qk (i:=7) Kh.nd rfl (yJ rfl) (qu (qv (K:=K) rfl hu) (qC (K:=K) rfl (pv 0) rfl) (pv 1) (fun _ _=>rfl)))
 (qc (qN (qF Kt (hmR hr) (pv 0) (qa (pv 6) (qa (qw (j8 (K:=K) rfl) (qu (qv (K:=K) rfl hu) (qC (K:=K) rfl (pv 0) rfl) (pv 2) (fun _ _=>rfl)) (qfB (K:=K) rfl (jE (qeF (K:=K) rfl) (pv 7) (jQ (qaW (K:=K) rfl yD Yz YK (qag (K:=K) rfl) (pv 7) (qa (pv 6) qd))) zm) (jQ (qaO qaP qg)))) qd))))
 (qe (qN (qaW (K:=K) rfl yD xR xS qas (pv 4) (qa (qW (qa (pv 5) (qa (pv 6) qd))) qd))))))))
 (qe (qm (pv 4))))),?_⟩
  apply⟨by show 0<=sizeLine;decide,fun l s=>?_⟩;have s1:=qG (Sr H) (o:=.lst []) s;have h1:=h.add (o:=.lst []) s;have Z:upd H l (.lst []) l=some (.lst (([]:LS).map V.str)):=qb;have bm:lb≠l:=fun z=>by rw[z,s] at L;cases L
  generalize upd H l (.lst [])=H1 at s1 h1 Z;ext;obtain⟨LI,B⟩:∃ LI:Nat->L2.St->Hp->Prop,LI=fun i σ J=>∃(S':FS) (b I:LS) (y5 y6 y7:Option V),σ=[some (.ref a.x),some (.str v),some (.str w),some (.ref lb),some (.ref l),y5,y6,y7]/\FoA (cc 9) cw H0 J (a.add l) ss ns qs S' ss dn (wt++b) lo/\Bx a.six H J/\J l=some (.lst (I.map V.str))/\(∀ u,u∈I↔∃ c∈R.take i,u=c\/pt qs c=some u)/\I.length=2*i/\b=(R.take i).map (pq qs)/\RR (pt qs) S S' v w (R.take i)/\∀ o,H a.dg=some o->J a.dg=some o:=⟨_,rfl⟩;show .inl ⟨⟨_,.of (s1 _ _ L)⟩,jc (xs:=R.map V.str) LI (by rw[B];show⟨S,[],[],_,_,_,rfl,by rw[Yh];show h1,Bx.of s1,Z,fun u=>by simp,rfl,rfl,⟨rfl,rfl,fun _ _ e=>e,fun _ _ e=>.inl e,fun c hc=>by simp at hc⟩,fun o e=>s1 _ _ e⟩) (fun i σ J _ U=>?_) (fun i y σ J hy U=>?_) fun σ J U=>?_⟩
  .rw [B] at U;obtain⟨S',b,I,y5,y6,y7,rfl,A,X,_⟩:=U;show .of (X _ _ ba L)
  .rw [B] at U;obtain⟨S',b,I,y5,y6,y7,rfl,A,X,eJ,N,m,M,G,W⟩:=U;rw[yd] at hy;obtain⟨c,hc,rfl⟩:=yn.mp hy;have aw:=ye hc;obtain⟨z,rz,t,hz,am,bf,p⟩:=ay c aw;have bh:i<R.length:=(yc.mp hc).1;have D:R.take (i+1)=R.take i++[c]:=by rw[yM,hc];rfl
   have bb:=A.sm _ _ h.prt;obtain⟨kr,r1,r2,r3⟩:=A.row
   have rowOf:∀{u:Str} {r:LS},S.rows u=some r->∃ t,jR kr (.inr u:Key)=some (.ref t)/\J t=some (.lst (r.map V.str)):=fun{u r} e=>by
    have:=r3 u;rw[G.old u r e] at this;obtain⟨t,k1,k2,_⟩:=this;show⟨t,k1,k2⟩
   obtain⟨tv,kv,ev⟩:=rowOf hv;obtain⟨tw,kw,ew⟩:=rowOf hw;apply .inl (A.obj.rd T 1 rfl ?_);apply qeR bb (by rw[jH,hz];rfl) ?_;apply .inl (A.obj.rd T 2 rfl ?_);apply qeR r1 kv ?_;ext;obtain⟨dx,fs,bd,_,_,_,be⟩:=id A.obj;show⟨a.x,dx,fs,rfl,bd,be _ (by room),?_⟩;apply .inl (A.obj.rd T 2 rfl ?_);apply qeR r1 kw ?_;apply qhk ?_;apply⟨.inl ⟨rfl,_,.of ev⟩,?_⟩;apply⟨tv,rv,z,rfl,rfl,.of ev,by rw[p];simp,_,rfl,?_⟩;rw[p] at al;have ap:rv.idxOf z=rz.length:=by rw[p];show qdt al
   rw[ap];apply .inl ⟨tv,_,rfl,.of ev,fun c1 as=>?_⟩;have ag:qde (rv.map V.str) (some ((rz.length:Nat):Int)) none=(z::t).map V.str:=by rw[qcU,p,yu,List.drop_left' (by simp)]
   rw[ag];have t1:=qG (Sr J) (o:=.lst ((z::t).map V.str)) as;have ac:upd J c1 (.lst ((z::t).map V.str)) c1=some (.lst ((z::t).map V.str)):=qb;generalize upd J c1 (.lst ((z::t).map V.str))=J1 at t1 ac;apply⟨1,rfl,?_⟩;show⟨_,rfl,rfl,c1,_,rfl,.of ac,fun c2 au=>?_⟩;have t2:=qG t1 (o:=.lst ((z::t).map V.str).reverse) au;have ad:upd J1 c2 (.lst ((z::t).map V.str).reverse) c2=some (.lst ((z::t).reverse.map V.str)):=by rw[qb,List.map_reverse]
   generalize upd J1 c2 (.lst ((z::t).map V.str).reverse)=J2 at t2 ad;have bi:(z::t).length<=14:=by rw[p,yt] at bc;lk
   show qfo (t2 _ _ ew) ad (by rw[ya,ya,YG];lk) fun c3 ah=>?_;have ar:=A.same t2;have n3:=ar.newA ah;have t3:=qG t2 (o:=.lst (g.map V.str++(z::t).reverse.map V.str)) ah;have ae:upd J2 c3 (.lst (g.map V.str++(z::t).reverse.map V.str)) c3=some (.lst ((g++(z::t).reverse).map V.str)):=by rw[qb,yu]
   generalize upd J2 c3 (.lst (g.map V.str++(z::t).reverse.map V.str))=J3 at t3 ae
   have ai:c∉R.take i:=fun y=>by
    obtain⟨j,hj⟩:=yf y;have az:=(yc.mp hj).1;rw[yR] at az;rw[List.getElem?_take,yG (by lk)] at hj;have:=qz ax hj hc;lk
   have an:S'.rows z=none:=by
    cases e:S'.rows z with
    | none=>rfl
    | some r =>
     exfalso;rcases G.new z r e with y | ⟨O,C,y,_⟩
     .rw [am] at y;cases y
     .have Z:=(qeP ak).mp y;rw[(qeP ak).mp hz] at Z;rw[<- ym Z] at C;show ai C
   apply⟨H0,a.add l,ss,ns,qs,S',ss,dn,wt++b,lo,z,c3,g++(z::t).reverse,rfl,A.same t3,aq,ae,n3,bf,an,fun J4 h4 Y aj=>?_⟩;have ao:l∉a.six:=h.new s;have aa:J4 l=some (.lst (I.map V.str)):=Y _ _ ao (t3 _ _ eJ);apply⟨.inl ⟨rfl,_,.of aa⟩,?_⟩;apply⟨by show 2<=sizeLine;decide,fun c5 av=>?_⟩;have t5:=qG (Sr J4) (o:=.lst [.str c,.str z]) av;have af:upd J4 c5 (.lst [.str c,.str z]) c5=some (.lst [.str c,.str z]):=qb;generalize upd J4 c5 (.lst [.str c,.str z])=J5 at t5 af;have h5:=h4.same t5;apply⟨l,c5,_,_,rfl,rfl,t5 _ _ aa,af,by rw[ya,YF];show _+2<=_;lk,?_⟩;have h6:=h5.updE (c:=l) (o:=.lst (I.map V.str++[.str c,.str z])) yO;rw[B];show⟨S'.setRow z (g++(z::t).reverse),b++[z],I++[c,z],_,_,_,rfl,by rw[<- Yl wt];show h6,?_,by rw[qb,yu];rfl,fun u=>?_,by rw[yt,m];show _+2=_;lk,by rw[M,D,yu];unfold pq;simp[hz],⟨G.par,G.bas,fun u r e=>?_,fun u r e=>?_,fun O C q' e=>?_⟩,fun o e=>?_⟩
   .show fun d o n e=>by
     have ne:d≠l:=fun y=>by rw[y,s] at e;cases e
     rw[qf ne];show t5 _ _ (Y _ _ n (t3 _ _ (X _ _ n e)))
   .rw [D,yC,N];simp only[yC,yy,Yb,YL];constructor
    .rintro (⟨O,h1,h2⟩ | rfl | rfl)
     .show⟨O,.inl h1,h2⟩
     .show⟨u,.inr rfl,.inl rfl⟩
     .show⟨c,.inr rfl,.inr hz⟩
    .rintro ⟨O,h1 | rfl,h2⟩
     .show .inl ⟨O,h1,h2⟩
     .rcases h2 with h2 | h2
      .show .inr (.inl h2)
      .rw [hz] at h2;show .inr (.inr (ym h2).symm)
   .show(if u=z then _ else S'.rows u)=_;rw[yA (fun y=>by rw[y,am] at e;cases e)];show G.old u r e
   .have e':(if u=z then some (g++(z::t).reverse) else S'.rows u)=some r:=e;by_cases y:u=z
    .subst y;rw[yG rfl] at e';show .inr ⟨c,by rw[D];simp,hz,rv,g,rz,t,hv,hw,p,(ym e').symm⟩
    .rw [yA y] at e';rcases G.new u r e' with x | ⟨O,h1,h2⟩
     .show .inl x
     .show .inr ⟨O,by rw[D];show yU _ h1,h2⟩
   .show ∃ r,(if q'=z then some (g++(z::t).reverse) else S'.rows q')=some r;by_cases y:q'=z
    .rw [yG y];show⟨_,rfl⟩
    .rw [yA y];rw[D] at C;rcases yC.mp C with x | x
     .show G.all O x q' e
     .rw [yH.mp x,hz] at e;show absurd (ym e).symm y
   .have ne:a.dg≠l:=fun y=>ao (by rw[<- y];simp[Fo.six]);rw[qf ne];show t5 _ _ (aj o (t3 _ _ (W o e)))
  .rw [B] at U;obtain⟨S',b,I,y5,y6,y7,rfl,A,X,eJ,N,m,M,G,W⟩:=U;rw[ya] at m;rw[ya,yS] at N G M;apply q l I b J S' A X s eJ N m M G W
theorem KM:FnScope ["self","ring","meeting","within","place"] ["self","ring","meeting"] (qh jI):=fS
noncomputable def FS.setBas(S:FS)(l:LS)(m:Str):FS:=⟨S.rows,S.par,fun u=>if u∈l then m else S.bas u⟩
noncomputable def wnL(S:FS)(ss a:LS)(m:Str):LS:=ss.filter fun u=>decide (S.bas u∈a++[m])
inductive spFd(cc:Nat->Addr)(cw:Addr)(vs:List V)(H:Hp)(Q:VK)(E:XK):Prop|mk (H0:Hp) (a:Fo) (ss:LS) (ns:LN) (qs:LP) (S:FS) (dn wt:LS) (lo:V) (lr:Addr) (rg:LS) (m:Str) (xs:List V) (_:vs=[.ref a.x,.ref lr,.str m]) (_:FoA (cc 9) cw H0 H a ss ns qs S ss dn wt lo) (_:ss.length<=14) (_:H lr=some (.lst (rg.map V.str))) (_:lr∉a.six) (_:rg.length<=100) (_:H a.dg=some (.lst xs)) (_:xs.length<(dn++wt).length) (_:∀ H',FoA (cc 9) cw H0 H' a ss ns qs (S.setBas (wnL S ss rg m) m) ss dn wt lo->Bx a.six H H'->Q .non H')
theorem put_len{k:Key}{v u:V}(h:jR kvs k=some u):(zI kvs k v).length=kvs.length:=by
 unfold zI;rw[qaq,h];show ya _
theorem qeS{n:Addr}{Q:VK}(a:H n=some (.lst (ss.map V.str)))(q:Q (.bl (decide (z∈ss))) H):qem K false (.str z) (.ref n) H Q:=
 .inl ⟨n,_,rfl,.inl (.of a),rfl,YI.mpr fun x b=>by(obtain⟨s,_,rfl⟩:=yE.mp b;rfl),by rw[yA (by decide),qdq];show q⟩
theorem FoA.setB{a:Fo}{ks:List (Key×V)}{m:Str}(h:FoA (cc 9) cw H0 H a ss ns qs (S.setBas l m) ss dn wt lo)(t:H a.ds=some (.dK ks))(hz:z∈ss):FoA (cc 9) cw H0 (upd H a.ds (.dK (zI ks (Sum.inr z) (.str m)))) a ss ns qs (S.setBas (l++[z]) m) ss dn wt lo/\ks.length<=ss.length:=by
 obtain⟨A,K,L,M⟩:=h.row;obtain⟨w,G,I,J⟩:=h.par;obtain⟨k,g,i,j⟩:=h.bas;obtain⟨xs,r,s⟩:=h.rng;rw[t] at g;cases g;obtain⟨⟨N,O,E,P,R⟩,⟨T,F,U,W⟩,⟨b,B,C⟩,⟨d,f⟩,D⟩:=(by simpa [Fo.six] using h.sep:(¬a.x=a.dr/\¬a.x=a.da/\¬a.x=a.ds/\¬a.x=a.dg/\¬a.x=a.dw)/\(¬a.dr=a.da/\¬a.dr=a.ds/\¬a.dr=a.dg/\¬a.dr=a.dw)/\(¬a.da=a.ds/\¬a.da=a.dg/\¬a.da=a.dw)/\(¬a.ds=a.dg/\¬a.ds=a.dw)/\¬a.dg=a.dw);have p:Bx a.six H (upd H a.ds (.dK (zI ks (Sum.inr z) (.str m)))):=fun c o n e=>by rw[qf (fun y=>n (by rw[y];simp[Fo.six]))];show e
 show⟨⟨qaE h.sm (h.fr _ (by simp[Fo.six])),h.web,h.prt,h.fr,h.nd,fun c hc=>⟨(h.exf c hc).1,(h.exf c hc).2.1,(h.exf c hc).2.2.elim fun o e=>⟨o,p _ _ (h.exf c hc).2.1 e⟩⟩,h.obj.eq (qf E),⟨A,by rw[qf F];show K,L,fun y=>(M y).mono p Fo.sub⟩,⟨w,by rw[qf b];show G,I,J⟩,⟨_,qb,by rw[put_len (j z hz)];show i,fun u v=>?_⟩,⟨xs,by rw[qf (Yo d)];show r,s⟩,by rw[qf (Yo f)];show h.wai,h.evn,h.evi,h.evs⟩,i⟩;rw[qaQ,j u v];show(if _ then _ else _)=some (V.str (if u∈l++[z] then m else S.bas u));have q:(S.setBas l m).bas u=if u∈l then m else S.bas u:=rfl;rw[q];by_cases e:u=z
 .subst e;rw[yG rfl,yG (by simp)]
 .rw [yA (fun x=>e (xk x))];by_cases y:u∈l
  .rw [yG y,yG (yU _ y)]
  .rw [yA y,yA (fun x=>(yC.mp x).elim y fun x=>e (yH.mp x))]
theorem FoA.updG{a:Fo}{bs:LS}(h:FoA (cc 9) cw H0 H a ss ns qs S bs dn wt lo)(m:xs.length<=(dn++wt).length):FoA (cc 9) cw H0 (upd H a.dg (.lst xs)) a ss ns qs S bs dn wt lo:=by
 obtain⟨p,A,B,C⟩:=h.row;obtain⟨n,v,w,z⟩:=h.par;obtain⟨k,i,j,l⟩:=h.bas;obtain⟨⟨D,E,F,t,G⟩,⟨I,J,u,K⟩,⟨q,b,r⟩,⟨d,s⟩,f⟩:=(by simpa [Fo.six] using h.sep:(¬a.x=a.dr/\¬a.x=a.da/\¬a.x=a.ds/\¬a.x=a.dg/\¬a.x=a.dw)/\(¬a.dr=a.da/\¬a.dr=a.ds/\¬a.dr=a.dg/\¬a.dr=a.dw)/\(¬a.da=a.ds/\¬a.da=a.dg/\¬a.da=a.dw)/\(¬a.ds=a.dg/\¬a.ds=a.dw)/\¬a.dg=a.dw);have g:Bx a.six H (upd H a.dg (.lst xs)):=(Bx.of (Sr H)).upd (by simp[Fo.six]);show⟨qaE h.sm (h.fr _ (by simp[Fo.six])),h.web,h.prt,h.fr,h.nd,fun c hc=>⟨(h.exf c hc).1,(h.exf c hc).2.1,(h.exf c hc).2.2.elim fun o e=>⟨o,g _ _ (h.exf c hc).2.1 e⟩⟩,h.obj.eq (qf t),⟨p,by rw[qf u];show A,B,fun y=>(C y).mono g Fo.sub⟩,⟨n,by rw[qf b];show v,w,z⟩,⟨k,by rw[qf d];show i,j,l⟩,⟨xs,qb,m⟩,by rw[qf (Yo f)];show h.wai,h.evn,h.evi,h.evs⟩
theorem ok_fdF(F:Fun K "fold" "Forest.fold" jI f fd)(T:Txt K mg cc cw)(Ke:MethOk P w K mg base CX0 1 cw "places" ["self"] (spPls cw)):FnOk P w K mg base CX0 2 f fd ["self","ring","meeting"] (spFd cc cw):=by
 show F.ok KM fun _ _ _ _ H vs Q E hr h=>?_
 .obtain⟨H0,a,ss,ns,qs,S,dn,wt,lo,lr,d,m,xs,rfl,h,am,ae,ap,aq,ac,ar,q⟩:=h;have B:=jV hr;show⟨_,(qc (qaI (sc:=qh jI) (XN:=["self","ring","meeting","within","place"]) ["place","ring","self","meeting"] 1 [1,0,2] rfl rfl rfl (by room) rfl (by room) (i:=3) KM.nd rfl rfl
  (qS (K:=K) rfl (jd Ke (hmR hr) (qC (K:=K) rfl (pv 0) rfl))) (fun _ _ _ _=>(qo (i:=0) (show(["place","ring","self","meeting"]:LS).Nodup by room) rfl (yJ rfl))) qR
  (fun _ _ _ _=>(qV (qj (zQ (K:=K) rfl B) (qu (qv (K:=K) rfl B) (qC (K:=K) rfl (pv 2) rfl) (pv 0) (fun _ _=>rfl)) (qw (j8 (K:=K) rfl) (pv 1) (qW (qa (pv 3) qd))) (by with_unfolding_all rfl))))
  (fun _ _ _ _=>(pv 0)))
 (qc (jj yY rfl (qS (K:=K) rfl (pv 3)) (qo (i:=4) KM.nd rfl (yJ rfl))
 (qe (jC (pv 2) (jN (qC (K:=K) rfl (pv 0) rfl) (pv 4) (jP B)))))
 (qe (qN (qaW (K:=K) rfl yD Yd Ye qO (qC (K:=K) rfl (pv 0) rfl) (qa (pv 3) qd)))))),?_⟩
  have ak:=h.few;have A:=h.web.same h.sm;obtain⟨wx,dd,ol,nn,hb,_⟩:=id A;apply .inl (h.obj.rd T 0 rfl ?_);show⟨a.b,wx,_,rfl,hb,j0 (by room),?_⟩;apply⟨a.b,ss,ns,rfl,A,fun pl af=>?_⟩;have s1:=qG (Sr H) (o:=.lst (ss.map V.str)) af;have X:upd H pl (.lst (ss.map V.str)) pl=some (.lst (ss.map V.str)):=qb;generalize upd H pl (.lst (ss.map V.str))=H1 at s1 X;show .inl ⟨⟨_,.of X⟩,qH (xs:=ss.map V.str) (fun i ys J=>L2.Same H1 J/\ys=((ss.take i).filter fun u=>decide (S.bas u∈d++[m])).map V.str) ⟨L2.Same.refl H1,rfl⟩ (fun i ys J _ g=>.of (g.1 _ _ X)) (fun i y ys J G g=>?_) fun ys J g=>?_⟩
  .obtain⟨I,rfl⟩:=g;rw[yd] at G;obtain⟨z,hz,rfl⟩:=yn.mp G;have j:=s1.trans I;have l:=h.same j;obtain⟨ks,N,b2,b3⟩:=l.bas;have an:=(yc.mp hz).1
   have r:(ss.take (i+1)).filter (fun u=>decide (S.bas u∈d++[m]))=(ss.take i).filter (fun u=>decide (S.bas u∈d++[m]))++(if S.bas z∈d++[m] then [z] else []):=by
    rw[yM,hz,yV];show _++[z].filter _=_;rw[yK];simp only[kB,Yx]
   apply .inl (l.obj.rd T 4 rfl ?_);apply qeR N (b3 z (ye hz)) ?_;apply⟨by show 1<=sizeLine;decide,fun U Z=>?_⟩;have t1:=qG (Sr J) (o:=.lst [.str m]) Z;have s:upd J U (.lst [.str m]) U=some (.lst [.str m]):=qb;generalize upd J U (.lst [.str m])=J1 at t1 s;show qfo ((j.trans t1) _ _ ae) s (by rw[ya];show _+1<=_;lk) fun W aa=>?_;have t2:=qG t1 (o:=.lst (d.map V.str++[.str m])) aa;have t:upd J1 W (.lst (d.map V.str++[.str m])) W=some (.lst ((d++[m]).map V.str)):=by rw[qb,yu];rfl
   generalize upd J1 W (.lst (d.map V.str++[.str m]))=J2 at t2 t;show qeS t ⟨_,rfl,?_⟩;rw[r];by_cases p:S.bas z∈d++[m]
   .rw [yB p,yG p];show zZ ?_;ext;have ad:=yN (fun u=>decide (S.bas u∈d++[m])) (ss.take i);rw[yR] at ad;show⟨by rw[ya];show qi (by lk),I.trans t2,by rw[yu];rfl⟩
   .rw [yl p,yA p,Yh];show yq ?_;show⟨I.trans t2,rfl⟩
  .obtain⟨I,rfl⟩:=g;rw[show(ss.map V.str).length=ss.length from ya _,yS];have j:=s1.trans I;have ah:(ss.filter fun u=>decide (S.bas u∈d++[m])).length<=ss.length:=yN _ _;show⟨by rw[ya];show yW (qi (by lk)),fun M C=>?_⟩;have O:=qG j (o:=.lst ((wnL S ss d m).map V.str)) C;have Y:upd J M (.lst ((wnL S ss d m).map V.str)) M=some (.lst ((wnL S ss d m).map V.str)):=qb;have al:(wnL S ss d m).length<=ss.length:=ah;have ai:∀ u∈wnL S ss d m,u∈ss:=fun u B=>(yp.mp B).1;show qgK _ _ _ _ (upd J M (.lst ((wnL S ss d m).map V.str)));generalize wnL S ss d m=L at *;have D:=(h.same j).new C;generalize upd J M (.lst (L.map V.str))=H2 at O Y;have h2:=h.same O;apply .inl ⟨⟨_,.of Y⟩,jc (xs:=L.map V.str) (fun i σ J=>Bx a.six H2 J/\(∀ o,H2 a.dg=some o->J a.dg=some o)/\FoA (cc 9) cw H0 J a ss ns qs (S.setBas (L.take i) m) ss dn wt lo/\∃ y4,σ=[some (.ref a.x),some (.ref lr),some (.str m),some (.ref M),y4]) ⟨fun c o _ e=>e,fun _ e=>e,?_,_,rfl⟩ (fun i σ J _ g=>.of (g.1 _ _ D Y)) (fun i y σ J G g=>?_) fun σ J g=>?_⟩
   .have:S.setBas ([]:LS) m=S:=by unfold FS.setBas;simp
    rw[List.take_zero,this];show h2
   .obtain⟨R,hg,l,y4,rfl⟩:=g;rw[yd] at G;obtain⟨z,hz,rfl⟩:=yn.mp G;obtain⟨ks,N,b2,b3⟩:=l.bas;have ag:L.take (i+1)=L.take i++[z]:=by rw[yM,hz];rfl
    obtain⟨h3,ao⟩:=l.setB N (ai z (ye hz));apply .inl (l.obj.rd T 4 rfl ?_);apply .inr ⟨a.ds,_,rfl,DPut.k (k:=Sum.inr z) N (by rw[YF];lk),?_⟩;have aj:a.dg≠a.ds:=fun e=>by have:=h.nd;rw[e] at this;simp at this
    show⟨fun c o n e=>by rw[qf (fun y=>n (by rw[y];simp[Fo.six]))];show R c o n e,fun o e=>by rw[qf aj];show hg o e,by rw[ag];show h3,_,rfl⟩
   .obtain⟨R,hg,l,y4,rfl⟩:=g;rw[ya,yS] at l;have v:=hg _ (O _ _ ac);apply .inl (l.obj.rd T 5 rfl ?_);show⟨.inl ⟨rfl,_,.of v⟩,?_⟩;apply⟨a.dg,_,_,rfl,rfl,v,qi (by lk),?_⟩;show q _ (l.updG (by rw[yt];simp only[yF,Y0];lk)) ((Bx.of O).trans R |>.upd (by simp[Fo.six]))
theorem Kg:FnScope ["self","one","other","ones","others","meeting","ring"] ["self","one","other"] (qh qK):=fS
structure Mono(S S':FS):Prop where
 ba:∀ u v,S.bas u=S.bas v->S'.bas u=S'.bas v
 pa:∀ u,S.par u≠none->S'.par u≠none
 ro:∀ u r,S.rows u=some r->S'.rows u=some r
theorem Mono.refl(S:FS):Mono S S:=⟨fun _ _ e=>e,fun _ e=>e,fun _ _ e=>e⟩
theorem Mono.trans{c:FS}(a:Mono S S')(b:Mono S' c):Mono S c:=⟨fun u v e=>b.ba u v (a.ba u v e),fun u e=>b.pa u (a.pa u e),fun u r e=>b.ro u r (a.ro u r e)⟩
structure Wb(A:Str->Str->Prop)(ss:LS)(qs:LP):Prop where
 gr:Gr A (pt qs)
 inn:∀ a b,A a b->a∈ss
 qn:(qx qs).Nodup
 few:ss.length<=14
 nd:ss.Nodup
theorem Alt.inn(W:Wb A ss qs){r:LS}(h:Alt A (pt qs) r v)(hv:v∈ss):r.length<=14/\∀ u∈r,u∈ss:=by
 have a:∀ u∈r,u∈ss:=fun u g=>by
  obtain⟨j,d⟩:=yf g;obtain⟨i,e⟩:=h.tl;by_cases hl:j+1<r.length
  .obtain⟨b,f⟩:∃ b,r[j+1]?=some b:=⟨_,yb hl⟩;show W.inn _ _ (h.st j u b d f).1
  .have c:=(yc.mp d).1;have:j=i.length:=by rw[e,yt] at c hl;simp at c hl;lk
   rw[e,this,yP (yh _),kU] at d;rw[<- ym d];show hv
 show⟨yi (zG h.nd a) W.few,a⟩
theorem qdU(l':LS):∀{l:LS},(∃ d∈l,d∈l')->∃ l1 m l2,l=l1++m::l2/\m∈l'/\(∀ d∈l1,d∉l')/\∃ t,l.filter (fun d=>decide (d∈l'))=m::t
 | [],⟨_,h,_⟩=>by cases h
 | x::r,h=>by
  by_cases b:x∈l'
  .show⟨[],x,r,rfl,b,(fun _ h=>by cases h),_,by rw[yK,yG (yB b)]⟩
  .obtain⟨d,i,a⟩:=h;obtain⟨l1,m,l2,c,e,f,t,g⟩:=qdU l' (l:=r) ⟨d,(yy.mp i).resolve_left (fun z=>b (by rw[<- z];show a)),a⟩;show⟨x::l1,m,l2,by rw[c];rfl,e,fun y hy=>?_,t,by rw[yK,yA (by simpa using b)];show g⟩;rcases yy.mp hy with rfl | hy
   .show b
   .show f y hy
def BtR(qs:LP)(ss:LS)(S:FS)(v w:Str)(S':FS)(a:LS):Prop:=∃ l l' rv rw,Ch (pt qs) S (S.bas v) l/\Ch (pt qs) S (S.bas w) l'/\S.rows v=some rv/\rv.Nodup/\S.rows w=some rw/\rw.Nodup/\l.getLast?=l'.getLast? /\
 ((S.bas v=S.bas w/\S'=S/\a=[])\/(S.bas v≠S.bas w/\∃ l1 m l2 m1 S1 S2 b,l=l1++m::l2/\(∀ d∈l1,d∉l')/\m∈l'/\l'=m1++m::l2/\m∉m1/\RR (pt qs) S S1 v w l1/\RR (pt qs) S1 S2 w v m1/\(∀ u,u∈b↔∃ c∈l1++m1,u=c\/pt qs c=some u)/\S'=S2.setBas (wnL S2 ss b m) m/\a=(l1++m1).map (pq qs)))
def BtL(qs:LP)(S:FS)(v w:Str)(r:LS):Prop:=∃ l l' rv rw,Ch (pt qs) S (S.bas v) l/\Ch (pt qs) S (S.bas w) l'/\l.getLast?≠l'.getLast?/\S.rows v=some rv/\S.rows w=some rw/\r=rv++rw.reverse
theorem RR.det{f:Str->Option Str}{w:Str}{b:LS}(hv:S.rows v=some rv)(j:rv.Nodup)(h:RR f S S1 v w b)(g:RR f S S2 v w b):S1=S2:=by
 have a:∀{S1 S2:FS},RR f S S1 v w b->RR f S S2 v w b->∀ u r,S1.rows u=some r->S2.rows u=some r:=fun{S1 S2} h g u r e=>by
  cases d:S.rows u with
  | some r0 =>
   have:=h.old u r0 d;rw[e] at this;rw[g.old u r0 d,this]
  | none =>
   rcases h.new u r e with z | ⟨c,hc,hu,rv1,rw1,rz,t,k1,k2,k3,k4⟩
   .rw [d] at z;cases z
   .obtain⟨q,i⟩:=g.all c hc u hu;rcases g.new u q i with z | ⟨c',_,_,rv2,rw2,rz',t',k1',k2',k3',k4'⟩
    .rw [d] at z;cases z
    .rw [hv] at k1 k1';cases k1;cases k1';rw[k2] at k2';cases k2';rw[k3] at j k3';obtain⟨_,p⟩:=qeN j k3';rw[i,k4',k4,p]
 have l:S1.rows=S2.rows:=by
  funext u
  cases e:S1.rows u with
  | some r=>show(a h g u r e).symm
  | none =>
   cases o:S2.rows u with
   | none=>rfl
   | some r=>rw[a g h u r o] at e;cases e
 obtain⟨s,y,B⟩:=S1;obtain⟨x,A,C⟩:=S2;have m:=h.par.trans g.par.symm;have n:=h.bas.trans g.bas.symm;dsimp only at l m n;rw[l,m,n]
theorem BtR.det{w:Str}(h:BtR qs ss S v w S1 m1)(g:BtR qs ss S v w S2 m2):S1=S2/\m1=m2:=by
 obtain⟨l,l',rv,af,T,U,r1,n1,r2,n2,_,h⟩:=h;obtain⟨k,k',ad,ae,W,X,aa,_,ac,_,_,g⟩:=g;have c:=T.one W;subst c;have t:=U.one X;subst t;have hl:k.Nodup->k'.Nodup->True:=fun _ _=>trivial;rcases h with⟨I,rfl,rfl⟩ | ⟨I,j,m,p,b1,T1,M,rg,Y,ed,em,Z,en,L,R2,J,rfl,rfl⟩
 .rcases g with⟨_,rfl,rfl⟩ | ⟨f,_⟩
  .show⟨rfl,rfl⟩
  .show absurd I f
 .rcases g with⟨f,_⟩ | ⟨_,a,n,b,R,N,O,K,A,C,D,B,E,q,s,o,rfl,rfl⟩
  .show absurd f I
  .have first:∀{j a p b:LS} {m n:Str} {P:Str->Prop},j++m::p=a++n::b->(∀ d∈j,¬ P d)->P m->(∀ d∈a,¬ P d)->P n->j=a/\m=n:=fun{j}=>by
    induction j with
    | nil=>intro a p b m n P e h1 F G H;cases a with
     | nil=>injection e with c _;show⟨rfl,c⟩
     | cons x r=>injection e with c _;show absurd (c ▸ F) (G x yO)
    | cons y r ih=>intro a p b m n P e h1 F G H;cases a with
     | nil=>injection e with c _;show absurd (c ▸ H) (h1 y yO)
     | cons x r' =>
      injection e with c t
      obtain⟨z1,z2⟩:=ih t (fun d i=>h1 d (yz _ i)) F (fun d i=>G d (yz _ i)) H;show⟨by rw[c,z1],z2⟩
   obtain⟨q1,q2⟩:=first (P:=fun d=>d∈k') (Y.symm.trans A) ed em C D;subst q1;subst q2;obtain⟨q3,_⟩:=first (P:=fun d=>d=m) (Z.symm.trans B) (fun d i z=>en (z ▸ i)) rfl (fun d i z=>E (z ▸ i)) rfl;subst q3;have t1:=L.det r1 n1 q;subst t1;have t2:=R2.det (L.old _ _ r2) n2 s;subst t2
   have ew:wnL M ss rg m=wnL M ss K m:=by
    unfold wnL;show YB fun u _=>Yq.mpr ?_;rw[yC,yC,J,o]
   rw[ew];show⟨rfl,rfl⟩
theorem BtL.det{w:Str}{r e:LS}(h:BtL qs S v w r)(g:BtL qs S v w e):r=e:=by
 obtain⟨_,_,_,_,_,_,_,a,b,rfl⟩:=h;obtain⟨_,_,_,_,_,_,_,c,d,rfl⟩:=g;rw[a] at c;rw[b] at d;cases c;cases d;rfl
theorem BtL.not{w:Str}{r m:LS}(h:BtL qs S v w r)(g:BtR qs ss S v w S' m):False:=by
 obtain⟨l,l',_,_,a,b,c,_⟩:=h;obtain⟨k,k',_,_,e,f,_,_,_,_,d,_⟩:=g;rw[a.one e,b.one f] at d;show c d
inductive spBt(cc:Nat->Addr)(cw:Addr)(vs:List V)(H:Hp)(Q:VK)(E:XK):Prop|mk (H0:Hp) (a:Fo) (ss:LS) (ns:LN) (qs:LP) (S:FS) (dn wt:LS) (v w:Str) (rv rw:LS) (A:Str->Str->Prop) (_:vs=[.ref a.x,.str v,.str w]) (_:FoA (cc 9) cw H0 H a ss ns qs S ss dn wt .non) (_:Wb A ss qs) (_:FI A (pt qs) S) (_:S.rows v=some rv) (_:S.rows w=some rw) (_:A v w) (_:(∀(H':Hp) (S':FS) (more:LS),FoA (cc 9) cw H0 H' a ss ns qs S' ss dn (wt++more) .non->Bx a.six H H'->FI A (pt qs) S'->S'.bas v=S'.bas w->Mono S S'->BtR qs ss S v w S' more->Q .non H')) (_:∀(H':Hp) (t:Addr) (r:LS),FoA (cc 9) cw H0 H' a ss ns qs S ss dn wt (.ref t)->Bx a.six H H'->H' t=some (.lst (r.map V.str))->t∉a.all->Aug A (pt qs) r->r.length<=28->BtL qs S v w r->Q .non H')
theorem qfD{d:Str}{Q:VK}(q:Q (.bl (!decide (c=d))) H):qf6 K true (.str c) (.str d) H Q:=by
 show .inl ⟨rfl,rfl,?_⟩;rw[yG rfl]
 have e:eqV (.str c) (.str d)=decide (c=d):=by
  by_cases h:c=d
  .subst h;simp[eqV]
  .simp [eqV,h]
 rw[e];show q
theorem FoA.setL{a:Fo}{bs:LS}{fs:List (Str×V)}{v:V}(h:FoA (cc 9) cw H0 H a ss ns qs S bs dn wt .non)(s:H a.x=some (.ins (cc 9) dx fs))(hv:v≠.non):fs.length<1000/\FoA (cc 9) cw H0 (upd H a.x (.ins (cc 9) dx (qI "longer" v fs))) a ss ns qs S bs dn wt v:=by
 obtain⟨m,n,g,K,G,I,J⟩:=h.obj;rw[s] at g;cases g;have hl:=G rfl;obtain⟨w,D,E,F⟩:=h.row;obtain⟨t,A,B,C⟩:=h.par;obtain⟨k,i,j,l⟩:=h.bas;obtain⟨xs,p,q⟩:=h.rng;have r:=h.sep;have nx:∀{c:Addr},c∈[a.dr,a.da,a.ds,a.dg,a.dw]->c≠a.x:=fun hc e=>(yo.mp r).1 (by rw[<- e];show hc);have d:Bx a.six H (upd H a.x (.ins (cc 9) dx (qI "longer" v fs))):=(Bx.of (Sr H)).upd (by simp[Fo.six]);show⟨by lk,qaE h.sm (h.fr _ (by simp[Fo.six])),h.web,h.prt,h.fr,h.nd,fun c hc=>⟨(h.exf c hc).1,(h.exf c hc).2.1,(h.exf c hc).2.2.elim fun o e=>⟨o,d _ _ (h.exf c hc).2.1 e⟩⟩,⟨dx,_,qb,yi (jA _ _ _) (by lk),fun e=>absurd e hv,fun f u b=>?_,fun f b=>?_⟩,⟨w,by rw[qf (nx (by simp))];show D,E,fun y=>(F y).mono d Fo.sub⟩,⟨t,by rw[qf (nx (by simp))];show A,B,C⟩,⟨k,by rw[qf (nx (by simp))];show i,j,l⟩,⟨xs,by rw[qf (nx (by simp))];show p,q⟩,by rw[qf (nx (by simp))];show h.wai,h.evn,h.evi,h.evs⟩
 .rw [qD];by_cases e:f="longer"
  .rw [yG e];subst e;have:(Str.ofString "longer",u)∈a.tab v:=b;simp only[Fo.tab,yy,XA,Yb,YL] at this;rcases this with⟨z,_⟩ | ⟨z,_⟩ | ⟨z,_⟩ | ⟨z,_⟩ | ⟨z,_⟩ | ⟨z,_⟩ | ⟨z,_⟩ | ⟨_,z⟩<;>first | show absurd z (by room) | show congrArg some z.symm
  .rw [yA e];show I f u ?_;have:(f,u)∈a.tab v:=b;simp only[Fo.tab,yy,XA,Yb,YL] at this ⊢;rcases this with z | z | z | z | z | z | z | ⟨z,_⟩
   all_goals first | show absurd z e | simp[z]
 .rw [qD,yA (fun e=>b (by rw[e];room))];show J f b
theorem FoA.rowAt{a:Fo}{bs:LS}(h:FoA (cc 9) cw H0 H a ss ns qs S bs dn wt lo){r:LS}(e:S.rows u=some r){Q:VK}(q:∀ t,H t=some (.lst (r.map V.str))->Q (.ref t) H):qgH K (.ref a.dr) (.str u) H Q:=by
 obtain⟨g,d,_,f⟩:=h.row;have:=f u;rw[e] at this;obtain⟨t,b,c,_⟩:=this;show qeR d b (q t c)
theorem ok_bt(F:Fun K "bring_together" "Forest.bring_together" qK f fd)(T:Txt K mg cc cw)(KB:MethOk P w K mg base CX0 1 (cc 9) "bases_down_from" ["self","place"] (spBd cc cw))(KH:MethOk P w K mg base CX0 2 (cc 9) "reach_round" ["self","one","other","bases"] (spRr cc cw))(uJ:MethOk P w K mg base CX0 2 (cc 9) "fold" ["self","ring","meeting"] (spFd cc cw)):FnOk P w K mg base CX0 3 f fd ["self","one","other"] (spBt cc cw):=by
 show F.ok Kg fun _ _ _ _ H vs Q E hr h=>?_
 .obtain⟨H0,a,ss,ns,qs,S,dn,wt,v,w,rv,b,B,rfl,h,g,I,hv,hw,ch,q1,q2⟩:=h;have N:=jV hr;have Y:∀{v:Str} {r:LS},S.rows v=some r->v∈ss:=fun e=>h.evs _ ((h.evi _).mpr (by rw[e];show fun z=>by cases z));obtain⟨l,hl⟩:=I.chainOf hv;obtain⟨l',s⟩:=I.chainOf hw;have an:=hl.nd I hv rfl;have D:=s.nd I hw rfl;have ac:l.length<=14:=yi (zG an fun c hc=>(hl.bs0 I hv hc).elim fun r z=>Y z.1) g.few;have L:l'.length<=14:=yi (zG D fun c hc=>(s.bs0 I hw hc).elim fun r z=>Y z.1) g.few;obtain⟨ba,dw⟩:=(I.alt v rv hv).inn g (Y hv);obtain⟨ap,dy⟩:=(I.alt w b hw).inn g (Y hw);obtain⟨lx,c,ae⟩:∃ lx c,l=lx++[c]:=by obtain⟨t,e⟩:=hl.ne;show⟨_,_,(xt (by rw[e];show kO _ _)).symm⟩
  obtain⟨ly,d,af⟩:∃ ly d,l'=ly++[d]:=by obtain⟨t,e⟩:=s.ne;show⟨_,_,(xt (by rw[e];show kO _ _)).symm⟩
  show⟨_,(qc (qk (i:=3) Kg.nd rfl (yJ rfl) (qF KB (hmR hr) (pv 0) (qa (pv 1) qd)))
 (qc (qk (i:=4) Kg.nd rfl (Xm rfl) (qF KB (hmR hr) (pv 0) (qa (pv 2) qd)))
 (qe (qP (qj (qaJ (K:=K) rfl N) (qu (qv (K:=K) rfl N) (pv 3) (qaO qaP qg) (fun _ _=>rfl)) (qu (qv (K:=K) rfl N) (pv 4) (qaO qaP qg) (fun _ _=>rfl)) (qA _)) (qe (j5 (K:=K) rfl (pv 0) (qw (j8 (K:=K) rfl) (qu (qv (K:=K) rfl N) (qC (K:=K) rfl (pv 0) rfl) (pv 1) (fun _ _=>rfl)) (qfB (K:=K) rfl (qu (qv (K:=K) rfl N) (qC (K:=K) rfl (pv 0) rfl) (pv 2) (fun _ _=>rfl)) (jQ (qaO qaP qg)))) rfl)) (qe (qP (qj (qaJ (K:=K) rfl N) (qu (qv (K:=K) rfl N) (pv 3) qg (fun _ _=>rfl)) (qu (qv (K:=K) rfl N) (pv 4) qg (fun _ _=>rfl)) (qA _)) (qc (qk (i:=5) Kg.nd rfl (yJ rfl) (qu (qv (K:=K) rfl N) (q9 (sc:=qh qK) (XN:=["self","one","other","ones","others","meeting","ring"]) ["base","others"] 1 [4] rfl rfl rfl (by room) rfl (by room)
  (qS (K:=K) rfl (pv 3)) (fun _ _ _ _=>(qo (i:=0) (show(["base","others"]:LS).Nodup by room) rfl (yJ rfl))) qR
  (fun _ _ _ _=>(qV (qj (zQ (K:=K) rfl N) (pv 0) (pv 1) (by with_unfolding_all rfl))))
  (fun _ _ _ _=>(pv 0))) qg (fun _ _=>rfl)))
 (qc (qk (i:=6) Kg.nd rfl (yJ rfl) (qF KH (hmR hr) (pv 0) (qa (pv 1) (qa (pv 2) (qa (jE (qeF (K:=K) rfl) (pv 3) zm (jQ (qaW (K:=K) rfl yD Yz YK (qag (K:=K) rfl) (pv 3) (qa (pv 5) qd)))) qd)))))
 (qc (qN (qaW (K:=K) rfl yD xR xS qas (pv 6) (qa (qF KH (hmR hr) (pv 0) (qa (pv 2) (qa (pv 1) (qa (jE (qeF (K:=K) rfl) (pv 4) zm (jQ (qaW (K:=K) rfl yD Yz YK (qag (K:=K) rfl) (pv 4) (qa (pv 5) qd)))) qd)))) qd)))
 (qe (qN (qF uJ (hmR hr) (pv 0) (qa (pv 6) (qa (pv 5) qd)))))))) qy)))))),?_⟩
  ext;obtain⟨dx,fs,ao,_,_,_,be⟩:=id h.obj;show⟨a.x,dx,fs,rfl,ao,be _ (by room),?_⟩;apply⟨H0,a,ss,ns,qs,S,dn,wt,.non,v,rv,l,B,rfl,h,g.few,I,hv,hl,ac,fun o1 H1 s1 dm cx=>?_⟩;apply⟨a.x,dx,fs,rfl,s1 _ _ ao,be _ (by room),?_⟩;apply⟨H0,a,ss,ns,qs,S,dn,wt,.non,w,b,l',B,rfl,h.same s1,g.few,I,hw,s,L,fun o2 H2 s2 dp aq=>?_⟩;have au:=s1.trans s2;have h2:=h.same au;have U:=s2 _ _ cx;have du:=h.newA dm;have dv:=(h.same s1).newA dp;apply⟨1,rfl,?_⟩;show .inl (zN U (v:=.str c) (by rw[ae];show atI_last) ?_);apply⟨1,rfl,?_⟩;show .inl (zN aq (v:=.str d) (by rw[af];show atI_last) ?_);show qfD ⟨_,rfl,?_⟩;by_cases aa:c=d
  .rw [yB aa];show yq ?_;obtain⟨t0,X⟩:=hl.ne;obtain⟨eg,C⟩:=s.ne;apply .inl (zN U (v:=.str (S.bas v)) (qt (j:=0) (by rw[X];rfl)) ?_);apply .inl (zN aq (v:=.str (S.bas w)) (qt (j:=0) (by rw[C];rfl)) ?_);show qfD ⟨_,rfl,?_⟩;by_cases Z:S.bas v=S.bas w
   .rw [yB Z];show yq ?_;show q1 H2 S [] (by rw[Yh];show h2) (Bx.of au) I Z (Mono.refl S) ⟨l,l',rv,b,hl,s,hv,(I.alt v rv hv).nd,hw,(I.alt w b hw).nd,by rw[ae,af,xn,xn,aa],.inl ⟨Z,rfl,rfl⟩⟩
   .rw [yl Z];show zZ ?_;obtain⟨l1,m,l2,R,ad,am,tf,bw⟩:=qdU l' (l:=l) ⟨c,by rw[ae];simp,by rw[af,aa];simp⟩;obtain⟨m1,m2,M⟩:=Yu ad;obtain⟨cv,dh⟩:=hl.meet I hv hw s R M am;rw[cv] at M;have cd:m∉m1:=fun z=>by rw[M] at D;show(Yk.mp D).2.2 m z m (by simp) rfl
    have dz:m∉l1:=fun z=>am m z ad;apply .inl ⟨⟨_,.of U⟩,qH (xs:=l.map V.str) (fun i ys J=>J=H2/\ys=((l.take i).filter fun d=>decide (d∈l')).map V.str) ⟨rfl,rfl⟩ (fun i ys J _ hp=>by rw[hp.1];show .of U) (fun i y ys J hy hp=>?_) fun ys J hp=>?_⟩
    .obtain⟨rfl,rfl⟩:=hp;rw[yd] at hy;obtain⟨z,hz,rfl⟩:=yn.mp hy
     have bd:(l.take (i+1)).filter (fun d=>decide (d∈l'))=(l.take i).filter (fun d=>decide (d∈l'))++(if z∈l' then [z] else []):=by
      rw[yM,hz,yV];show _++[z].filter _=_;rw[yK];simp only[kB,Yx]
     have ed:=(yc.mp hz).1;have dj:=yN (fun d=>decide (d∈l')) (l.take i);rw[yR] at dj;apply qeS aq ⟨_,rfl,?_⟩;rw[bd];by_cases G:z∈l'
     .rw [yB G,yG G];show zZ ?_;apply⟨by rw[ya];show qi (by lk),rfl,by rw[yu];rfl⟩
     .rw [yl G,yA G,Yh];show yq ?_;show⟨rfl,rfl⟩
    .obtain⟨rfl,rfl⟩:=hp;rw[show(l.map V.str).length=l.length from ya _,yS,bw];have dr:=yN (fun d=>decide (d∈l')) l;rw[bw] at dr;show⟨by rw[ya];show yW (qi (by lk)),fun cl bz=>?_⟩;have s3:=qG au (o:=.lst ((m::tf).map V.str)) bz;have bg:=qG (Sr J) (o:=.lst ((m::tf).map V.str)) bz;have bn:upd J cl (.lst ((m::tf).map V.str)) cl=some (.lst ((m::tf).map V.str)):=qb;generalize upd J cl (.lst ((m::tf).map V.str))=H3 at s3 bg bn;apply .inl (zN bn (v:=.str m) (qt (j:=0) rfl) ?_);have h3:=h.same s3;have aj:=bg _ _ U;have bq:=bg _ _ aq;apply⟨a.x,dx,fs,rfl,s3 _ _ ao,be _ (by room),?_⟩;apply⟨.inl ⟨rfl,_,.of aj⟩,?_⟩;apply⟨o1,l,m,rfl,rfl,.of aj,by rw[R];simp,_,rfl,?_⟩;rw[show l.idxOf m=l1.length by rw[R] at an ⊢;show qdt an];apply .inl ⟨o1,_,rfl,.of aj,fun c1 ag=>?_⟩;have bo:qde (l.map V.str) none (some ((l1.length:Nat):Int))=l1.map V.str:=by rw[qbO,R,yu,List.take_left' (by simp)]
     rw[bo];have s4:=qG s3 (o:=.lst (l1.map V.str)) ag;have cq:=qG (Sr H3) (o:=.lst (l1.map V.str)) ag;have ah:upd H3 c1 (.lst (l1.map V.str)) c1=some (.lst (l1.map V.str)):=qb;have n1:=h3.new ag;generalize upd H3 c1 (.lst (l1.map V.str))=H4 at s4 cq ah;have h4:=h.same s4
     have bb:∀{x y:Str} {rx k W:LS},S.rows x=some rx->(∀ u∈rx,u∈ss)->Ch (pt qs) S (S.bas x) k->k=W++m::l2->∀ c∈W,∃ q rz t,pt qs c=some q/\S.rows q=none/\q∈ss/\rx=rz++q::t:=fun{x y rx k W} hx hs hk ek c hc=>by
      obtain⟨a',b',ea⟩:=Yu hc;have bp:k=a'++c::(b'++m::l2):=by rw[ek,ea];simp
      obtain⟨_,_,_,_,g3,_⟩:=hk.up I hx rfl bp;rcases g3.cases' with⟨_,z⟩ | ⟨q,_,hq,_⟩
      .simp at z
      .obtain⟨rz,t,W,_,k3,_⟩:=hk.suf I hx bp hq;show⟨q,rz,_,hq,k3,hs q (by rw[W];simp),W⟩
     apply⟨H0,a,ss,ns,qs,S,dn,wt,.non,v,w,c1,l1,rv,b,rfl,h4,g.few,ah,n1,hv,hw,ba,ap,(I.alt v rv hv).nd,?_,?_,g.qn,bb (y:=v) hv dw hl R,fun O p ar H5 S1 h5 bi cg br ay ce aw R1 dk=>?_⟩
     .rw [R] at an;show(Yk.mp an).1
     .rw [R,yt] at ac;lk
     have ec:o1∉a.six:=fun z=>du (Fo.sub _ z);have cp:o2∉a.six:=fun z=>dv (Fo.sub _ z);have ak:=bi _ _ cp (cq _ _ bq);apply⟨.inl ⟨rfl,_,.of br⟩,?_⟩;ext;obtain⟨ct,db,cj,_,_,_,cm⟩:=id h5.obj;show⟨a.x,ct,db,rfl,cj,cm _ (by room),?_⟩;apply⟨.inl ⟨rfl,_,.of ak⟩,?_⟩;apply⟨o2,l',m,rfl,rfl,.of ak,ad,_,rfl,?_⟩;rw[show l'.idxOf m=m1.length by rw[M] at D ⊢;show qdt D];apply .inl ⟨o2,_,rfl,.of ak,fun c2 al=>?_⟩;have bc:qde (l'.map V.str) none (some ((m1.length:Nat):Int))=m1.map V.str:=by rw[qbO,M,yu,List.take_left' (by simp)]
     rw[bc];have s6:=qG (Sr H5) (o:=.lst (m1.map V.str)) al;have ai:upd H5 c2 (.lst (m1.map V.str)) c2=some (.lst (m1.map V.str)):=qb;have n2:=h5.new al;generalize upd H5 c2 (.lst (m1.map V.str))=H6 at s6 ai;have h6:=h5.same s6
     have co:∀ c∈m1,∀ q,pt qs c=some q->S.rows q=none->S1.rows q=none:=fun c hc q hq hn=>by
      cases e:S1.rows q with
      | none=>rfl
      | some r =>
       exfalso;rcases R1.new q r e with z | ⟨c',hc',z,_⟩
       .rw [hn] at z;cases z
       .have e1:=g.gr.fs z;rw[g.gr.fs hq] at e1;rw[<- ym e1] at hc';show am c hc' (by rw[M];show yU _ hc)
     apply⟨H0,a.add O,ss,ns,qs,S1,dn,wt++ar,.non,w,v,c2,m1,b,rv,rfl,h6,g.few,ai,n2,R1.old _ _ hw,R1.old _ _ hv,ap,ba,(I.alt w b hw).nd,?_,?_,g.qn,fun c hc=>?_,fun t2 A bf H7 S2 h7 bj ee cy az cf ax R2 dl=>?_⟩
     .rw [M] at D;show(Yk.mp D).1
     .rw [M,yt] at L;lk
     .obtain⟨q,rz,t,W,k2,k3,k4⟩:=bb (y:=v) hw dy s M c hc;show⟨q,rz,t,W,co c hc q W k2,k3,k4⟩
     have bh:O∉a.six:=h4.new cg;have bu:H7 O=some (.lst (p.map V.str)):=bj _ _ bh (s6 _ _ br);apply⟨O,t2,_,_,rfl,rfl,bu,cy,by rw[ya,ya,YF];rw[R,yt] at ac;rw[M,yt] at L;lk,?_⟩;have h8:=h7.updE (c:=O) (o:=.lst (p.map V.str++A.map V.str)) (by simp[Fo.add]);obtain⟨xs,di,ef⟩:=h.rng;have ca:=dl _ (s6 _ _ (dk _ (s4 _ _ di)));have dt:a.dg≠O:=fun z=>bh (by rw[<- z];simp[Fo.six]);have bv:upd H7 O (.lst (p.map V.str++A.map V.str)) O=some (.lst ((p++A).map V.str)):=by rw[qb,yu]
     have av:upd H7 O (.lst (p.map V.str++A.map V.str)) a.dg=some (.lst xs):=by rw[qf dt];show ca
     have bm:Bx a.six H (upd H7 O (.lst (p.map V.str++A.map V.str))):=fun e o n k=>by
      have ne:e≠O:=fun z=>by rw[z,s4.free cg] at k;cases k
      rw[qf ne];show bj _ _ n (s6 _ _ (bi _ _ n (s4 _ _ k)))
     generalize upd H7 O (.lst (p.map V.str++A.map V.str))=H8 at h8 bv av bm
     have eb:0<ar.length+bf.length:=by
      rw[aw,ax,ya,ya];rcases l1 with _ | ⟨x,r⟩
      .rcases m1 with _ | ⟨x,r⟩
       .rw [R] at X;rw[M] at C;show absurd ((xw X).1.symm.trans (xw C).1) Z
       .simp
      .simp;lk
     ext;obtain⟨cu,dc,ck,_,_,_,cn⟩:=id h8.obj;show⟨a.x,cu,dc,rfl,ck,cn _ (by room),?_⟩;apply⟨H0,(a.add O).add t2,ss,ns,qs,S2,dn,wt++ar++bf,.non,O,p++A,m,xs,rfl,h8,g.few,bv,bh,?_,av,?_,fun H9 h9 cs=>?_⟩
     .rw [yt,ce,cf];rw[R,yt] at ac;rw[M,yt] at L;lk
     .rw [<- Yl,<- Yl,yt,yt (as:=dn++wt)];lk
     have dq:∀ u,u∈p++A++[m]↔InR (pt qs) m (l1++m1) u:=fun u=>by
      rw[yC,yC,ay,az,yH];unfold InR;constructor
      .rintro ((⟨c,hc,z⟩ | ⟨c,hc,z⟩) | z)
       .show .inr ⟨c,yU _ hc,z⟩
       .show .inr ⟨c,yT _ hc,z⟩
       .show .inl z
      .rintro (z | ⟨c,hc,z⟩)
       .show .inr z
       .rcases yC.mp hc with y | y
        .show .inl (.inl ⟨c,y,z⟩)
        .show .inl (.inr ⟨c,y,z⟩)
     have bx:S2.bas=S.bas:=by rw[R2.bas,R1.bas]
     have cb:∀ u,InR (pt qs) m (l1++m1) (S.bas u)->u∈ss:=fun u N=>by
      cases e:S.rows u with
      | some r=>show Y e
      | none =>
       rw[I.own e] at N;rcases N with z | ⟨c,hc,z⟩
       .obtain⟨r,k,_⟩:=hl.bs0 I hv (c:=m) (by rw[R];simp);rw[z];show Y k
       .have df:∃ r,S.rows c=some r:=by
         rcases yC.mp hc with y | y
         .show(hl.bs0 I hv (by rw[R];show yU _ y)).elim fun r k=>⟨r,k.1⟩
         .show(s.bs0 I hw (by rw[M];show yU _ y)).elim fun r k=>⟨r,k.1⟩
        obtain⟨r,k⟩:=df;rcases z with z | z
        .rw [z];show Y k
        .show g.inn _ _ (g.gr.as (g.gr.fa z))
     have hM:Mg (pt qs) S (S2.setBas (wnL S2 ss (p++A) m) m) v w m l1 m1:=by
      have ci:∀ u,u∈wnL S2 ss (p++A) m↔u∈ss/\InR (pt qs) m (l1++m1) (S.bas u):=fun u=>by
       unfold wnL;rw[yp,yI,dq,bx]
      have nr:∀{u:Str} {r:LS},NewRow S1 w v u r->NewRow S w v u r:=fun⟨a1,a2,a3,a4,W,k2,k3⟩=>by
       rw[R1.old _ _ hw] at W;rw[R1.old _ _ hv] at k2;cases W;cases k2;show⟨_,_,a3,a4,hw,hv,k3⟩
      show⟨by show S2.par=S.par;rw[R2.par,R1.par],fun u r e=>R2.old _ _ (R1.old _ _ e),fun u r e=>?_,fun c hc q hq=>?_,fun u N=>?_,fun u N=>?_⟩
      .rcases R2.new u r e with z | ⟨c,hc,W,k2⟩
       .rcases R1.new u r z with z | z
        .show .inl z
        .show .inr (.inl z)
       .show .inr (.inr ⟨c,hc,W,nr k2⟩)
      .rcases yC.mp hc with y | y
       .obtain⟨r,k⟩:=R1.all c y q hq;show⟨r,R2.old _ _ k⟩
       .show R2.all c y q hq
      .show(if u∈wnL S2 ss (p++A) m then m else S2.bas u)=m;rw[yG ((ci u).mpr ⟨cb u N,N⟩)]
      .show(if u∈wnL S2 ss (p++A) m then m else S2.bas u)=S.bas u;rw[yA (fun z=>N ((ci u).mp z).2),bx]
     have hI:=I.merge g.gr hv hw (R ▸ hl) (M ▸ s) (M ▸ am) (R ▸ dh) ch Z hM
     have dd:InR (pt qs) m (l1++m1) (S.bas v):=by
      rcases l1 with _ | ⟨x,r⟩
      .rw [R] at X;cases X;show .inl rfl
      .rw [R] at X;cases X;show .inr ⟨_,by simp,.inl rfl⟩
     have de:InR (pt qs) m (l1++m1) (S.bas w):=by
      rcases m1 with _ | ⟨x,r⟩
      .rw [M] at C;cases C;show .inl rfl
      .rw [M] at C;cases C;show .inr ⟨_,by simp,.inl rfl⟩
     show q1 H9 _ (ar++bf) ?_ (bm.trans cs) hI ((hM.inn v dd).trans (hM.inn w de).symm) ⟨fun u z e=>?_,fun u e=>by rw[hM.par];show e,hM.old⟩ ⟨l,l',rv,b,hl,s,hv,(I.alt v rv hv).nd,hw,(I.alt w b hw).nd,by rw[ae,af,xn,xn,aa],.inr ⟨Z,l1,m,l2,m1,S1,S2,p++A,R,am,ad,M,cd,R1,R2,fun u=>?_,rfl,by rw[aw,ax,yu]⟩⟩
     .rw [<- Yl];show h9.drop (l:=a.ex) fun c hc=>by simp[Fo.add,hc]
     .by_cases G:InR (pt qs) m (l1++m1) (S.bas u)
      .rw [hM.inn u G,hM.inn z (by rw[<- e];show G)]
      .rw [hM.out u G,hM.out z (by rw[<- e];show G),e]
     .rw [yC,ay,az];constructor
      .rintro (⟨c,hc,z⟩ | ⟨c,hc,z⟩)
       .show⟨c,yU _ hc,z⟩
       .show⟨c,yT _ hc,z⟩
      .rintro ⟨c,hc,z⟩;rcases yC.mp hc with y | y
       .show .inl ⟨c,y,z⟩
       .show .inr ⟨c,y,z⟩
  .rw [yl aa];show zZ ?_;apply .inl (h2.obj.rd T 2 rfl ?_);apply h2.rowAt hv fun tv cz=>?_;apply qhk ?_;apply .inl (h2.obj.rd T 2 rfl ?_);apply h2.rowAt hw fun tw da=>?_;apply⟨1,rfl,?_⟩;show⟨_,rfl,rfl,tw,_,rfl,.of da,fun c1 ag=>?_⟩;have O:=qG au (o:=.lst (b.map V.str).reverse) ag;have cr:=qG (Sr H2) (o:=.lst (b.map V.str).reverse) ag;have ah:upd H2 c1 (.lst (b.map V.str).reverse) c1=some (.lst (b.reverse.map V.str)):=by rw[qb,List.map_reverse]
   generalize upd H2 c1 (.lst (b.map V.str).reverse)=H3 at O cr ah;show qfo (cr _ _ cz) ah (by rw[ya,ya,YG];lk) fun c2 al=>?_;have n2:=(h.same O).newA al;have t2:=qG O (o:=.lst (rv.map V.str++b.reverse.map V.str)) al;have ai:upd H3 c2 (.lst (rv.map V.str++b.reverse.map V.str)) c2=some (.lst ((rv++b.reverse).map V.str)):=by rw[qb,yu]
   generalize upd H3 c2 (.lst (rv.map V.str++b.reverse.map V.str))=H4 at t2 ai;obtain⟨W,k2⟩:=(h.same t2).setL (v:=.ref c2) (t2 _ _ ao) (fun e=>by cases e);apply .inl ⟨a.x,cc 9,dx,fs,rfl,t2 _ _ ao,T.fcl,T.fa _ (by room),W,?_⟩;have ds:c2≠a.x:=fun z=>n2 (Fo.sub _ (by rw[z];simp[Fo.six]));show q2 _ c2 _ k2 ((Bx.of t2).upd (by simp[Fo.six])) (by rw[qf ds];show ai) n2 (I.aug g.gr hv hw hl s (by rw[ae,af];simpa using aa) ch) (by rw[yt,YG];lk) ⟨l,l',rv,b,hl,s,by rw[ae,af,xn,xn];show fun z=>aa (ym z),hv,hw,rfl⟩
theorem Ku:FnScope ["self","place","other","partner"] ["self","place"] (qh jg):=fS
noncomputable def FS.setPar(S:FS)(u p:Str):FS:=⟨S.rows,fun s=>if s=u then some p else S.par s,S.bas⟩
noncomputable def nbL(ss:LS)(ns:LN)(v:Str):LS:=inB ss 0 (ns.getD (ss.idxOf v) 0)
inductive LaR(qs:LP)(ss:LS)(v:Str):LS->FS->FS->LS->Option (LS)->Prop
 | nil {S:FS}:LaR qs ss v [] S S [] none
 | bt {S S1 S2:FS} {u:Str} {l m1 m2:LS} {o:Option (LS)}:S.rows u≠none->BtR qs ss S v u S1 m1->LaR qs ss v l S1 S2 m2 o->LaR qs ss v (u::l) S S2 (m1++m2) o
 | row {S:FS} {u:Str} {l r:LS}:S.rows u≠none->BtL qs S v u r->LaR qs ss v (u::l) S S [] (some r)
 | old {S S1:FS} {u:Str} {l m:LS} {o:Option (LS)}:S.rows u=none->S.par u≠none->LaR qs ss v l S S1 m o->LaR qs ss v (u::l) S S1 m o
 | new {S S1:FS} {u y:Str} {l m rv:LS} {o:Option (LS)}:S.rows u=none->S.par u=none->pt qs u=some y->S.rows v=some rv->LaR qs ss v l ((S.setPar u v).setRow y (rv++[u,y])) S1 m o->LaR qs ss v (u::l) S S1 ([y]++m) o
theorem LaR.det{m a:LS}{o:Option (LS)}(h:LaR qs ss v l S S1 m o):LaR qs ss v l S S2 a o'->S1=S2/\m=a/\o=o':=by
 induction h generalizing S2 a o' with
 | nil=>intro g;cases g;show⟨rfl,rfl,rfl⟩
 | bt h1 h2 _ ih =>
  intro g
  cases g with
  | bt g1 g2 g3 =>
   obtain⟨rfl,rfl⟩:=h2.det g2;obtain⟨rfl,rfl,rfl⟩:=ih g3;show⟨rfl,rfl,rfl⟩
  | row g1 g2=>show(g2.not h2).elim
  | old g1 _ _=>show absurd g1 h1
  | new g1 _ _ _ _=>show absurd g1 h1
 | row h1 h2 =>
  intro g
  cases g with
  | bt g1 g2 g3=>show(h2.not g2).elim
  | row g1 g2=>rw[h2.det g2];show⟨rfl,rfl,rfl⟩
  | old g1 _ _=>show absurd g1 h1
  | new g1 _ _ _ _=>show absurd g1 h1
 | old h1 h2 _ ih =>
  intro g
  cases g with
  | bt g1 g2 g3=>show absurd h1 g1
  | row g1 g2=>show absurd h1 g1
  | old _ _ g3=>show ih g3
  | new _ g2 _ _ _=>show absurd g2 h2
 | new h1 h2 h3 h4 _ ih =>
  intro g
  cases g with
  | bt g1 g2 g3=>show absurd h1 g1
  | row g1 g2=>show absurd h1 g1
  | old _ g2 _=>show absurd h2 g2
  | new _ _ g3 g4 g5 =>
   rw[h3] at g3;cases g3;rw[h4] at g4;cases g4;obtain⟨rfl,rfl,rfl⟩:=ih g5;show⟨rfl,rfl,rfl⟩
theorem drop_at(h:l[i]?=some u):l.drop i=u::l.drop (i+1):=by
 obtain⟨a,e⟩:=yc.mp h;rw[List.drop_eq_getElem_cons a,e]
inductive spLa(cc:Nat->Addr)(cw:Addr)(vs:List V)(H:Hp)(Q:VK)(E:XK):Prop|mk (H0:Hp) (a:Fo) (ss:LS) (ns:LN) (qs:LP) (S:FS) (dn wt:LS) (v:Str) (A:Str->Str->Prop) (_:vs=[.ref a.x,.str v]) (_:FoA (cc 9) cw H0 H a ss ns qs S ss (dn++[v]) wt .non) (_:Wb A ss qs) (_:(∀ s∈ss,zR s=true)) (_:(∀(j:Nat) z u,ss[j]?=some z->(u∈inB ss 0 (ns.getD j 0)↔A z u))) (_:(∀ z∈ss,pt qs z=none->S.rows z≠none)) (_:FI A (pt qs) S) (_:CI A S (fun u=>u∈dn)) (_:(∀(H':Hp) (S':FS) (more:LS),FoA (cc 9) cw H0 H' a ss ns qs S' ss (dn++[v]) (wt++more) .non->Bx a.six H H'->FI A (pt qs) S'->CI A S' (fun u=>u∈dn++[v])->Mono S S'->LaR qs ss v (nbL ss ns v) S S' more none->Q .non H')) (_:∀(H':Hp) (S':FS) (more:LS) (t:Addr) (r:LS),FoA (cc 9) cw H0 H' a ss ns qs S' ss (dn++[v]) (wt++more) (.ref t)->Bx a.six H H'->H' t=some (.lst (r.map V.str))->t∉a.all->Aug A (pt qs) r->r.length<=28->LaR qs ss v (nbL ss ns v) S S' more (some r)->Q .non H')
theorem CI.on(h:CI A S Pd)(m:Mono S S'):CI A S' Pd:=h.mono m.ba m.pa fun u a=>by
 cases e:S.rows u with
 | none=>show absurd e a
 | some r=>rw[m.ro u r e];show fun z=>by cases z
theorem FoA.setP{a:Fo}{bs:LS}{d:List (Key×V)}{p:Str}(h:FoA (cc 9) cw H0 H a ss ns qs S bs dn wt lo)(C:H a.da=some (.dK d))(g:u∈ss)(f:S.par u=none):FoA (cc 9) cw H0 (upd H a.da (.dK (zI d (Sum.inr u) (.str p)))) a ss ns qs (S.setPar u p) bs dn wt lo/\d.length<=ss.length:=by
 obtain⟨E,P,R,T⟩:=h.row;obtain⟨k',r,M,N⟩:=h.par;obtain⟨k,t,v,w⟩:=h.bas;obtain⟨xs,A,B⟩:=h.rng;rw[C] at r;cases r;obtain⟨⟨U,J,W,X,Y⟩,⟨K,Z,n8,n9⟩,⟨i,j,l⟩,⟨F,G⟩,I⟩:=(by simpa [Fo.six] using h.sep:(¬a.x=a.dr/\¬a.x=a.da/\¬a.x=a.ds/\¬a.x=a.dg/\¬a.x=a.dw)/\(¬a.dr=a.da/\¬a.dr=a.ds/\¬a.dr=a.dg/\¬a.dr=a.dw)/\(¬a.da=a.ds/\¬a.da=a.dg/\¬a.da=a.dw)/\(¬a.ds=a.dg/\¬a.ds=a.dw)/\¬a.dg=a.dw);have n:Bx a.six H (upd H a.da (.dK (zI d (Sum.inr u) (.str p)))):=(Bx.of (Sr H)).upd (by simp[Fo.six]);obtain⟨O,L,q,m⟩:=M;show⟨⟨qaE h.sm (h.fr _ (by simp[Fo.six])),h.web,h.prt,h.fr,h.nd,fun c hc=>⟨(h.exf c hc).1,(h.exf c hc).2.1,(h.exf c hc).2.2.elim fun o e=>⟨o,n _ _ (h.exf c hc).2.1 e⟩⟩,h.obj.eq (qf J),⟨E,by rw[qf K];show P,R,fun y=>(T y).mono n Fo.sub⟩,⟨_,qb,⟨O++[u],by have:=jB d (Sum.inr u:Key) (.str p);rw[yt];show _<=_+1;lk,Yk.mpr ⟨q,XH _ _,fun x b y D e=>(m u (by rw[<- yH.mp D,<- e];show b)).2 f⟩,fun x b=>?_⟩,fun s=>?_⟩,⟨k,by rw[qf (Yo i)];show t,v,w⟩,⟨xs,by rw[qf (Yo j)];show A,B⟩,by rw[qf (Yo l)];show h.wai,h.evn,h.evi,h.evs⟩,yi L (zG q fun x b=>(m x b).1)⟩
 .show x∈ss/\(if x=u then some p else S.par x)≠none;by_cases e:x=u
  .rw [yG e,e];show⟨g,fun z=>by cases z⟩
  .rw [yA e];show m x ((yC.mp b).resolve_right fun z=>e (yH.mp z))
 .rw [qaQ,N];show _=(if s=u then some p else S.par s).map V.str;by_cases e:s=u
  .subst e;rw[yG rfl,yG rfl];rfl
  .rw [yA (fun x=>e (xk x)),yA e]
theorem ok_la(F:Fun K "look_around" "Forest.look_around" jg f fd)(T:Txt K mg cc cw)(KA:MethOk P w K mg base CX0 6 cw "beside" ["self","place"] (spBs cw))(KY:MethOk P w K mg base CX0 3 (cc 9) "bring_together" ["self","one","other"] (spBt cc cw))(Kt:MethOk P w K mg base CX0 1 (cc 9) "reach" ["self","place","row"] (spRe cc cw)):FnOk P w K mg base CX0 7 f fd ["self","place"] (spLa cc cw):=by
 show F.ok Ku fun _ _ _ s H vs Q E hr h=>?_
 .obtain⟨H0,a,ss,ns,qs,S,dn,wt,v,B,rfl,h,d,bh,aw,bc,I,hC,q1,q2⟩:=h;have X:=jV hr;show⟨_,(qe (jj yY rfl (qS (K:=K) rfl (qF KA (hmR hr) (qC (K:=K) rfl (pv 0) rfl) (qa (pv 1) qd))) (qo (i:=2) Ku.nd rfl (yJ rfl))
 (qc (qP (qj (zQ (K:=K) rfl X) (pv 2) (qC (K:=K) rfl (pv 0) rfl) (by with_unfolding_all rfl)) (qe (qN (qF KY (hmR hr) (pv 0) (qa (pv 1) (qa (pv 2) qd))))) (qe (qP (qj (j9 (K:=K) rfl X) (pv 2) (qC (K:=K) rfl (pv 0) rfl) (by with_unfolding_all rfl)) (qc (qk (i:=3) Ku.nd rfl (yJ rfl) (qu (qv (K:=K) rfl X) (qC (K:=K) rfl (pv 0) rfl) (pv 2) (fun _ _=>rfl)))
 (qc (jC (pv 1) (jN (qC (K:=K) rfl (pv 0) rfl) (pv 2) (jP X)))
 (qe (qN (qF Kt (hmR hr) (pv 0) (qa (pv 3) (qa (qw (j8 (K:=K) rfl) (qu (qv (K:=K) rfl X) (qC (K:=K) rfl (pv 0) rfl) (pv 1) (fun _ _=>rfl)) (qW (qa (pv 2) (qa (pv 3) qd)))) qd))))))) qy)))
 (qe (qP (qj qdd (qC (K:=K) rfl (pv 0) rfl) qaF (qA _)) (qe ps_retN) qy))))),?_⟩
  have an:v∈ss:=h.evs v (by simp)
  obtain⟨rv,bb⟩:∃ r,S.rows v=some r:=by
   cases e:S.rows v with
   | none=>show absurd e ((h.evi v).mp (by simp))
   | some r=>show⟨r,rfl⟩
  obtain⟨j,hj⟩:=yf an;have ag:=h.web.same h.sm;obtain⟨wx,dd,ol,nn,hb,_⟩:=id ag;apply .inl (h.obj.rd T 0 rfl ?_);show⟨a.b,wx,_,rfl,hb,j0 (by room),?_⟩;apply⟨a.b,ss,ns,v,j,rfl,ag,hj,fun H1 s1 bl ah=>?_⟩;have m:=fun u=>aw j v u hj;have R:(inB ss 0 (ns.getD j 0)).length<=14:=yi (qbc _ _ _) d.few;unfold nbL at q1 q2;rw[qa2 d.nd hj] at q1 q2;generalize inB ss 0 (ns.getD j 0)=bes at m R q1 q2 ⊢;have bf:=(h.same s1).new ah;have s2:=qG s1 (o:=.lst (bes.map V.str)) ah;have eb:upd H1 bl (.lst (bes.map V.str)) bl=some (.lst (bes.map V.str)):=qb;generalize upd H1 bl (.lst (bes.map V.str))=H2 at s2 eb;have h2:=h.same s2;show .inl ⟨⟨_,.of eb⟩,jc (xs:=bes.map V.str) (fun i σ J=>∃(S':FS) (c:LS) (y2 y3:Option V),σ=[some (.ref a.x),some (.str v),y2,y3]/\FoA (cc 9) cw H0 J a ss ns qs S' ss (dn++[v]) (wt++c) .non/\Bx a.six H2 J/\FI B (pt qs) S'/\Mono S S'/\(∀ Sf mf o,LaR qs ss v (bes.drop i) S' Sf mf o->LaR qs ss v bes S Sf (c++mf) o)/\∀ u∈bes.take i,S'.bas u=S'.bas v\/(S'.par u≠none/\u∉dn++[v])) ⟨S,[],_,_,rfl,by rw[Yh];show h2,fun _ _ _ e=>e,I,Mono.refl S,(fun _ _ _ z=>z),(fun u X=>by simp at X)⟩ (fun i σ J _ hp=>?_) (fun i y σ J hy hp=>?_) fun σ J hp=>?_⟩
  .obtain⟨S',c,y2,y3,rfl,_,C,_⟩:=hp;show .of (C _ _ bf eb)
  .obtain⟨S',c,y2,y3,rfl,l,C,G,D,O,N⟩:=hp;rw[yd] at hy;obtain⟨u,Y,rfl⟩:=yn.mp hy;have Z:B v u:=(m u).mp (ye Y);have al:u∈ss:=d.inn _ _ (d.gr.as Z);have g:=D.ro v rv bb;have U:bes.take (i+1)=bes.take i++[u]:=by rw[yM,Y];rfl
   rw[drop_at Y] at O;obtain⟨kr,r1,r2,r3⟩:=l.row;have A:=r3 u;apply .inl (l.obj.rd T 2 rfl ?_);show .inr (.inl ⟨a.dr,_,rfl,DGet.k (k:=Sum.inr u) r1,?_⟩)
   cases n:S'.rows u with
   | some ru =>
    rw[n] at A;obtain⟨tu,k1,k2,_⟩:=A;rw[k1];show⟨_,rfl,zZ ?_⟩;ext;obtain⟨dx,fs,aa,_,_,_,ac⟩:=id l.obj;show⟨a.x,dx,fs,rfl,aa,ac _ (by room),?_⟩;apply⟨H0,a,ss,ns,qs,S',dn++[v],wt++c,v,u,rv,ru,B,rfl,l,d,G,g,n,Z,fun H5 S5 be h5 L I5 av m5 M=>?_,fun H5 t5 r5 h5 L e5 n5 ar ay M=>?_⟩
    .ext;show .inl (h5.obj.rd T 7 rfl ?_);apply⟨rfl,_,rfl,qL (fun h=>by simp at h) fun _=>?_⟩;show⟨S5,c++be,_,_,rfl,by rw[<- Yl wt];show h5,C.trans L,I5,D.trans m5,(fun Sf mf o z=>by rw[Yl];show O _ _ _ (.bt (by rw[n];show fun z=>by cases z) M z)),fun z hz=>?_⟩;rw[U] at hz;rcases yC.mp hz with hz | hz
     .show(N z hz).imp (m5.ba z v) fun y=>⟨m5.pa z y.1,y.2⟩
     .rw [yH.mp hz];show .inl av.symm
    .ext;show .inl (h5.obj.rd T 7 rfl ?_);apply⟨rfl,_,rfl,zZ ?_⟩;show q2 H5 S' c t5 r5 h5 (((Bx.of s2).trans C).trans L) e5 n5 ar ay (by have:=O _ _ _ (.row (by rw[n];show fun z=>by cases z) M);rwa[Yh] at this)
   | none =>
    rw[n] at A;have aj:jR kr (.inr u:Key)=none:=A;rw[aj];have ak:u∉dn++[v]:=fun z=>(l.evi u).mp (yU _ z) n;show⟨_,rfl,qL (fun h=>by cases h) fun _=>?_⟩;obtain⟨ka,p1,p2,p3⟩:=l.par;apply .inl (l.obj.rd T 3 rfl ?_);show .inr (.inl ⟨a.da,_,rfl,DGet.k (k:=Sum.inr u) p1,?_⟩);rw[p3]
    cases ep:S'.par u with
    | some z =>
     show⟨_,rfl,qL (fun h=>by cases h) fun _=>?_⟩;apply .inl (l.obj.rd T 7 rfl ?_);apply⟨rfl,_,rfl,qL (fun h=>by simp at h) fun _=>?_⟩;show⟨S',c,_,_,rfl,l,C,G,D,(fun Sf mf o z=>O _ _ _ (.old n (by rw[ep];show fun z=>by cases z) z)),fun z hz=>?_⟩;rw[U] at hz;rcases yC.mp hz with hz | hz
     .show N z hz
     .rw [yH.mp hz];show .inr ⟨by rw[ep];show(fun y=>by cases y),ak⟩
    | none =>
     show⟨_,rfl,zZ ?_⟩
     obtain⟨y,q⟩:∃ y,pt qs u=some y:=by
      cases e:pt qs u with
      | some y=>show⟨y,rfl⟩
      | none =>
       exfalso;have k:=bc u al e
       cases e2:S.rows u with
       | none=>show k e2
       | some r=>rw[D.ro u r e2] at n;cases n
     have bd:y∈ss:=d.inn _ _ (d.gr.as (d.gr.fa q));have ao:=G.fresh d.gr n ep q;have az:=l.sm _ _ h.prt;obtain⟨h3,bg⟩:=l.setP (p:=v) p1 al ep;have bj:=d.few;apply .inl (l.obj.rd T 1 rfl ?_);apply qeR az (by rw[jH,q];rfl) ?_;apply .inl (l.obj.rd T 3 rfl ?_);apply .inr ⟨a.da,_,rfl,DPut.k (k:=Sum.inr u) p1 (by rw[YF];lk),?_⟩;have ad:Bx a.six H2 (upd J a.da (.dK (zI ka (Sum.inr u) (.str v)))):=C.upd (by simp[Fo.six]);generalize upd J a.da (.dK (zI ka (Sum.inr u) (.str v)))=J3 at h3 ad;ext;obtain⟨dx,fs,aa,_,_,_,ac⟩:=id h3.obj;show⟨a.x,dx,fs,rfl,aa,ac _ (by room),?_⟩;apply .inl (h3.obj.rd T 2 rfl ?_);apply h3.rowAt (S:=S'.setPar u v) g fun tv aq=>?_;apply⟨by show 2<=sizeLine;decide,fun c1 ax=>?_⟩;have t1:=qG (Sr J3) (o:=.lst [.str u,.str y]) ax;have ae:upd J3 c1 (.lst [.str u,.str y]) c1=some (.lst [.str u,.str y]):=qb;generalize upd J3 c1 (.lst [.str u,.str y])=J4 at t1 ae;have bi:=((G.alt v rv g).inn d an).1;show qfo (t1 _ _ aq) ae (by rw[ya];show _+2<=_;lk) fun c2 ai=>?_;have n2:=(h3.same t1).newA ai;have t2:=qG t1 (o:=.lst (rv.map V.str++[.str u,.str y])) ai;have af:upd J4 c2 (.lst (rv.map V.str++[.str u,.str y])) c2=some (.lst ((rv++[u,y]).map V.str)):=by rw[qb,yu];rfl
     generalize upd J4 c2 (.lst (rv.map V.str++[.str u,.str y]))=J5 at t2 af;apply⟨H0,a,ss,ns,qs,S'.setPar u v,ss,dn++[v],wt++c,.non,y,c2,rv++[u,y],rfl,h3.same t2,d.few,af,n2,bd,ao,fun H6 h6 ap _=>?_⟩;have W:Gw S' ((S'.setPar u v).setRow y (rv++[u,y])) v u y rv:=⟨yG rfl,fun s hs=>yA hs,yG rfl,fun s hs=>yA hs,rfl⟩;have I6:=G.grow d.gr g Z n ep q W
     have m6:Mono S' ((S'.setPar u v).setRow y (rv++[u,y])):=⟨fun _ _ e=>e,fun z hz=>by
      show(if z=u then some v else S'.par z)≠none;split
      .show fun x=>by cases x
      .show hz,fun z r e=>by rw[W.ro z (fun x=>by rw[x,ao] at e;cases e)];show e⟩
     apply .inl (h6.obj.rd T 7 rfl ?_);apply⟨rfl,_,rfl,qL (fun h=>by simp at h) fun _=>?_⟩;show⟨_,c++[y],_,_,rfl,by rw[<- Yl wt];show h6,(ad.trans (Bx.of t2)).trans ap,I6,D.trans m6,(fun Sf mf o z=>by rw[Yl];show O _ _ _ (.new n ep q g z)),fun z hz=>?_⟩;rw[U] at hz;rcases yC.mp hz with hz | hz
     .show(N z hz).imp (m6.ba z v) fun y=>⟨m6.pa z y.1,y.2⟩
     .rw [yH.mp hz];show .inr ⟨by rw[W.pu];show(fun x=>by cases x),ak⟩
  .obtain⟨S',c,y2,y3,rfl,l,C,G,D,O,N⟩:=hp;rw[ya,yS] at N;show q1 J S' c l ((Bx.of s2).trans C) G ?_ D (by have:=O _ _ _ (by rw[ya,List.drop_length];show .nil);rwa[Yh] at this);have au:=hC.on D;show⟨fun z u hz t=>?_,fun z hz=>?_⟩
   .rcases yC.mp hz with hz1 | hz1
    .by_cases am:u=v
     .rw [am] at t ⊢;rcases N z ((m z).mpr (d.gr.as t)) with y | y
      .show .inl y.symm
      .show absurd (yU _ hz1) y.2
     .rcases au.cl z u hz1 t with y | ⟨y1,y2⟩
      .show .inl y
      .show .inr ⟨y1,fun x=>(yC.mp x).elim y2 fun x=>am (yH.mp x)⟩
    .rw [yH.mp hz1] at t ⊢;show N u ((m u).mpr t)
   .show(l.evi z).mp (yU _ hz)
theorem K3:FnScope ["self","place"] ["self"] (qh zd):=fS
noncomputable def S0:FS:=⟨fun _=>none,fun _=>none,fun s=>s⟩
noncomputable def SI(qs:LP)(l:LS):FS:=⟨fun s=>if s∈l/\pt qs s=none then some [s] else none,fun _=>none,fun s=>s⟩
inductive GwR(qs:LP)(ss:LS)(ns:LN):FS->LS->FS->Option (LS)->Prop
 | nil {S:FS}:GwR qs ss ns S [] S none
 | row {S S1:FS} {v:Str} {wt m r:LS}:LaR qs ss v (nbL ss ns v) S S1 m (some r)->GwR qs ss ns S (v::wt) S1 (some r)
 | on {S S1 S2:FS} {v:Str} {wt m:LS} {o:Option (LS)}:LaR qs ss v (nbL ss ns v) S S1 m none->GwR qs ss ns S1 (wt++m) S2 o->GwR qs ss ns S (v::wt) S2 o
theorem GwR.det{o:Option (LS)}(h:GwR qs ss ns S wt S1 o):GwR qs ss ns S wt S2 o'->S1=S2/\o=o':=by
 induction h generalizing S2 o' with
 | nil=>intro g;cases g;show⟨rfl,rfl⟩
 | row h =>
  intro g
  cases g with
  | row g =>
   obtain⟨a,_,c⟩:=h.det g;show⟨a,c⟩
  | on g _=>cases (h.det g).2.2
 | on h _ ih =>
  intro g
  cases g with
  | row g=>cases (h.det g).2.2
  | on g k =>
   obtain⟨a,b,_⟩:=h.det g;subst a;subst b;show ih k
def LoV(H:Hp)(lo:V)(o:Option (LS)):Prop:=(lo=.non/\o=none)\/∃ t r,lo=.ref t/\H t=some (.lst (r.map V.str))/\o=some r
noncomputable def sgL(qs:LP)(l:LS):LS:=l.filter fun s=>(pt qs s).isNone
structure FoD(cf cw:Addr)(H0 H:Hp)(a:Fo)(ss:LS)(ns:LN)(qs:LP)(S:FS)(dn wt:LS)(lo:V)(A:Str->Str->Prop):Prop where
 fo:FoA cf cw H0 H a ss ns qs S ss dn wt lo
 en:(lo=.non/\wt=[]/\FI A (pt qs) S/\CI A S (fun u=>u∈dn)/\∀ z∈ss,pt qs z=none->S.rows z≠none)\/∃ t r,lo=.ref t/\H t=some (.lst (r.map V.str))/\t∉a.all/\Aug A (pt qs) r/\r.length<=28
 gw:∃ o,GwR qs ss ns (SI qs ss) (sgL qs ss) S o/\LoV H lo o
theorem SI_nil(qs:LP):SI qs []=S0:=by unfold SI S0;simp
theorem SI_on(h:pt qs z=none):SI qs (l++[z])=(SI qs l).setRow z [z]:=by
 unfold SI FS.setRow
 congr 1
 funext s;dsimp only;by_cases e:s=z
 .subst e;rw[yG ⟨by simp,h⟩,yG rfl]
 .rw [yA e];have:s∈l++[z]↔s∈l:=by simp[e]
  simp only[this]
theorem SI_off(h:pt qs z≠none):SI qs (l++[z])=SI qs l:=by
 unfold SI
 congr 1
 funext s;by_cases e:s=z
 .subst e;rw[yA (fun k=>h k.2),yA (fun k=>h k.2)]
 .have:s∈l++[z]↔s∈l:=by simp[e]
  simp only[this]
inductive spGw(cc:Nat->Addr)(cw:Addr)(vs:List V)(H:Hp)(Q:VK)(E:XK):Prop|mk (H0:Hp) (a:Fo) (ss:LS) (ns:LN) (qs:LP) (A:Str->Str->Prop) (_:vs=[.ref a.x]) (_:FoA (cc 9) cw H0 H a ss ns qs S0 [] [] [] .non) (_:Wb A ss qs) (_:(∀ s∈ss,zR s=true)) (_:(∀(j:Nat) z u,ss[j]?=some z->(u∈inB ss 0 (ns.getD j 0)↔A z u))) (_:∀(H':Hp) (S:FS) (dn wt:LS) (lo:V),FoD (cc 9) cw H0 H' a ss ns qs S dn wt lo A->Bx a.six H H'->Q .non H')
theorem ix_natF{k:Nat}(h:k<n):seqIndex? (k:Int) n=some k:=by
 unfold seqIndex?;simp;lk
theorem nin_prF{d:Addr}{Q:VK}(a:H d=some (.dK (prK qs)))(q:Q (.bl (!(pt qs s).isSome)) H):qem K true (.str s) (.ref d) H Q:=by
 show .inr (.inl ⟨d,_,rfl,DGet.k (k:=Sum.inr s) a,?_⟩);rw[jH,yG rfl,xM];show q
theorem FoA.ne{a:Fo}{bs:LS}(h:FoA (cc 9) cw H0 H a ss ns qs S bs dn wt lo):(¬a.x=a.dr/\¬a.x=a.da/\¬a.x=a.ds/\¬a.x=a.dg/\¬a.x=a.dw)/\(¬a.dr=a.da/\¬a.dr=a.ds/\¬a.dr=a.dg/\¬a.dr=a.dw)/\(¬a.da=a.ds/\¬a.da=a.dg/\¬a.da=a.dw)/\(¬a.ds=a.dg/\¬a.ds=a.dw)/\¬a.dg=a.dw:=by simpa [Fo.six] using h.sep
theorem FoA.setN{a:Fo}{bs:LS}{ks:List (Key×V)}(h:FoA (cc 9) cw H0 H a ss ns qs S bs dn wt lo)(p:H a.ds=some (.dK ks))(hz:S.bas z=z):FoA (cc 9) cw H0 (upd H a.ds (.dK (zI ks (Sum.inr z) (.str z)))) a ss ns qs S (bs++[z]) dn wt lo/\ks.length<=bs.length:=by
 obtain⟨s,F,G,I⟩:=h.row;obtain⟨r,C,D,E⟩:=h.par;obtain⟨k,g,j,l⟩:=h.bas;obtain⟨xs,m,n⟩:=h.rng;rw[p] at g;cases g;obtain⟨⟨J,K,A,L,M⟩,⟨N,B,O,P⟩,⟨b,t,v⟩,⟨d,f⟩,w⟩:=h.ne;have i:Bx a.six H (upd H a.ds (.dK (zI ks (Sum.inr z) (.str z)))):=(Bx.of (Sr H)).upd (by simp[Fo.six]);show⟨⟨qaE h.sm (h.fr _ (by simp[Fo.six])),h.web,h.prt,h.fr,h.nd,fun c hc=>⟨(h.exf c hc).1,(h.exf c hc).2.1,(h.exf c hc).2.2.elim fun o e=>⟨o,i _ _ (h.exf c hc).2.1 e⟩⟩,h.obj.eq (qf A),⟨s,by rw[qf B];show F,G,fun y=>(I y).mono i Fo.sub⟩,⟨r,by rw[qf b];show C,D,E⟩,⟨_,qb,by have:=jB ks (Sum.inr z:Key) (.str z);rw[yt];show _<=_+1;lk,fun u q=>?_⟩,⟨xs,by rw[qf (Yo d)];show m,n⟩,by rw[qf (Yo f)];show h.wai,h.evn,h.evi,h.evs⟩,j⟩;rw[qaQ];by_cases e:u=z
 .subst e;rw[yG rfl,hz]
 .rw [yA (fun x=>e (xk x))];show l u ((yC.mp q).resolve_right fun y=>e (yH.mp y))
theorem FoA.pop{a:Fo}{bs:LS}(h:FoA (cc 9) cw H0 H a ss ns qs S bs dn (v::wt) lo):FoA (cc 9) cw H0 (upd H a.dw (.lst (wt.map V.str))) a ss ns qs S bs (dn++[v]) wt lo:=by
 obtain⟨r,C,D,E⟩:=h.row;obtain⟨q,z,A,B⟩:=h.par;obtain⟨k,j,l,m⟩:=h.bas;obtain⟨xs,n,p⟩:=h.rng;obtain⟨⟨F,G,I,J,w⟩,⟨K,L,M,x⟩,⟨s,t,d⟩,⟨u,f⟩,g⟩:=h.ne;have b:dn++[v]++wt=dn++v::wt:=by simp
 have i:Bx a.six H (upd H a.dw (.lst (wt.map V.str))):=(Bx.of (Sr H)).upd (by simp[Fo.six]);show⟨qaE h.sm (h.fr _ (by simp[Fo.six])),h.web,h.prt,h.fr,h.nd,fun c hc=>⟨(h.exf c hc).1,(h.exf c hc).2.1,(h.exf c hc).2.2.elim fun o e=>⟨o,i _ _ (h.exf c hc).2.1 e⟩⟩,h.obj.eq (qf w),⟨r,by rw[qf x];show C,by rw[b];show D,fun y=>(E y).mono i Fo.sub⟩,⟨q,by rw[qf d];show z,A,B⟩,⟨k,by rw[qf f];show j,l,m⟩,⟨xs,by rw[qf g];show n,by rw[b];show p⟩,qb,by rw[b];show h.evn,by rw[b];show h.evi,by rw[b];show h.evs⟩
theorem ok_gw(F:Fun K "grow" "Forest.grow" zd f fd)(T:Txt K mg cc cw)(Ke:MethOk P w K mg base CX0 1 cw "places" ["self"] (spPls cw))(Kt:MethOk P w K mg base CX0 1 (cc 9) "reach" ["self","place","row"] (spRe cc cw))(K5:MethOk P w K mg base CX0 7 (cc 9) "look_around" ["self","place"] (spLa cc cw)):FnOk P w K mg base CX0 8 f fd ["self"] (spGw cc cw):=by
 show F.ok K3 fun _ _ _ _ H vs Q E hr h=>?_
 .obtain⟨H0,a,ss,ns,qs,B,rfl,h,G,an,aj,q⟩:=h;have hu:=jV hr;have ap:=G.few;show⟨_,(qc (jj yY rfl (qS (K:=K) rfl (jd Ke (hmR hr) (qC (K:=K) rfl (pv 0) rfl))) (qo (i:=1) K3.nd rfl (yJ rfl))
 (qc (jC (pv 1) (jN (qC (K:=K) rfl (pv 0) rfl) (pv 1) (jP hu)))
 (qe (qP (qj (j9 (K:=K) rfl hu) (pv 1) (qC (K:=K) rfl (pv 0) rfl) (by with_unfolding_all rfl)) (qe (qN (qF Kt (hmR hr) (pv 0) (qa (pv 1) (qa (qW (qa (pv 1) qd)) qd))))) qy))))
 (qe (qan yY (PW.pt (qbD (qj qfh (qr (jY (K:=K) rfl) rfl T.b_len YQ (qa (qC (K:=K) rfl (pv 0) rfl) qd)) qg (qA _)) (qbC (qj qhe (qC (K:=K) rfl (pv 0) rfl) qaF (qA _)))))
 (qe (qN (qF K5 (hmR hr) (pv 0) (qa (qaW (K:=K) rfl yD PySem.F.slot_list_pop PySem.F.type_list_pop mtR_popAt (qC (K:=K) rfl (pv 0) rfl) (qa qg qd)) qd))))))),?_⟩
  have ac:=h.web.same h.sm;obtain⟨wx,dd,ol,nn,hb,_⟩:=id ac;apply .inl (h.obj.rd T 0 rfl ?_);show⟨a.b,wx,_,rfl,hb,j0 (by room),?_⟩;apply⟨a.b,ss,ns,rfl,ac,fun pl ae=>?_⟩;have as:=h.new ae;have s1:=qG (Sr H) (o:=.lst (ss.map V.str)) ae;have e1:upd H pl (.lst (ss.map V.str)) pl=some (.lst (ss.map V.str)):=qb;generalize upd H pl (.lst (ss.map V.str))=H1 at s1 e1;show .inl ⟨⟨_,.of e1⟩,jc (xs:=ss.map V.str) (fun i σ J=>∃(Y:Option V),σ=[some (.ref a.x),Y]/\FoA (cc 9) cw H0 J a ss ns qs (SI qs (ss.take i)) (ss.take i) [] (sgL qs (ss.take i)) .non/\Bx a.six H1 J) ⟨_,rfl,by rw[List.take_zero,SI_nil];show h.same s1,fun _ _ _ e=>e⟩ (fun i σ J _ n=>?_) (fun i y σ J hy n=>?_) fun σ J n=>?_⟩
  .obtain⟨Y,rfl,_,Z⟩:=n;show .of (Z _ _ as e1)
  .obtain⟨Y,rfl,X,Z⟩:=n;rw[yd] at hy;obtain⟨z,hz,rfl⟩:=yn.mp hy;have aw:=(yc.mp hz).1;have ar:=ye hz;have af:ss.take (i+1)=ss.take i++[z]:=by rw[yM,hz];rfl
   obtain⟨ks,b1,b2,b3⟩:=X.bas;rw[yR] at b2;obtain⟨C,_⟩:=X.setN (z:=z) b1 rfl;apply .inl (X.obj.rd T 4 rfl ?_);apply .inr ⟨a.ds,_,rfl,DPut.k (k:=Sum.inr z) b1 (by rw[YF];lk),?_⟩;have p:Bx a.six H1 (upd J a.ds (.dK (zI ks (Sum.inr z) (.str z)))):=Z.upd (by simp[Fo.six]);generalize upd J a.ds (.dK (zI ks (Sum.inr z) (.str z)))=J2 at C p;have ao:=C.sm _ _ h.prt;apply .inl (C.obj.rd T 1 rfl ?_);show nin_prF ao ⟨_,rfl,?_⟩
   cases ez:pt qs z with
   | some y =>
    show yq ?_;have es:sgL qs (ss.take i++[z])=sgL qs (ss.take i):=by unfold sgL;rw[yV,yK,ez];simp
    show⟨_,rfl,by rw[af,SI_off (by rw[ez];show fun k=>nomatch k),es];show C,p⟩
   | none =>
    show zZ ?_;ext;obtain⟨dx,fs,O,_,_,_,R⟩:=id C.obj;show⟨a.x,dx,fs,rfl,O,R _ (by room),?_⟩;apply⟨by show 1<=sizeLine;decide,fun c1 ad=>?_⟩;have n1:=C.newA ad;have t1:=qG (Sr J2) (o:=.lst [.str z]) ad;have aa:upd J2 c1 (.lst [.str z]) c1=some (.lst ([z].map V.str)):=qb;generalize upd J2 c1 (.lst [.str z])=J3 at t1 aa
    have aq:z∉ss.take i:=fun y=>by
     obtain⟨j,hj⟩:=yf y;have ak:=(yc.mp hj).1;rw[yR] at ak;rw[List.getElem?_take,yG (by lk)] at hj;have:=qz G.nd hj hz;lk
    apply⟨H0,a,ss,ns,qs,SI qs (ss.take i),ss.take i++[z],[],sgL qs (ss.take i),.non,z,c1,[z],rfl,C.same t1,ap,aa,n1,ar,yA (fun k=>aq k.1),fun H6 h6 ah _=>?_⟩;have es:sgL qs (ss.take i++[z])=sgL qs (ss.take i)++[z]:=by unfold sgL;rw[yV,yK,ez];simp
    show⟨_,rfl,by rw[af,SI_on ez,es];show h6,(p.trans (Bx.of t1)).trans ah⟩
  .obtain⟨Y,rfl,X,Z⟩:=n;rw[ya,yS] at X;have ag:Bx a.six H J:=(Bx.of s1).trans Z
   have IJ:FI B (pt qs) (SI qs ss):=FI.start (fun v r e=>by
    have e':(if v∈ss/\pt qs v=none then some [v] else none)=some r:=e;split at e'
    .rename_i k;show⟨k.2,(ym e').symm⟩
    .cases e') (fun _=>rfl) fun _=>rfl
   ext;obtain⟨W,g⟩:∃ W:Nat->L2.St->Hp->Prop,W=fun m σ J=>∃(S:FS) (dn wt:LS) (lo:V) (Y:Option V),σ=[some (.ref a.x),Y]/\Bx a.six H J/\((lo=.non/\m=15-dn.length/\(∀ Sf o,GwR qs ss ns S wt Sf o->GwR qs ss ns (SI qs ss) (sgL qs ss) Sf o)/\FoA (cc 9) cw H0 J a ss ns qs S ss dn wt .non/\FI B (pt qs) S/\CI B S (fun u=>u∈dn)/\∀ z∈ss,pt qs z=none->S.rows z≠none)\/(lo≠.non/\m=0/\FoD (cc 9) cw H0 J a ss ns qs S dn wt lo B)):=⟨_,rfl⟩;show⟨W,⟨15,by rw[g];show⟨SI qs ss,[],_,.non,_,rfl,ag,.inl ⟨rfl,rfl,(fun _ _ z=>z),X,IJ,⟨(fun v u k=>by cases k),(fun v k=>by cases k)⟩,fun z hz e=>by show(if _ then _ else _)≠none;rw[yG ⟨hz,e⟩];show fun k=>by cases k⟩⟩⟩,fun m σ J hW=>?_⟩;rw[g] at hW;obtain⟨S,dn,wt,lo,ax,rfl,d,L⟩:=hW;rcases L with⟨rfl,hm,M,l,I,hC,N⟩ | ⟨am,hm,U⟩
   .have c:=l.wai;apply .inl (l.obj.rd T 6 rfl ?_);apply qac c ?_;rw[ya];ext
    cases wt with
    | nil =>
     show qL (fun h=>by simp at h) fun _=>qL (fun h=>by cases h) fun _=>?_;show q J S dn [] .non ⟨l,.inl ⟨rfl,rfl,I,hC,N⟩,none,M _ _ .nil,.inl ⟨rfl,rfl⟩⟩ d
    | cons v wt =>
     show qL (fun _=>?_) fun h=>absurd (yB (by simp)) h;apply .inl (l.obj.rd T 7 rfl ?_);apply⟨_,rfl,zZ ⟨fun au H'=>∃ m',m'<m/\W m' au H',fun _ _ z=>z,?_⟩⟩;have av:dn.length+1<=14:=by have:=l.few;rw[yt,yF] at this;lk
     ext;obtain⟨dx,fs,O,_,_,_,R⟩:=id l.obj;show⟨a.x,dx,fs,rfl,O,R _ (by room),?_⟩;apply .inl (l.obj.rd T 6 rfl ?_);show⟨.inl ⟨rfl,_,.of c⟩,?_⟩;apply⟨a.dw,_,0,0,.str v,rfl,rfl,c,by decide,by decide,by rw[ya];show ix_natF (by simp),rfl,?_⟩;have n:=l.pop;have A:Bx a.six H (upd J a.dw (.lst (wt.map V.str))):=d.upd (by simp[Fo.six]);ext;show spLa cc cw _ (upd J a.dw (.lst (wt.map V.str))) _ _;generalize upd J a.dw (.lst (wt.map V.str))=J2 at n A;show⟨H0,a,ss,ns,qs,S,dn,wt,v,B,rfl,n,G,an,aj,N,I,hC,fun H5 S5 mo h5 s I5 C5 m5 D=>?_,fun H5 S5 mo t5 r5 h5 s e5 n5 ai al D=>?_⟩
     .show⟨15-(dn++[v]).length,by rw[hm,yt];show _-(_+1)<_;lk,?_⟩;rw[g]
      show⟨S5,dn++[v],wt++mo,.non,_,rfl,A.trans s,.inl ⟨rfl,rfl,(fun Sf o z=>M _ _ (.on D z)),h5,I5,C5,fun z hz e=>(by
       have k:=N z hz e
       cases e2:S.rows z with
       | none=>show absurd e2 k
       | some r=>rw[m5.ro z r e2];show fun x=>by cases x)⟩⟩
     .show⟨0,by lk,?_⟩;rw[g];show⟨S5,dn++[v],wt++mo,.ref t5,_,rfl,A.trans s,.inr ⟨(fun e=>by cases e),rfl,⟨h5,.inr ⟨t5,r5,rfl,e5,n5,ai,al⟩,some r5,M _ _ (.row D),.inr ⟨t5,r5,rfl,e5,rfl⟩⟩⟩⟩
   .have c:=U.fo.wai;rcases U.en with k | ⟨t,r,rfl,_⟩
    .show absurd k.1 am
    apply .inl (U.fo.obj.rd T 6 rfl ?_);apply qac c ?_;apply qL (fun _=>?_) (fun _=>qL (fun h=>by cases h) fun _=>q J S dn wt _ U d);apply .inl (U.fo.obj.rd T 7 rfl ?_);apply⟨_,rfl,qL (fun h=>by cases h) fun _=>?_⟩;show q J S dn wt _ U d
theorem uE:FnScope ["self","web","pairs"] ["self","web","pairs"] (qh ze):=fS
theorem uK:FnScope ["self"] ["self"] (qh zA):=fS
theorem ug:FnScope ["self"] ["self"] (qh jk):=fS
noncomputable def qfW(p:Addr)(H:Hp):Hp:=fun b=>if b=p then none else H b
theorem zV{b:Addr}(h:b≠p):qfW p H b=H b:=yA h
theorem lkn{f g:Str}{v:V}{fs:List (Str×V)}(h:f≠g)(k:fs.lookup f=none):(qI g v fs).lookup f=none:=by rw[qD,yA h];show k
inductive spFi(cc:Nat->Addr)(cw:Addr)(vs:List V)(H:Hp)(Q:VK)(E:XK):Prop|mk (x dx b r:Addr) (ss:LS) (ns:LN) (us:LX) (tps qs:LP) (A:Str->Str->Prop) (_:vs=[.ref x,.ref b,.ref r]) (_:H x=some (.ins (cc 9) dx [])) (_:WebAt cw H b ss ns) (_:Adj ss ns tps) (_:Wb A ss qs) (_:(∀ s∈ss,zR s=true)) (_:(∀(j:Nat) z u,ss[j]?=some z->(u∈inB ss 0 (ns.getD j 0)↔A z u))) (_:PL H r us qs) (_:qs.length<=30) (_:(∀ q∈qs,(q∈tps\/(q.2,q.1)∈tps)/\q.1∈ss/\q.2∈ss/\q.1≠q.2)) (_:∀(H0 H':Hp) (a:Fo) (S:FS) (dn wt:LS) (lo:V),a.x=x->a.ex=[]->FoD (cc 9) cw H0 H' a ss ns qs S dn wt lo A->L2.Same (qfW x H) H0->Q .non H')
theorem WebAt.out{b:Addr}{fs:List (Str×V)}(h:WebAt cw H b ss ns)(a:H x=some (.ins (cc 9) dx fs))(i:b≠x):WebAt cw (qfW x H) b ss ns:=by
 obtain⟨j,d,ol,n,h1,c,e,f,g⟩:=h;show⟨j,d,ol,n,(zV i).trans h1,(zV ?_).trans c,(zV ?_).trans e,(zV ?_).trans f,g⟩
 .show zJ c a (fun z=>by cases z)
 .show zJ e a (fun z=>by cases z)
 .show zJ f a (fun z=>by cases z)
theorem ok_fi(F:Fun K "__init__" "Forest.__init__" ze f fd)(T:Txt K mg cc cw)(Kd:DefOk P w K mg base CX0 9 "partners_in" ["web","pairs"] (spPn cw))(uL:MethOk P w K mg base CX0 8 (cc 9) "grow" ["self"] (spGw cc cw)):FnOk P w K mg base CX0 10 f fd ["self","web","pairs"] (spFi cc cw):=by
 show F.ok uE fun _ _ _ s H vs Q E hr h=>?_
 .obtain⟨x,dx,b,r,ss,ns,us,tps,qs,B,rfl,hx,hW,hA,bu,ch,cf,hP,ci,cj,q⟩:=h;have hu:=jV hr;show⟨_,(qc (j5 (K:=K) rfl (pv 0) (pv 1) rfl)
 (qc (j5 (K:=K) rfl (pv 0) (qp Kd (hmR hr) qB (qa (pv 1) (qa (pv 2) qd))) rfl)
 (qc (j5 (K:=K) rfl (pv 0) j7 rfl)
 (qc (j5 (K:=K) rfl (pv 0) j7 rfl)
 (qc (j5 (K:=K) rfl (pv 0) j7 rfl)
 (qc (j5 (K:=K) rfl (pv 0) (qW qd) rfl)
 (qc (j5 (K:=K) rfl (pv 0) (qW qd) rfl)
 (qc (j5 (K:=K) rfl (pv 0) qaF rfl)
 (qe (qN (jd uL (hmR hr) (pv 0)))))))))))),?_⟩
  have ca:b≠x:=fun e=>by
   obtain⟨wx,d,ol,n,hb,_⟩:=id hW;subst e;rw[hx] at hb;injection hb with hb;injection hb with _ _ hb;cases hb
  have cq:r≠x:=zJ hP.1 hx (fun z=>by cases z)
  have cr:∀ u∈us,u≠x:=fun u hu=>by
   obtain⟨q,_,eu⟩:=hP.2.mem hu;show zJ eu hx (fun z=>by cases z)
  have fa:∀ i,(h:i<8)->NoAttr K (cc 9) (fAtt.getD i ""):=fun i h=>T.fa _ (by have:i<fAtt.length:=h;rw[Yi,yb this];show Y2 this);apply .inl ⟨x,cc 9,dx,[],rfl,hx,T.fcl,fa 0 (by decide),by decide,?_⟩;have b1:=(But.refl x H).put (o:=.ins (cc 9) dx (qI "board" (.ref b) []));have bp:upd H x (.ins (cc 9) dx (qI "board" (.ref b) [])) x=some (.ins (cc 9) dx (qI "board" (.ref b) [])):=qb;generalize upd H x (.ins (cc 9) dx (qI "board" (.ref b) []))=H1 at b1 bp ⊢
  have keepW:∀{J:Hp},But x H J->WebAt cw J b ss ns:=fun k=>by
   obtain⟨wx,d,ol,n,h1,h2,h3,h4,h5⟩:=hW;show⟨wx,d,ol,n,k _ _ ca h1,k _ _ (zJ h2 hx (fun z=>by cases z)) h2,k _ _ (zJ h3 hx (fun z=>by cases z)) h3,k _ _ (zJ h4 hx (fun z=>by cases z)) h4,h5⟩
  have cd:PL H1 r us qs:=⟨b1 _ _ cq hP.1,hP.2.len,fun k t ab ht ce=>b1 _ _ (cr t (ye ht)) (hP.2.at_ k t ab ht ce)⟩;apply⟨b,r,ss,ns,us,tps,qs,rfl,keepW b1,hA,cd,⟨cj,bu.qn,ci⟩,fun dp H2 s2 bg cg=>?_⟩;have bw:=s2 _ _ bp;have b2:=b1.same s2;have cp:dp≠x:=fun e=>by rw[e,bp] at bg;cases bg
  have hl:∀{f:Str} {v:V} {fs:List (Str×V)} {n:Nat},fs.length<=n->(qI f v fs).length<=n+1:=fun h=>yi (jA _ _ _) (by lk);apply .inl ⟨x,cc 9,dx,_,rfl,bw,T.fcl,fa 1 (by decide),Yp (hl (n:=0) (yh _)) (by decide),?_⟩
  have c3:L2.Same (qfW x H2) (upd H2 x (.ins (cc 9) dx (qI "partners" (.ref dp) (qI "board" (.ref b) [])))):=fun c o e=>by
   have hc:c≠x:=fun z=>by rw[z] at e;unfold qfW at e;rw[yG rfl] at e;cases e
   rw[zV hc] at e;rw[qf hc];show e
  have ap:upd H2 x (.ins (cc 9) dx (qI "partners" (.ref dp) (qI "board" (.ref b) []))) x=some (.ins (cc 9) dx (qI "partners" (.ref dp) (qI "board" (.ref b) []))):=qb;obtain⟨H0,ac⟩:∃ H0,H0=qfW x H2:=⟨_,rfl⟩;rw[<- ac] at c3;have D:H0 x=none:=by rw[ac];show yG rfl
  have l3:(qI "partners" (.ref dp) (qI "board" (.ref b) [])).length<=2:=hl (hl (n:=0) (yh _));generalize upd H2 x (.ins (cc 9) dx (qI "partners" (.ref dp) (qI "board" (.ref b) [])))=H3 at c3 ap ⊢;obtain⟨f3,bh⟩:∃ f3,f3=qI "partners" (.ref dp) (qI "board" (.ref b) []):=⟨_,rfl⟩;rw[<- bh] at ap l3;ext;intro m ao;have C:m≠x:=fun e=>by rw[e,ap] at ao;cases ao
  have cv:H0 m=none:=c3.free ao;have ck:upd H3 m (.dK []) x=some (.ins (cc 9) dx f3):=by rw[qf C.symm];show ap
  apply .inl ⟨x,cc 9,dx,_,rfl,ck,T.fcl,fa 2 (by decide),Yp l3 (by decide),?_⟩;have c4:L2.Same H0 (upd (upd H3 m (.dK [])) x (.ins (cc 9) dx (qI "rows" (.ref m) f3))):=qaE (qG c3 ao) D;have aq:(upd (upd H3 m (.dK [])) x (.ins (cc 9) dx (qI "rows" (.ref m) f3))) x=some (.ins (cc 9) dx (qI "rows" (.ref m) f3)):=qb;have l4:(qI "rows" (.ref m) f3).length<=3:=hl l3;have U:(upd (upd H3 m (.dK [])) x (.ins (cc 9) dx (qI "rows" (.ref m) f3))) m=some (.dK []):=by rw[qf C,qb]
  generalize upd (upd H3 m (.dK [])) x (.ins (cc 9) dx (qI "rows" (.ref m) f3))=H4 at c4 aq U ⊢;obtain⟨f4,bi⟩:∃ f,f=qI "rows" (.ref m) f3:=⟨_,rfl⟩;rw[<- bi] at aq l4;ext;intro l G;have I:l≠x:=fun e=>by rw[e,aq] at G;cases G
  have ct:H0 l=none:=c4.free G;have ad:l≠m:=fun e=>by rw[e,U] at G;cases G
  have cl:upd H4 l (.dK []) x=some (.ins (cc 9) dx f4):=by rw[qf I.symm];show aq
  apply .inl ⟨x,cc 9,dx,_,rfl,cl,T.fcl,fa 3 (by decide),Yp l4 (by decide),?_⟩;have c5:L2.Same H0 (upd (upd H4 l (.dK [])) x (.ins (cc 9) dx (qI "parents" (.ref l) f4))):=qaE (qG c4 G) D;have ar:(upd (upd H4 l (.dK [])) x (.ins (cc 9) dx (qI "parents" (.ref l) f4))) x=some (.ins (cc 9) dx (qI "parents" (.ref l) f4)):=qb;have l5:(qI "parents" (.ref l) f4).length<=4:=hl l4;have M:(upd (upd H4 l (.dK [])) x (.ins (cc 9) dx (qI "parents" (.ref l) f4))) l=some (.dK []):=by rw[qf I,qb]
  have W:(upd (upd H4 l (.dK [])) x (.ins (cc 9) dx (qI "parents" (.ref l) f4))) m=some (.dK []):=by rw[qf C,qf (Yo ad)];show U
  generalize upd (upd H4 l (.dK [])) x (.ins (cc 9) dx (qI "parents" (.ref l) f4))=H5 at c5 ar W M ⊢;obtain⟨f5,bj⟩:∃ f,f=qI "parents" (.ref l) f4:=⟨_,rfl⟩;rw[<- bj] at ar l5;ext;intro j A;have ah:j≠x:=fun e=>by rw[e,ar] at A;cases A
  have cx:H0 j=none:=c5.free A;have aj:j≠m:=fun e=>by rw[e,W] at A;cases A
  have ai:j≠l:=fun e=>by rw[e,M] at A;cases A
  have cm:upd H5 j (.dK []) x=some (.ins (cc 9) dx f5):=by rw[qf ah.symm];show ar
  apply .inl ⟨x,cc 9,dx,_,rfl,cm,T.fcl,fa 4 (by decide),Yp l5 (by decide),?_⟩;have c6:L2.Same H0 (upd (upd H5 j (.dK [])) x (.ins (cc 9) dx (qI "bases" (.ref j) f5))):=qaE (qG c5 A) D;have as:(upd (upd H5 j (.dK [])) x (.ins (cc 9) dx (qI "bases" (.ref j) f5))) x=some (.ins (cc 9) dx (qI "bases" (.ref j) f5)):=qb;have l6:(qI "bases" (.ref j) f5).length<=5:=hl l5;have Z:(upd (upd H5 j (.dK [])) x (.ins (cc 9) dx (qI "bases" (.ref j) f5))) j=some (.dK []):=by rw[qf ah,qb]
  have X:(upd (upd H5 j (.dK [])) x (.ins (cc 9) dx (qI "bases" (.ref j) f5))) m=some (.dK []):=by rw[qf C,qf (Yo aj)];show W
  have N:(upd (upd H5 j (.dK [])) x (.ins (cc 9) dx (qI "bases" (.ref j) f5))) l=some (.dK []):=by rw[qf I,qf (Yo ai)];show M
  generalize upd (upd H5 j (.dK [])) x (.ins (cc 9) dx (qI "bases" (.ref j) f5))=H6 at c6 as X N Z ⊢;obtain⟨f6,bm⟩:∃ f,f=qI "bases" (.ref j) f5:=⟨_,rfl⟩;rw[<- bm] at as l6;apply⟨by show 0<=sizeLine;decide,fun g y=>?_⟩;have av:g≠x:=fun e=>by rw[e,as] at y;cases y
  have cu:H0 g=none:=c6.free y;have af:g≠m:=fun e=>by rw[e,X] at y;cases y
  have ae:g≠l:=fun e=>by rw[e,N] at y;cases y
  have ag:g≠j:=fun e=>by rw[e,Z] at y;cases y
  have cn:upd H6 g (.lst []) x=some (.ins (cc 9) dx f6):=by rw[qf av.symm];show as
  apply .inl ⟨x,cc 9,dx,_,rfl,cn,T.fcl,fa 5 (by decide),Yp l6 (by decide),?_⟩;have c7:L2.Same H0 (upd (upd H6 g (.lst [])) x (.ins (cc 9) dx (qI "rings" (.ref g) f6))):=qaE (qG c6 y) D;have au:(upd (upd H6 g (.lst [])) x (.ins (cc 9) dx (qI "rings" (.ref g) f6))) x=some (.ins (cc 9) dx (qI "rings" (.ref g) f6)):=qb;have l7:(qI "rings" (.ref g) f6).length<=6:=hl l6;have R:(upd (upd H6 g (.lst [])) x (.ins (cc 9) dx (qI "rings" (.ref g) f6))) g=some (.lst []):=by rw[qf av,qb]
  have Y:(upd (upd H6 g (.lst [])) x (.ins (cc 9) dx (qI "rings" (.ref g) f6))) m=some (.dK []):=by rw[qf C,qf (Yo af)];show X
  have O:(upd (upd H6 g (.lst [])) x (.ins (cc 9) dx (qI "rings" (.ref g) f6))) l=some (.dK []):=by rw[qf I,qf (Yo ae)];show N
  have aa:(upd (upd H6 g (.lst [])) x (.ins (cc 9) dx (qI "rings" (.ref g) f6))) j=some (.dK []):=by rw[qf ah,qf (Yo ag)];show Z
  generalize upd (upd H6 g (.lst [])) x (.ins (cc 9) dx (qI "rings" (.ref g) f6))=H7 at c7 au Y O aa R ⊢;obtain⟨L,bn⟩:∃ f,f=qI "rings" (.ref g) f6:=⟨_,rfl⟩;rw[<- bn] at au l7;apply⟨by show 0<=sizeLine;decide,fun a p=>?_⟩;have br:a≠x:=fun e=>by rw[e,au] at p;cases p
  have cy:H0 a=none:=c7.free p;have am:a≠m:=fun e=>by rw[e,Y] at p;cases p
  have ak:a≠l:=fun e=>by rw[e,O] at p;cases p
  have an:a≠j:=fun e=>by rw[e,aa] at p;cases p
  have al:a≠g:=fun e=>by rw[e,R] at p;cases p
  have co:upd H7 a (.lst []) x=some (.ins (cc 9) dx L):=by rw[qf br.symm];show au
  apply .inl ⟨x,cc 9,dx,_,rfl,co,T.fcl,fa 6 (by decide),Yp l7 (by decide),?_⟩;have c8:L2.Same H0 (upd (upd H7 a (.lst [])) x (.ins (cc 9) dx (qI "waiting" (.ref a) L))):=qaE (qG c7 p) D;have bq:(upd (upd H7 a (.lst [])) x (.ins (cc 9) dx (qI "waiting" (.ref a) L))) x=some (.ins (cc 9) dx (qI "waiting" (.ref a) L)):=qb;have l8:(qI "waiting" (.ref a) L).length<=7:=hl l7;have be:(upd (upd H7 a (.lst [])) x (.ins (cc 9) dx (qI "waiting" (.ref a) L))) a=some (.lst []):=by rw[qf br,qb]
  have ba:(upd (upd H7 a (.lst [])) x (.ins (cc 9) dx (qI "waiting" (.ref a) L))) m=some (.dK []):=by rw[qf C,qf (Yo am)];show Y
  have aw:(upd (upd H7 a (.lst [])) x (.ins (cc 9) dx (qI "waiting" (.ref a) L))) l=some (.dK []):=by rw[qf I,qf (Yo ak)];show O
  have bc:(upd (upd H7 a (.lst [])) x (.ins (cc 9) dx (qI "waiting" (.ref a) L))) j=some (.dK []):=by rw[qf ah,qf (Yo an)];show aa
  have ay:(upd (upd H7 a (.lst [])) x (.ins (cc 9) dx (qI "waiting" (.ref a) L))) g=some (.lst []):=by rw[qf av,qf (Yo al)];show R
  generalize upd (upd H7 a (.lst [])) x (.ins (cc 9) dx (qI "waiting" (.ref a) L))=H8 at c8 bq ba aw bc ay be ⊢;obtain⟨f8,bo⟩:∃ f,f=qI "waiting" (.ref a) L:=⟨_,rfl⟩;rw[<- bo] at bq l8;apply .inl ⟨x,cc 9,dx,_,rfl,bq,T.fcl,fa 7 (by decide),Yp l8 (by decide),?_⟩;have c9:L2.Same H0 (upd H8 x (.ins (cc 9) dx (qI "longer" .non f8))):=qaE c8 D;have bz:(upd H8 x (.ins (cc 9) dx (qI "longer" .non f8))) x=some (.ins (cc 9) dx (qI "longer" .non f8)):=qb;have l9:(qI "longer" .non f8).length<=8:=hl l8;have bb:(upd H8 x (.ins (cc 9) dx (qI "longer" .non f8))) m=some (.dK []):=by rw[qf C];show ba
  have ax:(upd H8 x (.ins (cc 9) dx (qI "longer" .non f8))) l=some (.dK []):=by rw[qf I];show aw
  have bd:(upd H8 x (.ins (cc 9) dx (qI "longer" .non f8))) j=some (.dK []):=by rw[qf ah];show bc
  have az:(upd H8 x (.ins (cc 9) dx (qI "longer" .non f8))) g=some (.lst []):=by rw[qf av];show ay
  have bf:(upd H8 x (.ins (cc 9) dx (qI "longer" .non f8))) a=some (.lst []):=by rw[qf br];show be
  generalize upd H8 x (.ins (cc 9) dx (qI "longer" .non f8))=H9 at c9 bz bb ax bd az bf ⊢
  have hF:FoA (cc 9) cw H0 H9 ⟨x,b,dp,m,l,j,g,a,[]⟩ ss ns qs S0 [] [] [] .non:=by
   show⟨c9,?_,?_,fun c hc=>?_,?_,(fun c hc=>by cases hc),⟨dx,_,bz,kz l9,fun _=>l9,fun f v hf=>?_,fun f hf=>?_⟩,⟨[],bb,yh _,fun _=>rfl⟩,⟨[],ax,⟨[],yh _,.nil,(fun u hu=>by cases hu)⟩,fun _=>rfl⟩,⟨[],bd,yh _,(fun s hs=>by cases hs)⟩,⟨[],az,yh _⟩,bf,.nil,fun v=>⟨(fun k=>by cases k),fun k=>absurd rfl k⟩,(fun v hv=>by cases hv)⟩
   .rw [ac];show(keepW b2).out bw ca
   .rw [ac];show(zV cp).trans cg
   .simp only[Fo.six,yy,Yb,YL] at hc;rcases hc with rfl | rfl | rfl | rfl | rfl | rfl<;>assumption
   .simp [ad.symm,aj.symm,af.symm,am.symm,ai.symm,ae.symm,ak.symm,ag.symm,an.symm,al.symm]
   .simp only[Fo.tab,yy,XA,Yb,YL] at hf;rw[bo,bn,bm,bj,bi,bh];rcases hf with⟨rfl,rfl⟩ | ⟨rfl,rfl⟩ | ⟨rfl,rfl⟩ | ⟨rfl,rfl⟩ | ⟨rfl,rfl⟩ | ⟨rfl,rfl⟩ | ⟨rfl,rfl⟩ | ⟨rfl,rfl⟩<;>rfl
   .rw [bo,bn,bm,bj,bi,bh];have no:∀ i,i<8->f≠fAtt.getD i "":=fun i hi e=>hf (by rw[e,Yi,yb (show i<fAtt.length from hi)];show Y2 _);show lkn (no 7 (by decide)) (lkn (no 6 (by decide)) (lkn (no 5 (by decide)) (lkn (no 4 (by decide)) (lkn (no 3 (by decide)) (lkn (no 2 (by decide)) (lkn (no 1 (by decide)) (lkn (no 0 (by decide)) rfl)))))))
  ext;obtain⟨cb,fs,bv,_,_,_,bx⟩:=id hF.obj;show⟨x,cb,fs,rfl,bv,bx _ (by room),?_⟩;apply⟨H0,_,ss,ns,qs,B,rfl,hF,bu,ch,cf,fun HA S dn wt lo hD cs=>?_⟩;show q H0 HA _ S dn wt lo rfl rfl hD fun c o e=>?_;have hc:c≠x:=fun z=>by rw[z] at e;unfold qfW at e;rw[yG rfl] at e;cases e
  rw[zV hc] at e;rw[ac,zV hc];show b2 _ _ hc e
inductive spFr(cc:Nat->Addr)(cw:Addr)(vs:List V)(H:Hp)(Q:VK)(E:XK):Prop|mk (H0:Hp) (a:Fo) (ss:LS) (ns:LN) (qs:LP) (S:FS) (dn wt:LS) (lo:V) (A:Str->Str->Prop) (_:vs=[.ref a.x]) (_:FoD (cc 9) cw H0 H a ss ns qs S dn wt lo A) (_:(lo=.non->Q .non H)) (_:∀(t:Addr) (r:LS),lo=.ref t->H t=some (.lst (r.map V.str))->Aug A (pt qs) r->∀ l,H l=none->Q (.ref l) (upd H l (.lst (r.map V.str))))
inductive spFd2(cc:Nat->Addr)(cw:Addr)(vs:List V)(H:Hp)(Q:VK)(E:XK):Prop|mk (H0:Hp) (a:Fo) (ss:LS) (ns:LN) (qs:LP) (S:FS) (dn wt:LS) (lo:V) (A:Str->Str->Prop) (_:vs=[.ref a.x]) (_:FoD (cc 9) cw H0 H a ss ns qs S dn wt lo A) (_:ss.length<=14) (_:(lo≠.non->Q .non H)) (_:(lo=.non->∀(l:Addr) (H':Hp),L2.Same H H'->H l=none->H' l=some (.lst ((ss.filter fun s=>(S.rows s).isSome).map V.str))->Q (.ref l) H'))
theorem ok_fr(F:Fun K "row" "Forest.row" zA f fd)(T:Txt K mg cc cw):FnOk P w K mg base CX0 1 f fd ["self"] (spFr cc cw):=by
 show F.ok uK fun _ _ _ _ H vs Q E i h=>?_
 .obtain⟨H0,a,ss,ns,qs,S,dn,wt,lo,B,rfl,b,e,g⟩:=h;show⟨_,(qe (qm (qdB (qj qhe (qC (K:=K) rfl (pv 0) rfl) qaF (qA _)) qaF (zl (qaK (K:=K) rfl rfl) rfl T.b_list xp (qa (qC (K:=K) rfl (pv 0) rfl) qd))))),?_⟩;apply .inl (b.fo.obj.rd T 7 rfl ?_);ext;rcases b.en with⟨rfl,_⟩ | ⟨t,r,rfl,c,j,d,_⟩
  .show⟨_,rfl,zZ ?_⟩;apply e rfl
  .show⟨_,rfl,qL (fun h=>by cases h) fun _=>?_⟩;apply .inl (b.fo.obj.rd T 7 rfl ?_);apply .inl ⟨t,_,rfl,.inl (.of c),g t r rfl c d⟩
theorem ok_fd2(F:Fun K "reached" "Forest.reached" jk f fd)(T:Txt K mg cc cw)(D:MethOk P w K mg base CX0 1 cw "places" ["self"] (spPls cw)):FnOk P w K mg base CX0 2 f fd ["self"] (spFd2 cc cw):=by
 show F.ok ug fun _ _ _ s H vs Q E x h=>?_
 .obtain⟨H0,a,ss,ns,qs,S,dn,wt,lo,B,rfl,v,G,N,O⟩:=h;have M:=jV x;show⟨_,(qc (qP (qj qdd (qC (K:=K) rfl (pv 0) rfl) qaF (qA _)) (qe (qm qaF)) qy)
 (qe (qm (q9 (sc:=qh jk) (XN:=["self"]) ["place","self"] 1 [0] rfl rfl rfl (by room) rfl (by room)
  (qS (K:=K) rfl (jd D (hmR x) (qC (K:=K) rfl (pv 0) rfl))) (fun _ _ _ _=>(qo (i:=0) (show(["place","self"]:LS).Nodup by room) rfl (yJ rfl))) qR
  (fun _ _ _ _=>(qV (qj (zQ (K:=K) rfl M) (pv 0) (qC (K:=K) rfl (pv 1) rfl) (by with_unfolding_all rfl))))
  (fun _ _ _ _=>(pv 0)))))),?_⟩
  have h:=v.fo;apply .inl (h.obj.rd T 7 rfl ?_);ext;rcases v.en with⟨rfl,_⟩ | ⟨t,r,rfl,_⟩
  .show⟨rfl,_,rfl,qL (fun h=>by simp at h) fun _=>?_⟩;have g:=h.web.same h.sm;obtain⟨W,X,ol,Y,I,_⟩:=id g;apply .inl (h.obj.rd T 0 rfl ?_);show⟨a.b,W,_,rfl,I,j0 (by room),?_⟩;apply⟨a.b,ss,ns,rfl,g,fun pl u=>?_⟩;have n:=qG (Sr H) (o:=.lst (ss.map V.str)) u;have p:upd H pl (.lst (ss.map V.str)) pl=some (.lst (ss.map V.str)):=qb;generalize upd H pl (.lst (ss.map V.str))=H1 at n p;have h1:=h.same n;obtain⟨C,R,Z,U⟩:=h1.row;show .inl ⟨⟨_,.of p⟩,qH (xs:=ss.map V.str) (fun i ys J=>J=H1/\ys=((ss.take i).filter fun s=>(S.rows s).isSome).map V.str) ⟨rfl,rfl⟩ (fun i ys J _ m=>by rw[m.1];show .of p) (fun i y ys J A m=>?_) fun ys J m=>?_⟩
   .obtain⟨rfl,rfl⟩:=m;rw[yd] at A;obtain⟨z,hz,rfl⟩:=yn.mp A;have L:=(yc.mp hz).1;have j:=yN (fun s=>(S.rows s).isSome) (ss.take i);rw[yR] at j
    have d:(ss.take (i+1)).filter (fun s=>(S.rows s).isSome)=(ss.take i).filter (fun s=>(S.rows s).isSome)++(if (S.rows z).isSome=true then [z] else []):=by
     rw[yM,hz,yV];show _++[z].filter _=_;rw[yK,Yx]
    apply .inl (h1.obj.rd T 2 rfl ?_);show .inr (.inl ⟨a.dr,_,rfl,DGet.k (k:=Sum.inr z) R,?_⟩);have c:=U z
    have q:(jR C (.inr z:Key)).isSome=(S.rows z).isSome:=by
     cases e:S.rows z with
     | none=>rw[e] at c;rw[show jR C (.inr z:Key)=none from c];rfl
     | some r=>rw[e] at c;obtain⟨t,k,_⟩:=c;rw[k];rfl
    rw[yA (by decide),q,d];show⟨_,rfl,?_⟩
    cases (S.rows z).isSome with
    | true =>
     show zZ ?_;rw[yG rfl];apply⟨by rw[ya];show qi (by lk),rfl,by rw[yu];rfl⟩
    | false =>
     show yq ?_;rw[yA (by decide),Yh];show⟨rfl,rfl⟩
   .obtain⟨rfl,rfl⟩:=m;rw[show(ss.map V.str).length=ss.length from ya _,yS];have j:=yN (fun s=>(S.rows s).isSome) ss;show⟨by rw[ya];show yW (qi (by lk)),fun l hl=>?_⟩;show O rfl l _ (qG n hl) (n.free hl) qb
  .show⟨rfl,_,rfl,zZ ?_⟩;apply N (fun e=>by cases e)
theorem ua:FnScope ["web","pairs","partners"] ["web","pairs"] (qh j3):=fS
theorem Ky:FnScope ["web","thing","seen","place"] ["web","thing"] (qh ji):=fS
theorem eqv_str(a b:Str):eqV (.str a) (.str b)=decide (a=b):=by
 unfold eqV;by_cases h:a=b<;>simp[h]
theorem vEqS{i j:Str}{Q:VK}(q:Q (.bl (decide (i=j))) H):qgI K (.str i) (.str j) H Q:=.inl (.inl (.inl ⟨rfl,rfl,by rw[yA (by decide),eqv_str];show q⟩))
noncomputable def qbe(a qs:LP):LP:=a.filter fun q=>decide (pt qs q.1=some q.2)
inductive spTp(cw:Addr)(vs:List V)(H:Hp)(Q:VK)(E:XK):Prop|mk (x l:Addr) (ss:LS) (ns:LN) (us:LX) (tps qs:LP) (_:vs=[.ref x,.ref l]) (_:WebAt cw H x ss ns) (_:Adj ss ns tps) (_:PL H l us qs) (_:PGo ss tps qs) (_:∀(l:Addr) (ls:LX) (H':Hp),L2.Same H H'->H l=none->H' l=some (.lst (ls.map V.ref))->ls.length<=196->All2 (PrAt H H' l) ls (qbe (qE ss ns ss.length) qs)->Q (.ref l) H')
noncomputable def stp(rs:LS):LP:=rs.zip rs.tail
noncomputable def prB(qs:LP)(ab:Str×Str):Bool:=decide (pt qs ab.1=some ab.2)
theorem stp_at:(stp rs)[j]?=some ab↔rs[j]?=some ab.1/\rs[j+1]?=some ab.2:=by
 unfold stp;rw[List.getElem?_zip_eq_some,Xi]
theorem qaL(rs:LS):(stp rs).length=rs.length-1:=by unfold stp;rw[List.length_zip,Xf];lk
structure RowG(ss:LS)(tps qs:LP)(rs:LS):Prop where
 nd:rs.Nodup
 two:2<=rs.length
 few:rs.length<=1000
 inn:∀ r∈rs,r∈ss
 tie:∀(j:Nat) ab,(stp rs)[j]?=some ab->(ab∈tps\/(ab.2,ab.1)∈tps)/\prB qs ab=decide (j % 2=1)
 hd:∀ s,rs[0]?=some s->pt qs s=none
 tl:∀ s,rs[rs.length-1]?=some s->pt qs s=none
structure Rw(cw:Addr)(H:Hp)(x l a:Addr)(ss:LS)(ns:LN)(us:LX)(tps qs:LP)(rs:LS):Prop where
 web:WebAt cw H x ss ns
 adj:Adj ss ns tps
 prs:PL H l us qs
 pgo:PGo ss tps qs
 row:H a=some (.lst (rs.map V.str))
 rok:RowG ss tps qs rs
theorem Rw.same{l a:Addr}(h:Rw cw H x l a ss ns us tps qs rs)(s:L2.Same H H'):Rw cw H' x l a ss ns us tps qs rs:=
 ⟨h.web.same s,h.adj,h.prs.same s,h.pgo,s _ _ h.row,h.rok⟩
inductive spUl(cw:Addr)(vs:List V)(H:Hp)(Q:VK)(E:XK):Prop|mk (x a:Addr) (ss:LS) (ns:LN) (rs:LS) (_:vs=[.ref x,.ref a]) (_:WebAt cw H x ss ns) (_:H a=some (.lst (rs.map V.str))) (_:rs.Nodup) (_:rs.length<=1000) (_:(∀ r∈rs,r∈ss)) (_:∀ H',L2.Same H H'->Q (.bl true) H')
inductive spGt(cw:Addr)(vs:List V)(H:Hp)(Q:VK)(E:XK):Prop|mk (x l d a:Addr) (ss:LS) (ns:LN) (us:LX) (tps qs:LP) (rs:LS) (_:vs=[.ref x,.ref d,.ref a]) (_:Rw cw H x l a ss ns us tps qs rs) (_:H d=some (.dK (prK qs))) (_:∀ H',L2.Same H H'->Q (.bl true) H')
inductive spIr(cw:Addr)(vs:List V)(H:Hp)(Q:VK)(E:XK):Prop|mk (x l a:Addr) (ss:LS) (ns:LN) (us:LX) (tps qs:LP) (rs:LS) (_:vs=[.ref x,.ref l,.ref a]) (_:Rw cw H x l a ss ns us tps qs rs) (_:∀ H',L2.Same H H'->Q (.bl true) H')
theorem qfX{Q:VK}(q:Q (.bl (decide (pt qs s=some t))) H):qgI K (((pt qs s).map V.str).getD .non) (.str t) H Q:=by
 cases e:pt qs s with
 | none=>rw[e] at q;show .inl (.inl (.inl ⟨rfl,rfl,q⟩))
 | some u =>
  show vEqS ?_;rw[e] at q
  rwa[show decide (u=t)=decide (some u=some t) from Yq.mpr ⟨congrArg some,ym⟩]
theorem ok_tp(F:Fun K "told_pairs" "told_pairs" j3 f fd)(T:Txt K mg cc cw)(S:DefOk P w K mg base CX0 9 "partners_in" ["web","pairs"] (spPn cw))(R:MethOk P w K mg base CX0 7 cw "ties" ["self"] (spTs cw)):FnOk P w K mg base CX0 10 f fd ["web","pairs"] (spTp cw):=by
 show F.ok ua fun _ _ _ _ H vs Q E J h=>?_
 .obtain⟨x,pl,ss,ns,ps,tps,qs,rfl,C,U,X,W,q⟩:=h;have A:=jV J;obtain⟨wx,dd,ol,nn,Y,_⟩:=id C;show⟨_,(qc (qk (i:=2) ua.nd rfl (Xm rfl) (qp S (hmR J) qB (qa (pv 0) (qa (pv 1) qd))))
 (qe (qm (q9 (sc:=qh j3) (XN:=["web","pairs","partners"]) ["tie","partners"] 1 [2] rfl rfl rfl (by room) rfl (by room)
  (qS (K:=K) rfl (jd R (hmR J) (pv 0))) (fun _ _ _ _=>(qo (i:=0) (show(["tie","partners"]:LS).Nodup by room) rfl (yJ rfl))) qR
  (fun _ _ _ _=>(qV (qj (j6 (K:=K) rfl A) (qaS (qgr A) (pv 1) (qu (qv (K:=K) rfl A) (pv 0) qg (fun _ _=>rfl)) ⟨rfl,rfl,rfl,rfl⟩) (qu (qv (K:=K) rfl A) (pv 0) qg (fun _ _=>rfl)) (qA _))))
  (fun _ _ _ _=>(pv 0)))))),?_⟩
  apply⟨x,pl,ss,ns,ps,tps,qs,rfl,C,U,X,W,fun d H1 B aa Z=>?_⟩;apply⟨x,wx,_,rfl,B _ _ Y,j0 (by room),?_⟩;apply⟨x,ss,ns,rfl,C.same B,fun l ts H2 O ac hl D b=>?_⟩;have p:=O _ _ Z;have s:=B.trans O;show .inl ⟨⟨_,.of hl⟩,qH (xs:=ts.map V.ref) (fun i ys G=>G=H2/\∃ us:LX,ys=us.map V.ref/\us.length<=i/\All2 (fun t ab=>H1 t=none/\H2 t=some (.tup [.str ab.1,.str ab.2])) us (qbe ((qE ss ns ss.length).take i) qs)) ⟨rfl,[],rfl,yh _,.nil⟩ (fun i ys G _ a=>by rw[a.1];show .of hl) (fun i y ys G N a=>?_) fun ys G a=>?_⟩
  .obtain⟨rfl,us,rfl,r,m⟩:=a;rw[yd] at N;obtain⟨t,M,rfl⟩:=yn.mp N;have hi:i<ts.length:=(yc.mp M).1;obtain⟨ab,n⟩:∃ ab,(qE ss ns ss.length)[i]?=some ab:=⟨_,yb (by rw[<- b.len];show hi)⟩;obtain⟨z1,z2,L⟩:=b.at_ i t ab M n
   have c:qbe ((qE ss ns ss.length).take (i+1)) qs=qbe ((qE ss ns ss.length).take i) qs++(if pt qs ab.1=some ab.2 then [ab] else []):=by
    unfold qbe;rw[yM,n,yV];show _++[ab].filter _=_;rw[yK];simp only[kB,Yx]
   apply qcV ?_;apply⟨d,rfl,.inl ⟨_,.inl p⟩,?_⟩;apply .inl (zO L (v:=.str ab.1) (qt (j:=0) rfl) ?_);show⟨_,DGet.k (k:=Sum.inr ab.1) p,?_⟩;rw[jH];apply .inl (zO L (v:=.str ab.2) (qt (j:=1) rfl) ?_);show qfX ?_;ext;rw[c];show qL (fun I=>?_) (fun I=>?_)
   .rw [yG (yk I)];apply⟨by rw[ya];show qi (by lk),rfl,us++[t],by rw[yu];rfl,by rw[yt];simp;lk,m.snoc ⟨z1,L⟩⟩
   .rw [yA (fun e=>I (yB e)),Yh];show⟨rfl,us,rfl,by lk,m⟩
  .obtain⟨rfl,us,rfl,r,m⟩:=a;have e:(ts.map V.ref).length=(qE ss ns ss.length).length:=by rw[ya,b.len]
   rw[e,yS] at m;rw[ya] at r;show⟨by rw[ya];show yW (qi (by lk)),fun g u=>?_⟩;have s3:=qG s (o:=.lst (us.map V.ref)) u;show q g us _ s3 (s.free u) qb (by lk) (m.mono fun t ab z=>⟨B.free z.1,(fun e=>by rw[e,u] at z;cases z.2),by rw[qf (fun e=>by rw[e,u] at z;cases z.2)];show z.2⟩)
theorem ok_ul(F:Fun K "are_unlike_places" "are_unlike_places" ji f fd)(T:Txt K mg cc cw)(I:MethOk P w K mg base CX0 3 cw "has_place" ["self","thing"] (spHas cw)):FnOk P w K mg base CX0 4 f fd ["web","thing"] (spUl cw):=by
 show F.ok Ky fun _ _ _ _ H vs Q E C h=>?_
 .obtain⟨x,a,ss,ns,rs,rfl,u,j,m,hl,l,q⟩:=h;have D:=jV C;show⟨_,(qc (qP (qZ (qU (qr (qaX (K:=K) rfl) rfl T.b_isinstance YO (qa (pv 1) (qa (jz (v:=.ty "list") rfl T.b_list xp rfl) qd))))) (qe (qm js)) qy)
 (qc (qk (i:=2) Ky.nd rfl (yJ rfl) j7)
 (qc (jj yY rfl (qS (K:=K) rfl (pv 1)) (qo (i:=3) Ky.nd rfl (yJ rfl))
 (qc (qP (PW.pt (zK (qZ (qU (qF I (hmR C) (pv 0) (qa (pv 3) qd)))) (zE (qj (zQ (K:=K) rfl D) (pv 3) (pv 2) (by with_unfolding_all rfl))))) (qe (qm js)) qy)
 (qe (jC js (jN (pv 2) (pv 3) (jP D))))))
 (qe (qm js))))),?_⟩
  apply qch (.inl (.lst j)) rfl (zP K "list" (by simp) "list" (by simp)) ?_;apply yq ?_;ext;intro d A;have n:=qG (Sr H) (o:=.dK []) A;have s:upd H d (.dK []) d=some (.dK (qck [])):=qb;generalize upd H d (.dK [])=H1 at n s;obtain⟨N,R,ol,S,L,_⟩:=id u;apply .inl ⟨⟨_,.of (n _ _ j)⟩,jc (xs:=rs.map V.str) (fun i σ J=>L2.Same H J/\∃ r,σ=[some (.ref x),some (.ref a),some (.ref d),r]/\J d=some (.dK (qck (rs.take i)))) ⟨n,_,rfl,s⟩ (fun i σ J _ c=>.of (c.1 _ _ j)) (fun i y σ J G c=>?_) fun σ J c=>?_⟩
  .obtain⟨g,r,rfl,b⟩:=c;rw[yd] at G;obtain⟨z,hz,rfl⟩:=yn.mp G;have M:i<rs.length:=(yc.mp hz).1;have e:rs.take (i+1)=rs.take i++[z]:=by rw[yM,hz];rfl
   have B:z∉rs.take i:=fun y=>by
    have t:(rs.take (i+1)).Nodup:=m.sublist (XI _ _);rw[e] at t;show(Yk.mp t).2.2 _ y z (by simp) rfl
   apply⟨x,N,_,rfl,g _ _ L,j0 (by room),?_⟩;apply⟨x,ss,ns,z,rfl,u.same g,l z (ye hz),fun O p=>?_⟩;apply yq ?_;apply .inr (.inl ⟨d,_,rfl,DGet.k (k:=Sum.inr z) (p _ _ b),?_⟩);rw[yA (by decide),qaj,yl B];apply yq ?_;apply .inr ⟨d,_,rfl,DPut.k (k:=Sum.inr z) (p _ _ b) (qi (by unfold qck;rw[ya,yR];lk)),?_⟩;show⟨qaE (g.trans p) A,_,rfl,?_⟩;rw[qb,qcl B,e]
  .obtain⟨g,r,rfl,b⟩:=c;apply q J g
theorem uG:FnScope ["web","pairs","thing","partners"] ["web","pairs","thing"] (qh qbq):=fS
theorem KE:FnScope ["web","partners","names","steps","paired"] ["web","partners","names"] (qh qX):=fS
theorem KO:FnScope ["web","pairs","thing","partners","first","last"] ["web","pairs","thing"] (qh qax):=fS
theorem qbr(rs:List V):qde rs (some 1) none=rs.tail:=by
 have:=qcU rs 1
 rwa[List.drop_one] at this
theorem qgw:∀{bs:List Bool},(∀ b∈bs,b=true)->bs.all id=true:=fun h=>YI.mpr h
theorem qeT{l:Addr}{xs ys:LS}(Z:Zl H H' l ts (xs.map V.str) (ys.map V.str))(hl:qs.length=min xs.length ys.length)(h:∀(j:Nat) q,qs[j]?=some q->xs[j]?=some q.1/\ys[j]?=some q.2):All2 (fun t ab=>H' t=some (.tup [.str ab.1,.str ab.2])) ts qs:=by
 show⟨by rw[Z.len,ya,ya,hl],fun j t ab g c=>?_⟩;obtain⟨d,f⟩:=h j ab c;obtain⟨_,u,v,a,b,e⟩:=Z.tp j t g;rw[yd,d] at a;rw[yd,f] at b;cases a;cases b;show e
theorem atI_back{xs:List α}{v:α}(a:1<=j)(h1:j<=xs.length)(h:xs[xs.length-j]?=some v):atI xs (-(j:Int))=some v:=by
 have e:ixN xs.length (-(j:Int))=some (xs.length-j):=by
  unfold ixN;rw[yA (by lk),yG (by lk)]
  congr 1
  lk
 unfold atI;rw[e];show h
theorem ok_gt(F:Fun K "goes_by_turns" "goes_by_turns" qX f fd)(T:Txt K mg cc cw)(KR:MethOk P w K mg base CX0 7 cw "has_tie" ["self","thing"] (spHt cw)):FnOk P w K mg base CX0 8 f fd ["web","partners","names"] (spGt cw):=by
 show F.ok KE fun _ _ _ _ H vs Q E hr h=>?_
 .obtain⟨x,l,d,a,ss,ns,us,tps,qs,rs,rfl,R,hd,q⟩:=h;have hu:=jV hr;obtain⟨wx,dd,ol,nn,X,_⟩:=id R.web;have ha:=R.row;have M:=R.rok;have hl:=M.few;show⟨_,(qc (qk (i:=3) KE.nd rfl (yJ rfl) (qdk (K:=K) rfl rfl rfl rfl T.b_list T.b_zip (qa (pv 2) (qa (jE (qeF (K:=K) rfl) (pv 2) (jQ qg) zm) qd))))
 (qc (qP (qZ (qU (qr (qfV (K:=K) rfl rfl) rfl T.b_all boot_all (qa (q9 (sc:=qh qX) (XN:=["web","partners","names","steps","paired"]) ["step","web"] 1 [0] rfl rfl rfl (by room) rfl (by room)
  (qS (K:=K) rfl (pv 3)) (fun _ _ _ _=>(qo (i:=0) (show(["step","web"]:LS).Nodup by room) rfl (yJ rfl))) qR
  (fun _ _ _ _=>jU)
  (fun _ _ _ _=>(qF KR (hmR hr) (pv 1) (qa (pv 0) qd)))) qd)))) (qe (qm js)) qy)
 (qc (qaI (sc:=qh qX) (XN:=["web","partners","names","steps","paired"]) ["step","partners"] 1 [1] rfl rfl rfl (by room) rfl (by room) (i:=4) KE.nd rfl rfl
  (qS (K:=K) rfl (pv 3)) (fun _ _ _ _=>(qo (i:=0) (show(["step","partners"]:LS).Nodup by room) rfl (yJ rfl))) qR
  (fun _ _ _ _=>jU)
  (fun _ _ _ _=>(jD (j6 (K:=K) rfl hu) (qaS (qgr hu) (pv 1) (qu (qv (K:=K) rfl hu) (pv 0) qg (fun _ _=>rfl)) ⟨rfl,rfl,rfl,rfl⟩) (qu (qv (K:=K) rfl hu) (pv 0) qg (fun _ _=>rfl)) (qA _))))
 (qe (qm (qr (qfV (K:=K) rfl rfl) rfl T.b_all boot_all (qa (q9 (sc:=qh qX) (XN:=["web","partners","names","steps","paired"]) ["one","other"] 2 [] rfl rfl rfl (by room) rfl (by room)
  (pi_zip (K:=K) rfl rfl T.b_zip (qa (pv 4) (qa (jE (qeF (K:=K) rfl) (pv 4) (jQ qg) zm) qd))) (fun _ _ _ _=>(qbE (n:=2) rfl (jl (qo (i:=0) (show(["one","other"]:LS).Nodup by room) rfl (yJ rfl)) (jl (qo (i:=1) (show(["one","other"]:LS).Nodup by room) rfl (yJ rfl)) qaG)))) qeH
  (fun _ _ _ _=>jU)
  (fun _ _ _ _=>(jD (qaJ (K:=K) rfl hu) (pv 0) (pv 1) (qA _)))) qd))))))),?_⟩
  apply vLZ ?_;apply .inl ⟨a,_,rfl,SqL.of ha,fun c hc=>?_⟩;rw[qbr,<- kF];have s1:=qG (Sr H) (o:=.lst (rs.tail.map V.str)) hc;have aa:upd H c (.lst (rs.tail.map V.str)) c=some (.lst (rs.tail.map V.str)):=qb;generalize upd H c (.lst (rs.tail.map V.str))=H1 at s1 aa;apply⟨a,c,_,_,rfl,SqL.of (s1 _ _ ha),SqL.of aa,by rw[ya];show hl,fun l ts H2 Z=>?_⟩;have L:=s1.trans Z.sm;have ak:(stp rs).length<=1000:=by rw[qaL];lk
  have W:=qeT (qs:=stp rs) Z (by rw[qaL,Xf];lk) fun j q e=>by
   obtain⟨z1,z2⟩:=stp_at.mp e;show⟨z1,by rw[Xi];show z2⟩
  have tl:=W.len;have C:=Z.ls
  have ai:∀{i:Nat} {y:V},(ts.map V.ref)[i]?=some y->∃ t ab,y=.ref t/\(stp rs)[i]?=some ab/\H2 t=some (.tup [.str ab.1,.str ab.2]):=fun{i y} O=>by
   rw[yd] at O;obtain⟨t,ht,rfl⟩:=yn.mp O;obtain⟨ab,p⟩:∃ ab,(stp rs)[i]?=some ab:=⟨_,yb (by rw[<- tl];show(yc.mp ht).1)⟩;show⟨t,ab,rfl,p,W.at_ i t ab ht p⟩
  apply .inl ⟨⟨_,.of C⟩,qH (xs:=ts.map V.ref) (fun i ys G=>L2.Same H2 G/\ys=(((stp rs).take i).map fun _=>true).map V.bl) ⟨L2.Same.refl H2,rfl⟩ (fun i ys G _ m=>.of (m.1 _ _ C)) (fun i y ys G O m=>?_) fun ys G m=>?_⟩
  .obtain⟨S,rfl⟩:=m;obtain⟨t,ab,rfl,p,N⟩:=ai O;obtain⟨e1,U⟩:=stp_at.mp p;apply zZ ?_;apply⟨x,wx,_,rfl,(L.trans S) _ _ X,j0 (by room),?_⟩;apply⟨x,t,ss,ns,tps,ab,rfl,R.web.same (L.trans S),R.adj,S _ _ N,(M.tie i ab p).1,M.inn _ (ye e1),M.inn _ (ye U),fun z=>?_,fun G2 am=>?_⟩
   .rw [<- z] at U;show absurd (qz M.nd e1 U) (by lk)
   .show⟨by rw[ya,ya,yR];show qi (by lk),S.trans am,?_⟩;rw[yM,p,yu,yu];rfl
  .obtain⟨S,rfl⟩:=m;rw[show(ts.map V.ref).length=(stp rs).length by rw[ya,tl],yS];show⟨by rw[ya,ya];show yW (qi (by lk)),fun g hg=>?_⟩;have s3:=qG S (o:=.lst (((stp rs).map fun _=>true).map V.bl)) hg;have eg:upd G g (.lst (((stp rs).map fun _=>true).map V.bl)) g=some (.lst (((stp rs).map fun _=>true).map V.bl)):=qb;generalize upd G g (.lst (((stp rs).map fun _=>true).map V.bl))=G3 at s3 eg;apply⟨g,_,rfl,SqL.of eg,_,rfl,?_⟩;rw[qgw (fun b X=>by obtain⟨_,_,rfl⟩:=yE.mp X;rfl)];have ag:=L.trans s3;show yq ?_;have r:=s3 _ _ C;have ad:=ag _ _ hd;apply .inl ⟨⟨_,.of r⟩,qH (xs:=ts.map V.ref) (fun i ys G=>G=G3/\ys=(((stp rs).take i).map (prB qs)).map V.bl) ⟨rfl,rfl⟩ (fun i ys G _ m=>by rw[m.1];show .of r) (fun i y ys G O m=>?_) fun ys G m=>?_⟩
   .obtain⟨rfl,rfl⟩:=m;obtain⟨t,ab,rfl,p,N⟩:=ai O;have N:=s3 _ _ N;apply zZ ?_;apply qcV ?_;apply⟨d,rfl,.inl ⟨_,.inl ad⟩,?_⟩;apply .inl (zO N (v:=.str ab.1) (qt (j:=0) rfl) ?_);show⟨_,DGet.k (k:=Sum.inr ab.1) ad,?_⟩;rw[jH];apply .inl (zO N (v:=.str ab.2) (qt (j:=1) rfl) ?_);show qfX ?_;show⟨by rw[ya,ya,yR];show qi (by lk),rfl,?_⟩;rw[yM,p,yu,yu];rfl
   .obtain⟨rfl,rfl⟩:=m;rw[show(ts.map V.ref).length=(stp rs).length by rw[ya,tl],yS];show⟨by rw[ya,ya];show yW (qi (by lk)),fun b aj=>?_⟩;obtain⟨bs,B⟩:∃ bs,bs=(stp rs).map (prB qs):=⟨_,rfl⟩;rw[<- B];have an:bs.length<=1000:=by rw[B,ya];show ak
    have Y:∀(i:Nat) b,bs[i]?=some b->b=decide (i % 2=1):=fun i b e=>by
     rw[B,yd] at e;obtain⟨ab,p,rfl⟩:=yn.mp e;show(M.tie i ab p).2
    have s4:=qG ag (o:=.lst (bs.map V.bl)) aj;have eb:upd G b (.lst (bs.map V.bl)) b=some (.lst (bs.map V.bl)):=qb;generalize upd G b (.lst (bs.map V.bl))=G4 at s4 eb;apply vZip ?_;apply .inl ⟨b,_,rfl,SqL.of eb,fun c2 ac=>?_⟩;rw[qbr,<- kF];have s5:=qG s4 (o:=.lst (bs.tail.map V.bl)) ac;have s:=qG (Sr G4) (o:=.lst (bs.tail.map V.bl)) ac _ _ eb;have A:upd G4 c2 (.lst (bs.tail.map V.bl)) c2=some (.lst (bs.tail.map V.bl)):=qb;generalize upd G4 c2 (.lst (bs.tail.map V.bl))=G5 at s5 s A;apply⟨b,c2,_,_,rfl,SqL.of s,SqL.of A,comp_zip (xs:=bs.map V.bl) (ys:=bs.tail.map V.bl) (by simp) (fun i zs J=>L2.Same G5 J/\zs=(List.replicate i true).map V.bl) ⟨L2.Same.refl G5,rfl⟩ (fun i zs J _ m=>⟨SqL.of (m.1 _ _ s),SqL.of (m.1 _ _ A)⟩) (fun i u v t zs J D I ht m=>?_) fun zs J m=>?_⟩
    .obtain⟨sJ,rfl⟩:=m;rw[yd] at D I;obtain⟨u,ae,rfl⟩:=yn.mp D;obtain⟨v,af,rfl⟩:=yn.mp I;clear D I;have ao:=(yc.mp ae).1;rw[Xi] at af;have e1:=Y _ _ ae;have U:=Y _ _ af;have ah:=qG sJ (o:=.tup [.bl u,.bl v]) ht;show⟨t,_,rfl,.of qb,rfl,_,_,rfl,_,_,rfl,rfl,?_⟩;generalize upd J t (.tup [.bl u,.bl v])=J3 at ah;apply zZ ?_;apply .inl ⟨rfl,rfl,?_⟩;show⟨by rw[ya,YR];show qi (by lk),ah,?_⟩
     have al:v=!u:=by
      rw[e1,U];rcases Xu i with z | z
      .rw [z,yB (by lk)];rfl
      .rw [z,yl (by lk)];rfl
     rw[List.replicate_succ',yu,al];cases u<;>rfl
    .obtain⟨sJ,rfl⟩:=m;rw[show(bs.tail.map V.bl).length=bs.length-1 by rw[ya,Xf]];show⟨by rw[ya,YR];show yW (qi (by lk)),fun e he=>?_⟩;have s6:=qG (s5.trans sJ) (o:=.lst ((List.replicate (bs.length-1) true).map V.bl)) he;have ee:upd J e (.lst ((List.replicate (bs.length-1) true).map V.bl)) e=some (.lst ((List.replicate (bs.length-1) true).map V.bl)):=qb;generalize upd J e (.lst ((List.replicate (bs.length-1) true).map V.bl))=J6 at s6 ee;apply⟨e,_,rfl,SqL.of ee,?_⟩;rw[qgw (fun b X=>(List.mem_replicate.mp X).2)];show q J6 s6
theorem ok_ir(F:Fun K "is_row" "is_row" qbq f fd)(T:Txt K mg cc cw)(m:DefOk P w K mg base CX0 9 "partners_in" ["web","pairs"] (spPn cw))(n:DefOk P w K mg base CX0 4 "are_unlike_places" ["web","thing"] (spUl cw))(s:DefOk P w K mg base CX0 8 "goes_by_turns" ["web","partners","names"] (spGt cw)):FnOk P w K mg base CX0 10 f fd ["web","pairs","thing"] (spIr cw):=by
 show F.ok uG fun _ _ _ _ H vs Q E c h=>?_
 .obtain⟨x,l,a,ss,ns,us,tps,qs,rs,rfl,R,q⟩:=h;have u:=jV c;have G:=R.rok;have t:=G.two;show⟨_,(qc (qk (i:=3) uG.nd rfl (yJ rfl) (qp m (hmR c) qB (qa (pv 0) (qa (pv 1) qd))))
 (qc (qP (PW.pt (zK (qZ (qU (qp n (hmR c) qB (qa (pv 0) (qa (pv 2) qd))))) (zE (qj qep (qr (jY (K:=K) rfl) rfl T.b_len YQ (qa (pv 2) qd)) qg (qA _))))) (qe (qm js)) qy)
 (qe (qm (qp s (hmR c) qB (qa (pv 0) (qa (pv 3) (qa (pv 2) qd)))))))),?_⟩
  apply⟨x,l,ss,ns,us,tps,qs,rfl,R.web,R.adj,R.prs,R.pgo,fun d H1 e p o=>?_⟩;apply⟨x,a,ss,ns,rs,rfl,R.web.same e,e _ _ R.row,G.nd,G.few,G.inn,fun H2 g=>?_⟩;have b:=e.trans g;apply yq ?_;apply .inl ⟨_,.inl (SqL.of (b _ _ R.row)),?_⟩;rw[ya];apply qL (fun h=>absurd (yk h) (by lk)) fun _=>?_;apply⟨x,l,d,a,ss,ns,us,tps,qs,rs,rfl,R.same b,g _ _ o,fun j r=>q j (b.trans r)⟩
theorem qfE{t:Addr}{n:Str}{Q:VK}(e:H t=some (.tup [.non,.str n]))(q:Q (.bl true) H):qem K false .non (.ref t) H Q:=
 .inl ⟨t,_,rfl,.inr (SqT.of e),rfl,rfl,q⟩
theorem ok_ct(F:Fun K "can_turn" "can_turn" qax f fd)(T:Txt K mg cc cw)(I:DefOk P w K mg base CX0 9 "partners_in" ["web","pairs"] (spPn cw))(J:DefOk P w K mg base CX0 10 "is_row" ["web","pairs","thing"] (spIr cw)):FnOk P w K mg base CX0 11 f fd ["web","pairs","thing"] (spIr cw):=by
 show F.ok KO fun _ _ _ _ H vs Q E u h=>?_
 .obtain⟨x,l,a,ss,ns,us,tps,qs,rs,rfl,R,q⟩:=h;have b:=jV u;have G:=R.rok;have W:=G.two;show⟨_,(qc (qP (qZ (qU (qp J (hmR u) qB (qa (pv 0) (qa (pv 1) (qa (pv 2) qd)))))) (qe (qm js)) qy)
 (qc (qk (i:=3) KO.nd rfl (yJ rfl) (qp I (hmR u) qB (qa (pv 0) (qa (pv 1) qd))))
 (qc (qk (i:=4) KO.nd rfl (yJ rfl) (qaS (qgr b) (pv 3) (qu (qv (K:=K) rfl b) (pv 2) qg (fun _ _=>rfl)) ⟨rfl,rfl,rfl,rfl⟩))
 (qc (qk (i:=5) KO.nd rfl (yJ rfl) (qaS (qgr b) (pv 3) (qu (qv (K:=K) rfl b) (pv 2) (qaO qaP qg) (fun _ _=>rfl)) ⟨rfl,rfl,rfl,rfl⟩))
 (qe (qm (qb1 (jD (zQ (K:=K) rfl b) (pv 4) (jO (qa qaF (qa (qu (qv (K:=K) rfl b) (pv 2) qg (fun _ _=>rfl)) qd))) (by with_unfolding_all rfl)) (qb0 (jD (zQ (K:=K) rfl b) (pv 5) (jO (qa qaF (qa (qu (qv (K:=K) rfl b) (pv 2) (qaO qaP qg) (fun _ _=>rfl)) qd))) (by with_unfolding_all rfl)))))))))),?_⟩
  apply⟨x,l,a,ss,ns,us,tps,qs,rs,rfl,R,fun H1 z=>?_⟩;show⟨_,rfl,qL (fun h=>by cases h) fun _=>?_⟩;apply⟨x,l,ss,ns,us,tps,qs,rfl,R.web.same z,R.adj,R.prs.same z,R.pgo,fun d H2 S M p=>?_⟩;obtain⟨s,B⟩:∃ s,rs[0]?=some s:=⟨_,yb (by lk)⟩;obtain⟨g,L⟩:∃ g,rs[1]?=some g:=⟨_,yb (by lk)⟩;obtain⟨r,D⟩:∃ r,rs[rs.length-1]?=some r:=⟨_,yb (by lk)⟩;obtain⟨m1,O⟩:∃ m1,rs[rs.length-2]?=some m1:=⟨_,yb (by lk)⟩;have m:=z.trans S;have C:=R.row;have c:=m _ _ C;have at_:∀{j:Nat} {n:Str},rs[j]?=some n->(rs.map V.str)[j]?=some (.str n):=fun e=>by rw[yd,e];rfl
  have back:∀{j:Nat} {n:Str},1<=j->j<=rs.length->rs[rs.length-j]?=some n->atI (rs.map V.str) (-(j:Int))=some (.str n):=fun l1 l2 e=>atI_back l1 (by rw[ya];show l2) (by rw[ya];show at_ e);apply qcV ?_;apply⟨d,rfl,.inl ⟨_,.inl p⟩,?_⟩;apply .inl (zN c (v:=.str s) (qt (j:=0) (at_ B)) ?_);show⟨_,DGet.k (k:=Sum.inr s) p,?_⟩;rw[jH,G.hd _ B];apply qcV ?_;apply⟨d,rfl,.inl ⟨_,.inl p⟩,?_⟩;apply⟨1,rfl,?_⟩;show .inl (zN c (v:=.str r) (back (j:=1) (by decide) (by lk) D) ?_);show⟨_,DGet.k (k:=Sum.inr r) p,?_⟩;rw[jH,G.tl _ D];apply .inl (zN c (v:=.str g) (qt (j:=1) (at_ L)) ?_);apply⟨by show 2<=sizeLine;decide,fun t N=>qfE qb ?_⟩;have A:=qG m (o:=.tup [.non,.str g]) N;generalize upd H2 t (.tup [.non,.str g])=U at A;show⟨_,rfl,zZ ?_⟩;apply⟨2,rfl,?_⟩;show .inl (zN (A _ _ C) (v:=.str m1) (back (j:=2) (by decide) (by lk) O) ?_);apply⟨by show 2<=sizeLine;decide,fun X y=>qfE qb (q _ (qG A y))⟩
theorem ud:FnScope ["web","pairs","row","partners","steps"] ["web","pairs","row"] (qh qa4):=fS
noncomputable def qeU(rs:LS):LP:=stp rs++(stp rs).map fun q=>(q.2,q.1)
noncomputable def flT(a qs:LP)(rs:LS):LP:=a.filter fun q=>decide (pt qs q.1=some q.2) != decide (q∈qeU rs)
inductive spTu(cw:Addr)(vs:List V)(H:Hp)(Q:VK)(E:XK):Prop|mk (x l a:Addr) (ss:LS) (ns:LN) (us:LX) (tps qs:LP) (rs:LS) (_:vs=[.ref x,.ref l,.ref a]) (_:Rw cw H x l a ss ns us tps qs rs) (_:∀(l:Addr) (ls:LX) (H':Hp),L2.Same H H'->H l=none->H' l=some (.lst (ls.map V.ref))->ls.length<=196->All2 (PrAt H H' l) ls (flT (qE ss ns ss.length) qs rs)->Q (.ref l) H')
theorem All2.app9{R:α->β->Prop}{l1 l2:List α}{m1 m2:List β}(a:All2 R l1 m1)(b:All2 R l2 m2):All2 R (l1++l2) (m1++m2):=by
 show⟨by rw[yt,yt,a.len,b.len],fun k x y c d=>?_⟩;by_cases e:k<l1.length
 .rw [Yg e] at c;rw[Yg (by rw[<- a.len];show e)] at d;show a.at_ k x y c d
 .rw [yP (by lk)] at c;rw[yP (by rw[<- a.len];lk),<- a.len] at d;show b.at_ _ x y c d
theorem cat_W{a b:Addr}{Q:VK}(c:G a=some (.lst xs))(d:G b=some (.lst ys))(hl:xs.length+ys.length<=2000)(q:∀ p,G p=none->Q (.ref p) (upd G p (.lst (xs++ys)))):qef K (.ref a) (.ref b) G Q:=.inl ⟨a,b,_,_,rfl,rfl,c,d,yi hl (by decide),q⟩
theorem ok_tu(F:Fun K "turned" "turned" qa4 f fd)(T:Txt K mg cc cw)(Kd:DefOk P w K mg base CX0 9 "partners_in" ["web","pairs"] (spPn cw))(KI:MethOk P w K mg base CX0 7 cw "ties" ["self"] (spTs cw))(u7:DefOk P w K mg base CX0 11 "can_turn" ["web","pairs","thing"] (spIr cw)):FnOk P w K mg base CX0 12 f fd ["web","pairs","row"] (spTu cw):=by
 show F.ok ud fun _ _ _ _ H vs Q E hr h=>?_
 .obtain⟨x,pl,a,ss,ns,ps,tps,qs,rs,rfl,R,q⟩:=h;have u:=jV hr;obtain⟨wx,dd,ol,nn,hb,_⟩:=id R.web;have ha:=R.row;have ah:=R.rok.few;have h2:=R.rok.two;show⟨_,(qc (qP (qZ (qU (qp u7 (hmR hr) qB (qa (pv 0) (qa (pv 1) (qa (pv 2) qd)))))) (qe jo) qy)
 (qc (qk (i:=3) ud.nd rfl (Xm rfl) (qp Kd (hmR hr) qB (qa (pv 0) (qa (pv 1) qd))))
 (qc (qk (i:=4) ud.nd rfl (Xm rfl) (qw (j8 (K:=K) rfl) (qdk (K:=K) rfl rfl rfl rfl T.b_list T.b_zip (qa (pv 2) (qa (jE (qeF (K:=K) rfl) (pv 2) (jQ qg) zm) qd))) (qdk (K:=K) rfl rfl rfl rfl T.b_list T.b_zip (qa (jE (qeF (K:=K) rfl) (pv 2) (jQ qg) zm) (qa (pv 2) qd)))))
 (qe (qm (q9 (sc:=qh qa4) (XN:=["web","pairs","row","partners","steps"]) ["tie","steps","partners"] 1 [4,3] rfl rfl rfl (by room) rfl (by room)
  (qS (K:=K) rfl (jd KI (hmR hr) (pv 0))) (fun _ _ _ _=>(qo (i:=0) (show(["tie","steps","partners"]:LS).Nodup by room) rfl (yJ rfl))) qR
  (fun _ _ _ _=>(qV (qj (qaJ (K:=K) rfl u) (jD (j6 (K:=K) rfl u) (qaS (qgr u) (pv 2) (qu (qv (K:=K) rfl u) (pv 0) qg (fun _ _=>rfl)) ⟨rfl,rfl,rfl,rfl⟩) (qu (qv (K:=K) rfl u) (pv 0) qg (fun _ _=>rfl)) (qA _)) (jD (zQ (K:=K) rfl u) (pv 0) (pv 1) (by with_unfolding_all rfl)) (qA _))))
  (fun _ _ _ _=>(pv 0)))))))),?_⟩
  apply⟨x,pl,a,ss,ns,ps,tps,qs,rs,rfl,R,fun H1 s1=>?_⟩;show⟨_,rfl,qL (fun h=>by cases h) fun _=>?_⟩;apply⟨x,pl,ss,ns,ps,tps,qs,rfl,R.web.same s1,R.adj,R.prs.same s1,R.pgo,fun d H2 s2 ai hd=>?_⟩;have N:=s1.trans s2;have n:=N _ _ ha;apply vLZ ?_;apply .inl ⟨a,_,rfl,SqL.of n,fun Z ac=>?_⟩;rw[qbr,<- kF];have t1:=qG (Sr H2) (o:=.lst (rs.tail.map V.str)) ac;have A:upd H2 Z (.lst (rs.tail.map V.str)) Z=some (.lst (rs.tail.map V.str)):=qb;generalize upd H2 Z (.lst (rs.tail.map V.str))=G1 at t1 A;apply⟨a,Z,_,_,rfl,SqL.of (t1 _ _ n),SqL.of A,by rw[ya];show ah,fun l1 b G2 Z1=>?_⟩;have t2:=t1.trans Z1.sm;apply vLZ ?_;apply .inl ⟨a,_,rfl,SqL.of (t2 _ _ n),fun c2 ad=>?_⟩;rw[qbr,<- kF];have t3:=qG (Sr G2) (o:=.lst (rs.tail.map V.str)) ad;have B:upd G2 c2 (.lst (rs.tail.map V.str)) c2=some (.lst (rs.tail.map V.str)):=qb;generalize upd G2 c2 (.lst (rs.tail.map V.str))=G3 at t3 B;have S:=t2.trans t3;apply⟨c2,a,_,_,rfl,SqL.of B,SqL.of (S _ _ n),by rw[ya,Xf];lk,fun l2 c G4 Y=>?_⟩;have t4:=S.trans Y.sm;have U:=t3.trans Y.sm
  have A1:=qeT (qs:=stp rs) Z1 (by rw[qaL,Xf];lk) fun j q e=>by
   obtain⟨X,z2⟩:=stp_at.mp e;show⟨X,by rw[Xi];show z2⟩
  have A2:=qeT (qs:=(stp rs).map fun q=>(q.2,q.1)) Y (by rw[ya,qaL,Xf];lk) fun j q e=>by
   rw[yd] at e;obtain⟨q',e',rfl⟩:=yn.mp e;obtain⟨X,z2⟩:=stp_at.mp e';show⟨by rw[Xi];show z2,X⟩
  have ak:b.length<=1000:=by rw[A1.len,qaL];lk
  have al:c.length<=1000:=by rw[A2.len,ya,qaL];lk
  show cat_W (U _ _ Z1.ls) Y.ls (by rw[ya,ya,A1.len,A2.len,ya,qaL];lk) fun st ag=>?_;have t5:=qG (Sr G4) (o:=.lst (b.map V.ref++c.map V.ref)) ag;have C:upd G4 st (.lst (b.map V.ref++c.map V.ref)) st=some (.lst (b.map V.ref++c.map V.ref)):=qb;generalize upd G4 st (.lst (b.map V.ref++c.map V.ref))=G5 at t5 C;have W:=t4.trans t5;have aa:PL G5 st (b++c) (qeU rs):=⟨by rw[yu];show C,All2.app9 (A1.mono fun _ _ z=>(U.trans t5) _ _ z) (A2.mono fun _ _ z=>t5 _ _ z)⟩;have p:=N.trans W;have ae:=W _ _ hd;apply⟨x,wx,_,rfl,p _ _ hb,j0 (by room),?_⟩;apply⟨x,ss,ns,rfl,R.web.same p,fun l ts G6 s6 aj hl af r=>?_⟩;have O:=p.trans s6;have L:=s6 _ _ ae;have D:=aa.same s6;show .inl ⟨⟨_,.of hl⟩,qH (xs:=ts.map V.ref) (fun i ys G=>G=G6/\∃ us:LX,ys=us.map V.ref/\us.length<=i/\All2 (fun t ab=>G5 t=none/\G6 t=some (.tup [.str ab.1,.str ab.2])) us (flT ((qE ss ns ss.length).take i) qs rs)) ⟨rfl,[],rfl,yh _,.nil⟩ (fun i ys G _ m=>by rw[m.1];show .of hl) (fun i y ys G hy m=>?_) fun ys G m=>?_⟩
  .obtain⟨rfl,us,rfl,M,I⟩:=m;rw[yd] at hy;obtain⟨t,ht,rfl⟩:=yn.mp hy;have hi:i<ts.length:=(yc.mp ht).1;obtain⟨ab,J⟩:∃ ab,(qE ss ns ss.length)[i]?=some ab:=⟨_,yb (by rw[<- r.len];show hi)⟩;obtain⟨X,z2,z3⟩:=r.at_ i t ab ht J
   have s:flT ((qE ss ns ss.length).take (i+1)) qs rs=flT ((qE ss ns ss.length).take i) qs rs++(if (decide (pt qs ab.1=some ab.2) != decide (ab∈qeU rs))=true then [ab] else []):=by
    unfold flT;rw[yM,J,yV];show _++[ab].filter _=_;rw[yK,Yx]
   apply qcV ?_;apply⟨d,rfl,.inl ⟨_,.inl L⟩,?_⟩;apply .inl (zO z3 (v:=.str ab.1) (qt (j:=0) rfl) ?_);show⟨_,DGet.k (k:=Sum.inr ab.1) L,?_⟩;rw[jH];apply .inl (zO z3 (v:=.str ab.2) (qt (j:=1) rfl) ?_);show qfX ?_;apply pl_in D z3 ?_;show .inl ⟨rfl,rfl,?_⟩;have eb:eqV (.bl (decide (pt qs ab.1=some ab.2))) (.bl (decide ((ab.1,ab.2)∈qeU rs)))=(decide (pt qs ab.1=some ab.2)==decide (ab∈qeU rs)):=rfl;rw[yG rfl,eb,s];show⟨_,rfl,?_⟩;show if (decide (pt qs ab.1=some ab.2) != decide (ab∈qeU rs))=true then _ else _
   cases am:(decide (pt qs ab.1=some ab.2) != decide (ab∈qeU rs)) with
   | true =>
    show zZ ?_;rw[yG rfl];apply⟨by rw[ya];show qi (by lk),rfl,us++[t],by rw[yu];rfl,by rw[yt];simp;lk,I.snoc ⟨X,z3⟩⟩
   | false =>
    show yq ?_;rw[yA (by decide),Yh];show⟨rfl,us,rfl,by lk,I⟩
  .obtain⟨rfl,us,rfl,M,I⟩:=m;have e:(ts.map V.ref).length=(qE ss ns ss.length).length:=by rw[ya,r.len]
   rw[e,yS] at I;rw[ya] at M;show⟨by rw[ya];show yW (qi (by lk)),fun g hg=>?_⟩;have s7:=qG O (o:=.lst (us.map V.ref)) hg;show q g us _ s7 (O.free hg) qb (by lk) (I.mono fun t ab z=>⟨p.free z.1,(fun e=>by rw[e,hg] at z;cases z.2),by rw[qf (fun e=>by rw[e,hg] at z;cases z.2)];show z.2⟩)
def adjR(rs:LS)(a b:Str):Prop:=∃ j:Nat,(rs[j]?=some a/\rs[j+1]?=some b)\/(rs[j]?=some b/\rs[j+1]?=some a)
theorem adjR.symm(h:adjR rs a b):adjR rs b a:=h.elim fun j z=>⟨j,z.symm⟩
theorem adjR.mem(h:adjR rs a b):a∈rs/\b∈rs:=h.elim fun j z=>z.elim (fun y=>⟨ye y.1,ye y.2⟩) fun y=>⟨ye y.2,ye y.1⟩
structure TurnR(f:Str->Option Str)(rs:LS):Prop where
 nd:rs.Nodup
 two:2<=rs.length
 sym:∀ a b,f a=some b->f b=some a
 alt:∀(j:Nat) r s t,rs[j]?=some r->rs[j+1]?=some s->rs[j+2]?=some t->(f s=some r↔¬ f s=some t)
 fst:∀ s t,rs[0]?=some s->rs[1]?=some t->f s=none\/f s=some t
 lst:∀ s t,rs[rs.length-1]?=some s->rs[rs.length-2]?=some t->f s=none\/f s=some t
theorem TurnR.near{f:Str->Option Str}(h:TurnR f rs)(n:a∈rs)(c:f a=some b):adjR rs a b:=by
 obtain⟨i,d⟩:=yf n;have o:i<rs.length:=(yc.mp d).1;have p:=h.two;by_cases m:i=0
 .subst m;obtain⟨t,e⟩:∃ t,rs[1]?=some t:=⟨_,yb (by lk)⟩;rcases h.fst a t d e with z | z
  .rw [z] at c;cases c
  .rw [c] at z;cases z;show⟨0,.inl ⟨d,e⟩⟩
 .by_cases hl:i=rs.length-1
  .obtain⟨t,e⟩:∃ t,rs[rs.length-2]?=some t:=⟨_,yb (by lk)⟩;rcases h.lst a t (by rw[<- hl];show d) e with z | z
   .rw [z] at c;cases c
   .rw [c] at z;cases z;show⟨rs.length-2,.inr ⟨e,by rw[show rs.length-2+1=i by lk];show d⟩⟩
  .obtain⟨r,l⟩:∃ r,rs[i-1]?=some r:=⟨_,yb (by lk)⟩;obtain⟨t,e⟩:∃ t,rs[i+1]?=some t:=⟨_,yb (by lk)⟩;have g:i-1+1=i:=by lk
   have j:i-1+2=i+1:=by lk
   have:=h.alt (i-1) r a t l (by rw[g];show d) (by rw[j];show e);by_cases z:f a=some t
   .rw [c] at z;cases z;show⟨i,.inl ⟨d,e⟩⟩
   .have z:=this.mpr z;rw[c] at z;cases z;show⟨i-1,.inr ⟨l,by rw[g];show d⟩⟩
def flipR(f:Str->Option Str)(rs:LS)(a b:Str):Prop:=(a∉rs/\f a=some b)\/(adjR rs a b/\f a≠some b)
theorem TurnR.xor{f:Str->Option Str}(h:TurnR f rs):flipR f rs a b↔¬ (f a=some b↔adjR rs a b):=by
 unfold flipR;constructor
 .rintro (⟨h1,c⟩ | ⟨h1,c⟩) e
  .show h1 (e.mp c).mem.1
  .show c (e.mpr h1)
 .intro e;by_cases h1:f a=some b
  .show .inl ⟨fun d=>e ⟨fun _=>h.near d h1,fun _=>h1⟩,h1⟩
  .by_cases c:adjR rs a b
   .show .inr ⟨c,h1⟩
   .show absurd ⟨fun z=>absurd z h1,fun z=>absurd z c⟩ e
theorem flipR.symm{f:Str->Option Str}(h:TurnR f rs)(e:flipR f rs a b):flipR f rs b a:=by
 rcases e with⟨h1,c⟩ | ⟨h1,c⟩
 .show .inl ⟨fun d=>?_,h.sym _ _ c⟩;show h1 (h.near d (h.sym _ _ c)).mem.2
 .show .inr ⟨h1.symm,fun z=>c (h.sym _ _ z)⟩
theorem adjR.at_(nd:rs.Nodup)(d:rs[i]?=some a)(h:adjR rs a b):rs[i+1]?=some b\/(1<=i/\rs[i-1]?=some b):=by
 obtain⟨j,⟨h1,c⟩ | ⟨h1,c⟩⟩:=h
 .have:=qz nd d h1;subst this;show .inl c
 .have:=qz nd d c;subst this;show .inr ⟨by lk,by simpa using h1⟩
theorem flipR.one{f:Str->Option Str}(h:TurnR f rs)(p:flipR f rs a b)(o:flipR f rs a c):b=c:=by
 rcases p with⟨h1,j⟩ | ⟨h1,j⟩
 .rcases o with⟨e,d⟩ | ⟨e,d⟩
  .rw [j] at d;show ym d
  .show absurd e.mem.1 h1
 .rcases o with⟨e,d⟩ | ⟨e,d⟩
  .show absurd h1.mem.1 e
  .obtain⟨i,l⟩:=yf h1.mem.1
   have g:∀{b c:Str},rs[i+1]?=some b->1<=i->rs[i-1]?=some c->f a≠some b->f a≠some c->False:=fun r q hc s t=>by
    have m:i-1+1=i:=by lk
    have n:i-1+2=i+1:=by lk
    show t ((h.alt (i-1) _ a _ hc (by rw[m];show l) (by rw[n];show r)).mpr s)
   rcases h1.at_ h.nd l with z1 | ⟨l1,z1⟩<;>rcases e.at_ h.nd l with z2 | ⟨l2,z2⟩
   .rw [z1] at z2;show ym z2
   .show(g z1 l2 z2 j d).elim
   .show(g z2 l1 z1 d j).elim
   .rw [z1] at z2;show ym z2
theorem TurnR.again{f:Str->Option Str}(h:TurnR f rs)(l:∀ a b,g a=some b↔flipR f rs a b):TurnR g rs:=by
 have on:∀{a b:Str},adjR rs a b->(g a=some b↔¬ f a=some b):=fun i=>by
  rw[l,h.xor];constructor
  .show fun e z=>e ⟨fun _=>i,fun _=>z⟩
  .show fun e z=>e (z.mpr i)
 have only:∀{a b:Str},a∈rs->g a=some b->adjR rs a b:=fun p e=>by
  rcases(l _ _).mp e with⟨h1,_⟩ | ⟨h1,_⟩
  .show absurd p h1
  .show h1
 show⟨h.nd,h.two,fun a b e=>(l _ _).mpr (((l _ _).mp e).symm h),fun j r s t m c d=>?_,fun s t c d=>?_,fun s t c d=>?_⟩
 .have n:adjR rs s r:=⟨j,.inr ⟨m,c⟩⟩;have o:adjR rs s t:=⟨j+1,.inl ⟨c,d⟩⟩;rw[on n,on o,h.alt j r s t m c d]
 .cases e:g s with
  | none=>show .inl rfl
  | some b =>
   have:=(only (ye c) e).at_ h.nd c;rcases this with z | ⟨z,_⟩
   .rw [d] at z;show .inr (by rw[<- e,e];show z.symm ▸ rfl)
   .omega
 .cases e:g s with
  | none=>show .inl rfl
  | some b =>
   have q:=h.two;have:=(only (ye c) e).at_ h.nd c;rcases this with z | ⟨_,z⟩
   .have:=(yc.mp z).1;lk
   .rw [show rs.length-1-1=rs.length-2 by lk,d] at z;show .inr (by rw[<- z])
theorem TurnR.inner{f:Str->Option Str}(h:TurnR f rs)(d:0<i)(h1:i+1<rs.length)(b:rs[i]?=some s):(f s).isSome=true:=by
 obtain⟨r,a⟩:∃ r,rs[i-1]?=some r:=⟨_,yb (by lk)⟩;obtain⟨t,c⟩:∃ t,rs[i+1]?=some t:=⟨_,yb h1⟩;have:=h.alt (i-1) r s t a (by rw[show i-1+1=i by lk];show b) (by rw[show i-1+2=i+1 by lk];show c)
 cases e:f s with
 | some _=>rfl
 | none =>
  rw[e] at this;have:=this.mpr (fun z=>by cases z);cases this
theorem qdV{f:Str->Option Str}(h:TurnR f rs)(e:∀ a b,g a=some b↔flipR f rs a b)(c:adjR rs a t)(i:f a=none\/f a=some t)(d:g a=none\/g a=some t):(g a).isSome=!(f a).isSome:=by
 rcases i with z | z
 .rw [(e a t).mpr (.inr ⟨c,by rw[z];show fun y=>by cases y⟩),z];rfl
 .rcases d with y | y
  .rw [y,z];rfl
  .show absurd ⟨fun _=>c,fun _=>z⟩ (h.xor.mp ((e a t).mp y))
theorem qeV{f:Str->Option Str}(h:TurnR f rs)(j:rs[0]?=some a)(g:rs[rs.length-1]?=some b):(rs.filter fun s=>(f s).isSome).length+2=rs.length+(if (f a).isSome then 1 else 0)+(if (f b).isSome then 1 else 0):=by
 have d:=h.two
 obtain⟨m,n⟩:∃ m,rs=a::(m++[b]):=by
  match rs,j,g,d with
  | x::r,j,g,d =>
   have u:x=a:=ym j;have q:r≠[]:=fun z=>by rw[z] at d;simp at d
   show⟨r.dropLast,?_⟩
   have e:r.getLast q=b:=by
    have hl:0<r.length:=List.length_pos_iff.mpr q;rw[show(x::r).length-1=r.length-1+1 by simp;lk,List.getElem?_cons_succ] at g;rw[List.getLast_eq_getElem];show(yc.mp g).2
   rw[u,<- e,xt]
 have o:rs.length=m.length+2:=by rw[n];simp
 have c:(m.filter fun s=>(f s).isSome)=m:=ke.mpr fun s t=>by
  obtain⟨i,p⟩:=yf t;have l:=(yc.mp p).1;show h.inner (i:=i+1) (by lk) (by lk) ?_;rw[n,List.getElem?_cons_succ,Yg l];show p
 rw[o,n,yK,yV,c,yK,Yx];cases (f a).isSome<;>cases (f b).isSome<;>simp<;>lk
theorem qc4(f:ss.Nodup)(i:rs.Nodup)(c:∀ s∈rs,s∈ss)(p:Str->Bool):(ss.filter p).length=(rs.filter p).length+(ss.filter fun s=>p s&&!decide (s∈rs)).length:=by
 have e:(rs.filter p).length=(ss.filter fun s=>p s&&decide (s∈rs)).length:=xH
  (qcw (i.filter _) fun s d=>by
   obtain⟨a,b⟩:=yp.mp d;show yp.mpr ⟨c s a,by rw[b,yB a];rfl⟩)
  (qcw (f.filter _) fun s d=>by
   obtain⟨a,b⟩:=yp.mp d;obtain⟨g,h⟩:=(yX _ _).mp b;show yp.mpr ⟨yk h,g⟩)
 rw[e];clear e f c
 induction ss with
 | nil=>rfl
 | cons x r ih =>
  rw[yK,yK,yK];cases p x<;>cases decide (x∈rs)<;>simp<;>lk
theorem qb9:∀{qs:LP},(∀ q∈qs,q.1≠q.2)->qs.Pairwise (fun q r=>q.1≠r.1/\q.1≠r.2/\q.2≠r.1/\q.2≠r.2)->(qx qs).Nodup
 | [],_,_=>List.nodup_nil
 | q::r,h,hp=>by
  obtain⟨j,l⟩:=ko.mp hp;have i:=qb9 (fun x f=>h x (yz _ f)) l;show(q.1::q.2::qx r).Nodup
  have out:∀ n∈qx r,q.1≠n/\q.2≠n:=fun n g=>by
   obtain⟨x,f,e⟩:=Y9.mp g;obtain⟨a,b,c,d⟩:=j x f;simp only[yy,Yb,YL] at e;rcases e with rfl | rfl
   .show⟨a,c⟩
   .show⟨b,d⟩
  show yo.mpr ⟨fun z=>?_,yo.mpr ⟨fun z=>(out _ z).2 rfl,i⟩⟩;rcases yy.mp z with z | z
  .show h q yO z
  .show(out _ z).1 rfl
theorem stpB_adj:(a,b)∈qeU rs↔adjR rs a b:=by
 unfold qeU adjR;rw[yC,yE];constructor
 .rintro (h | ⟨q,h,e⟩)
  .obtain⟨j,d⟩:=yf h;show⟨j,.inl (stp_at.mp d)⟩
  .obtain⟨j,d⟩:=yf h;cases e;show⟨j,.inr (stp_at.mp d)⟩
 .rintro ⟨j,⟨h1,c⟩ | ⟨h1,c⟩⟩
  .show .inl (ye (stp_at.mpr ⟨h1,c⟩))
  .show .inr ⟨(b,a),ye (stp_at.mpr ⟨h1,c⟩),rfl⟩
theorem flT_flip{d:LP}(h:TurnR (pt qs) rs):(a,b)∈flT d qs rs↔(a,b)∈d/\flipR (pt qs) rs a b:=by
 unfold flT;rw[yp,h.xor];show and_congr_right fun _=>?_;show(decide (pt qs a=some b) != decide ((a,b)∈qeU rs))=true↔_;by_cases h1:pt qs a=some b<;>by_cases c:(a,b)∈qeU rs
 .rw [yB h1,yB c];show⟨(fun z=>by cases z),fun z=>absurd ⟨fun _=>stpB_adj.mp c,fun _=>h1⟩ z⟩
 .rw [yB h1,yl c];show⟨fun _ z=>c (stpB_adj.mpr (z.mp h1)),fun _=>rfl⟩
 .rw [yl h1,yB c];show⟨fun _ z=>h1 (z.mpr (stpB_adj.mp c)),fun _=>rfl⟩
 .rw [yl h1,yl c];show⟨(fun z=>by cases z),fun z=>absurd ⟨fun y=>absurd y h1,fun y=>absurd (stpB_adj.mpr y) c⟩ z⟩
def tA(tps:LP)(a b:Str):Prop:=(a,b)∈tps\/(b,a)∈tps
theorem pt_some:s∈qx qs↔(pt qs s).isSome=true:=by
 cases e:pt qs s with
 | none=>show⟨fun z=>absurd z (pt_none.mp e),(fun z=>by cases z)⟩
 | some b=>show⟨fun _=>rfl,fun _=>Yj fun z=>by rw[pt_none.mpr z] at e;cases e⟩
structure PFn(ss:LS)(tps:LP)(f:Str->Option Str):Prop where
 sym:∀ a b,f a=some b->f b=some a
 tie:∀ a b,f a=some b->tA tps a b
noncomputable def qbk(f:Str->Option Str)(ss:LS):Nat:=(ss.filter fun s=>(f s).isSome).length
section
variable{ss:LS}{ns:LN}{tps qs:LP}{f g:Str->Option Str}
theorem PGo.fn(h:PGo ss tps qs):PFn ss tps (pt qs):=⟨fun a b e=>(qeP h.nd).mp e,fun a b e=>by
 rcases qc3 e with z | z
 .show(h.inn _ z).1
 .show(h.inn _ z).1.symm⟩
theorem PGo.cnt(h:PGo ss tps qs)(c:ss.Nodup):2*qs.length=qbk (pt qs) ss:=by
 rw[<- zU];show xH (qcw h.nd fun s a=>yp.mpr ⟨?_,pt_some.mp a⟩) (qcw (c.filter _) fun s a=>pt_some.mpr (yp.mp a).2);obtain⟨q,b,a⟩:=Y9.mp a;simp only[yy,Yb,YL] at a;rcases a with rfl | rfl
 .show(h.inn q b).2.1
 .show(h.inn q b).2.2.1
theorem qa5:(snL f ss).length+qbk f ss=ss.length:=by
 unfold snL qbk
 induction ss with
 | nil=>rfl
 | cons x r ih =>
  rw[yK,yK];cases (f x).isSome
  .rw [yG (show(!false)=true from rfl),yA Ys,yF,yF];lk
  .rw [yA (show ¬ (!true)=true by decide),yG (show true=true from rfl),yF,yF];lk
theorem zn(hw:WOk ss ns)(p:Adj ss ns tps):(a,b)∈qE ss ns ss.length↔tA tps a b/\∃ i j:Nat,i<j/\ss[i]?=some a/\ss[j]?=some b:=by
 unfold qE;rw[Y9];constructor
 .rintro ⟨i,f,h⟩;have f:=Ym.mp f;obtain⟨s,l⟩:∃ s,ss[i]?=some s:=⟨_,yb f⟩;have d:ss.getD i ""=s:=by rw[Yi,l];rfl
  unfold qfm at h;rw[d] at h;obtain⟨o,u,e⟩:=yE.mp h;cases e;obtain⟨h1,c⟩:=yp.mp u;obtain⟨q,r⟩:=qdp hw.nd h1;have n:ss[ss.idxOf b]?=some b:=by rw[yb (Yc q),Yt]
  show⟨(p i _ _ _ l n).mp r,i,_,yk c,l,n⟩
 .rintro ⟨h,i,j,g,h1,c⟩;show⟨i,Ym.mpr (yc.mp h1).1,?_⟩;have d:ss.getD i ""=a:=by rw[Yi,h1];rfl
  have m:ss.idxOf b=j:=by
   have t:=ye c;show qz hw.nd (by rw[yb (Yc t),Yt]) c
  unfold qfm;rw[d];show yE.mpr ⟨b,yp.mpr ⟨?_,yB (by rw[m];show g)⟩,rfl⟩;rw[zF hw.nd];show yp.mpr ⟨ye c,by rw[m];show(p i j a b h1 c).mpr h⟩
theorem qeW(hw:WOk ss ns):(qE ss ns ss.length).Nodup:=by
 show List.pairwise_flatMap.mpr ⟨fun i _=>?_,?_⟩
 .unfold qfm;show YX.mpr ?_;have nd:((inB ss 0 (ns.getD i 0)).filter fun o=>decide (i<ss.idxOf o)).Nodup:=by rw[zF hw.nd];show(hw.nd.filter _).filter _
  show nd.imp fun c e=>c (Prod.mk.inj e).2
 .show xj (fun{i j} a b g q d r f e=>?_) (List.pairwise_lt_range (n:=ss.length));have a:=Ym.mp a;have b:=Ym.mp b;unfold qfm at d f;obtain⟨_,_,rfl⟩:=yE.mp d;obtain⟨_,_,rfl⟩:=yE.mp f;have e:=(Prod.mk.inj e).1;rw[Yi,Yi,yb a,yb b] at e;have:=qz hw.nd (yb a) (by rw[yb b];show congrArg some e.symm);lk
theorem qfF(hw:WOk ss ns)(A:Adj ss ns tps)(t:∀ ab∈tps,ab.1∈ss/\ab.2∈ss/\ab.1≠ab.2)(h:PFn ss tps g){L:LP}(f:∀ a b,(a,b)∈L↔(a,b)∈qE ss ns ss.length/\g a=some b)(H:L.Sublist (qE ss ns ss.length)):PGo ss tps L/\pt L=g:=by
 have mem:∀ q∈L,g q.1=some q.2/\tA tps q.1 q.2/\∃ i j:Nat,i<j/\ss[i]?=some q.1/\ss[j]?=some q.2:=fun q c=>by
  obtain⟨h1,G⟩:=(f q.1 q.2).mp c;show⟨G,(zn hw A).mp h1⟩
 have inn:∀{a b:Str},tA tps a b->a∈ss/\b∈ss/\a≠b:=fun z=>z.elim (fun y=>t _ y) fun y=>⟨(t _ y).2.1,(t _ y).1,(t _ y).2.2.symm⟩
 have nd:(qx L).Nodup:=by
  show qb9 (fun q c=>(inn (mem q c).2.1).2.2) (xj (fun{q r} c I n=>?_) (H.nodup (qeW hw)));obtain⟨d,_,i,j,l1,o,p⟩:=mem q c;obtain⟨x,_,J,K,l2,D,E⟩:=mem r I;have w:=h.sym _ _ d;have F:=h.sym _ _ x;show⟨fun z=>?_,fun z=>?_,fun z=>?_,fun z=>?_⟩
  .rw [z,x] at d;show n (Xb z (ym d).symm)
  .rw [z,F] at d;have e:=ym d;rw[z] at o;rw[<- e] at p;have:=qz hw.nd o E;have:=qz hw.nd p D;lk
  .rw [z,x] at w;have e:=ym w;rw[z] at p;rw[<- e] at o;have:=qz hw.nd o E;have:=qz hw.nd p D;lk
  .rw [z,F] at w;show n (Xb (ym w).symm z)
 have C:∀ q∈L,(q∈tps\/(q.2,q.1)∈tps)/\q.1∈ss/\q.2∈ss/\q.1≠q.2:=fun q c=>⟨(mem q c).2.1,inn (mem q c).2.1⟩
 have hl:L.length<=30:=by
  have:=qcw (l:=qx L) (m:=ss) nd fun s v=>by
   obtain⟨q,c,v⟩:=Y9.mp v;simp only[yy,Yb,YL] at v;rcases v with rfl | rfl
   .show(C q c).2.1
   .show(C q c).2.2.1
  rw[zU] at this;have:=hw.few;lk
 show⟨⟨C,nd,hl⟩,funext fun a=>qeQ fun b=>?_⟩;rw[qeO nd];constructor
 .rintro (z | z)
  .show((f _ _).mp z).2
  .show h.sym _ _ ((f _ _).mp z).2
 .intro e;obtain⟨m1,m2,ne⟩:=inn (h.tie _ _ e);obtain⟨i,B⟩:=yf m1;obtain⟨j,u⟩:=yf m2;rcases Xp i j with l | l | l
  .show .inl ((f _ _).mpr ⟨(zn hw A).mpr ⟨h.tie _ _ e,i,j,l,B,u⟩,e⟩)
  .subst l;rw[B] at u;show absurd (ym u) ne
  .show .inr ((f _ _).mpr ⟨(zn hw A).mpr ⟨(h.tie _ _ e).symm,j,i,l,u,B⟩,h.sym _ _ e⟩)
theorem tps_ok(hw:WOk ss ns)(c:Adj ss ns tps)(d:∀ ab∈tps,ab.1∈ss/\ab.2∈ss/\ab.1≠ab.2)(h:PGo ss tps qs):PGo ss tps (qbe (qE ss ns ss.length) qs)/\pt (qbe (qE ss ns ss.length) qs)=pt qs:=
 qfF hw c d h.fn (fun a b=>by unfold qbe;rw[yp,yI]) kf
end
theorem qeX{f:Str->Option Str}(h:TurnR f rs):∃ g:Str->Option Str,∀ a b,g a=some b↔flipR f rs a b:=
 ⟨fun a=>@dite _ (∃ b,flipR f rs a b) (Classical.propDecidable _) (fun z=>some z.choose) fun _=>none,fun a b=>by
  dsimp only;split
  .rename_i z
   show⟨fun e=>by rw[<- ym e];show z.choose_spec,fun e=>congrArg some (z.choose_spec.one h e)⟩
  .rename_i z
   show⟨(fun e=>by cases e),fun e=>absurd ⟨b,e⟩ z⟩⟩
section
variable{ss:LS}{tps qs:LP}{f g:Str->Option Str}{rs:LS}
theorem qeY(h:TurnR f rs)(i:PFn ss tps f)(d:∀ a b,adjR rs a b->tA tps a b)(c:∀ a b,g a=some b↔flipR f rs a b):PFn ss tps g:=
 ⟨fun a b e=>(c _ _).mpr (((c _ _).mp e).symm h),fun a b e=>((c _ _).mp e).elim (fun z=>i.tie _ _ z.2) fun z=>d _ _ z.1⟩
theorem qdW(h:TurnR f rs)(i:∀ a b,g a=some b↔flipR f rs a b)(q:ss.Nodup)(e:∀ s∈rs,s∈ss)(c:rs[0]?=some a)(d:rs[rs.length-1]?=some b):qbk g ss+2=qbk f ss+(if (f a).isSome then 0 else 2)+(if (f b).isSome then 0 else 2):=by
 have C:=h.two;have l:=h.again i;unfold qbk;rw[qc4 q h.nd e,qc4 (p:=fun s=>(f s).isSome) q h.nd e];have o:=qeV h c d;have j:=qeV l c d
 have B:(ss.filter fun s=>(g s).isSome&&!decide (s∈rs))=ss.filter fun s=>(f s).isSome&&!decide (s∈rs):=YB fun s _=>by
  by_cases z:s∈rs
  .rw [yB z];simp
  .have:g s=f s:=qeQ fun b=>by
    rw[i];show⟨fun y=>y.elim (fun x=>x.2) fun x=>absurd x.1.mem.1 z,fun y=>.inl ⟨z,y⟩⟩
   rw[this]
 rw[B];obtain⟨t,m⟩:∃ t,rs[1]?=some t:=⟨_,yb (by lk)⟩;obtain⟨u,n⟩:∃ u,rs[rs.length-2]?=some u:=⟨_,yb (by lk)⟩;have r:=qdV h i ⟨0,.inl ⟨c,m⟩⟩ (h.fst a t c m) (l.fst a t c m);have v:=qdV h i (a:=b) (t:=u) ⟨rs.length-2,.inr ⟨n,by rw[show rs.length-2+1=rs.length-1 by lk];show d⟩⟩ (h.lst b u d n) (l.lst b u d n);rw[r,v] at j;generalize (rs.filter fun s=>(g s).isSome).length=D at j ⊢;generalize (rs.filter fun s=>(f s).isSome).length=E at o ⊢;cases w:(f a).isSome<;>cases A:(f b).isSome<;>rw[w,A] at o j<;>simp at o j ⊢<;>lk
theorem qca(c:∀ a b,f a=some b->f b=some a)(nd:rs.Nodup)(d:2<=rs.length)(st:Turns A f rs)(h:∀ s,rs[0]?=some s->f s=none)(tl:∀ s t,rs[rs.length-1]?=some s->rs[rs.length-2]?=some t->f s=none\/f s=some t):TurnR f rs:=by
 show⟨nd,d,c,fun j r s t i h1 l=>?_,fun s t h1 _=>.inl (h s h1),tl⟩;have e:=(st j r s i h1).2;have g:=(st (j+1) s t h1 l).2;have:f s=some r↔f r=some s:=⟨fun z=>c _ _ z,fun z=>c _ _ z⟩;rw[this,e,g];lk
theorem qc5(st:Turns (tA tps) f rs):∀ a b,adjR rs a b->tA tps a b:=fun a b h=>by
 obtain⟨j,⟨h1,c⟩ | ⟨h1,c⟩⟩:=h
 .show(st j _ _ h1 c).1
 .show(st j _ _ h1 c).1.symm
theorem Aug.row(h:Aug (tA tps) (pt qs) rs)(hl:rs.length<=1000)(c:∀ ab∈tps,ab.1∈ss/\ab.2∈ss/\ab.1≠ab.2):RowG ss tps qs rs:=by
 show⟨h.nd,h.two,hl,fun r n=>?_,fun j ab e=>?_,h.hd,h.tl⟩
 .obtain⟨i,d⟩:=yf n;have m:=(yc.mp d).1;have q:=h.two;have inn:∀{a b:Str},tA tps a b->a∈ss/\b∈ss:=fun z=>z.elim (fun y=>⟨(c _ y).1,(c _ y).2.1⟩) fun y=>⟨(c _ y).2.1,(c _ y).1⟩;by_cases l:i+1<rs.length
  .show(inn (h.st i r _ d (yb l)).1).1
  .show(inn (h.st (i-1) _ r (yb (by lk)) (by rw[show i-1+1=i by lk];show d)).1).2
 .obtain⟨f,g⟩:=stp_at.mp e;obtain⟨o,p⟩:=h.st j _ _ f g;show⟨o,Yq.mpr p⟩
theorem Aug.turn(h:Aug (tA tps) (pt qs) rs)(c:∀ a b,pt qs a=some b->pt qs b=some a):TurnR (pt qs) rs:=
 qca c h.nd h.two h.st h.hd fun s t e _=>.inl (h.tl s e)
theorem qeZ(hw:WOk ss ns)(n:Adj ss ns tps)(f:∀ ab∈tps,ab.1∈ss/\ab.2∈ss/\ab.1≠ab.2)(e:PGo ss tps qs)(h:Aug (tA tps) (pt qs) rs)(hl:rs.length<=1000):PGo ss tps (flT (qE ss ns ss.length) qs rs)/\(flT (qE ss ns ss.length) qs rs).length=qs.length+1:=by
 have c:=h.turn e.fn.sym;obtain⟨g,d⟩:=qeX c;obtain⟨l,o⟩:=qfF hw n f (qeY c e.fn (qc5 h.st) d) (L:=flT (qE ss ns ss.length) qs rs) (fun a b=>by rw[flT_flip c,d]) kf;show⟨l,?_⟩;have p:=e.cnt hw.nd;have m:=l.cnt hw.nd;rw[o] at m;have q:=h.two;obtain⟨a,i⟩:∃ t,rs[0]?=some t:=⟨_,yb (by lk)⟩;obtain⟨b,j⟩:∃ t,rs[rs.length-1]?=some t:=⟨_,yb (by lk)⟩;have:=qdW c d hw.nd (h.row hl f).inn i j;rw[h.hd a i,h.tl b j] at this;simp at this;lk
end
theorem Kl:FnScope ["web","pairs","now","rows","row"] ["web","pairs"] (qh jJ):=fS
def MxF(ss:LS)(tps qs:LP):Prop:=∃ S:FS,Fn (tA tps) (pt qs) S ss
structure Wt(cw:Addr)(H:Hp)(x:Addr)(ss:LS)(ns:LN)(tps:LP):Prop where
 web:WebAt cw H x ss ns
 adj:Adj ss ns tps
 ok:∀ ab∈tps,ab.1∈ss/\ab.2∈ss/\ab.1≠ab.2
theorem Wt.same(h:Wt cw H x ss ns tps)(s:L2.Same H H'):Wt cw H' x ss ns tps:=⟨h.web.same s,h.adj,h.ok⟩
theorem Wt.wok(h:Wt cw H x ss ns tps):WOk ss ns:=by obtain⟨_,_,_,_,_,_,_,_,z⟩:=h.web;show z
theorem Wt.wb(h:Wt cw H x ss ns tps)(g:PGo ss tps qs):Wb (tA tps) ss qs:=by
 show⟨⟨fun z=>Or.symm z,fun z e=>?_,fun{a b} e=>g.fn.sym a b e,fun{a b} e=>g.fn.tie a b e⟩,fun a b z=>z.elim (fun y=>(h.ok _ y).1) fun y=>(h.ok _ y).2.1,g.nd,h.wok.few,h.wok.nd⟩;rcases z with z | z
 .show(h.ok _ z).2.2 e
 .show(h.ok _ z).2.2 e.symm
theorem Wt.bes(h:Wt cw H x ss ns tps):∀(j:Nat) z u,ss[j]?=some z->(u∈inB ss 0 (ns.getD j 0)↔tA tps z u):=fun j z u e=>by
 rw[zF h.wok.nd,yp];constructor
 .rintro ⟨h1,b⟩;show(h.adj j _ z u e (by rw[yb (Yc h1),Yt])).mp b
 .intro t;have a:u∈ss:=t.elim (fun y=>(h.ok _ y).2.1) fun y=>(h.ok _ y).1;show⟨a,(h.adj j _ z u e (by rw[yb (Yc a),Yt])).mpr t⟩
theorem qgx{c:Addr}{a:Fo}(h:FoD c cw H0 H a ss ns qs S dn wt .non (tA tps))(W:Wb (tA tps) ss qs):Fn (tA tps) (pt qs) S ss:=by
 rcases h.en with⟨_,rfl,I,C,sg⟩ | ⟨t,r,e,_⟩
 .have b:∀ v,v∈dn↔S.rows v≠none:=fun v=>by have:=h.fo.evi v;rwa[Yh] at this
  show⟨I,W.gr,W.inn,W.nd,fun v u hv d=>(C.cl v u ((b v).mpr hv) d).imp id fun z=>⟨z.1,Yj fun y=>z.2 ((b u).mpr y)⟩,sg,fun v hv=>h.fo.evs v ((h.fo.evi v).mpr hv)⟩
 .cases e
def FiR(ss:LS)(ns:LN)(qs:LP)(o:Option (LS)):Prop:=∃ S,GwR qs ss ns (SI qs ss) (sgL qs ss) S o
theorem FiR.det{o:Option (LS)}(h:FiR ss ns qs o)(g:FiR ss ns qs o'):o=o':=by
 obtain⟨_,h⟩:=h;obtain⟨_,g⟩:=g;show(h.det g).2
inductive GfR(ss:LS)(ns:LN):LP->LP->Prop
 | nil {ps:LP}:FiR ss ns ps none->GfR ss ns ps ps
 | on {ps rs:LP} {r:LS}:FiR ss ns ps (some r)->GfR ss ns (flT (qE ss ns ss.length) ps r) rs->GfR ss ns ps rs
theorem GfR.det{rs a:LP}(h:GfR ss ns ps rs):GfR ss ns ps a->rs=a:=by
 induction h with
 | nil h=>intro g;cases g with
  | nil _=>rfl
  | on g _=>cases h.det g
 | on h _ ih=>intro g;cases g with
  | nil g=>cases h.det g
  | on g k=>cases h.det g;show ih k
theorem GfR.fil{rs:LP}(h:GfR ss ns ps rs)(a:∃ p,ps=(qE ss ns ss.length).filter p):∃ p,rs=(qE ss ns ss.length).filter p:=by
 induction h with
 | nil _=>show a
 | on _ _ ih=>show ih ⟨_,rfl⟩
def FRow(ss:LS)(ns:LN)(tps qs:LP)(H:Hp)(v:V)(H':Hp):Prop:=L2.Same H H'/\((v=.non/\MxF ss tps qs/\FiR ss ns qs none)\/∃(r:Addr) (rs:LS),v=.ref r/\H r=none/\H' r=some (.lst (rs.map V.str))/\rs.length<=1000/\Aug (tA tps) (pt qs) rs/\FiR ss ns qs (some rs))
inductive spGf(cw:Addr)(vs:List V)(H:Hp)(Q:VK)(E:XK):Prop|mk (x l:Addr) (ss:LS) (ns:LN) (us:LX) (tps qs:LP) (_:vs=[.ref x,.ref l]) (_:Wt cw H x ss ns tps) (_:PL H l us qs) (_:PGo ss tps qs) (_:∀(t l2 r2:Addr) (ls:LX) (ws:List V) (rs:LP) (H':Hp),L2.Same H H'->H' t=some (.tup [.ref l2,.ref r2])->H l2=none->PL H' l2 ls rs->H' r2=some (.lst ws)->rs.length=qs.length+ws.length->PGo ss tps rs->MxF ss tps rs->GfR ss ns (qbe (qE ss ns ss.length) qs) rs->Q (.ref t) H')
theorem qfY{l y:Addr}{Q:VK}(W:Wt cw G x ss ns tps)(n:PL G l us qs)(b:PGo ss tps qs)(f:G y=none)(i:G dx=none)(d:dx≠y)
  (h:∀ H0 H2 a S dn wt lo,a.x=y->FoD (cc 9) cw H0 H2 a ss ns qs S dn wt lo (tA tps)->L2.Same G H2->Q .non H2):spFi cc cw [.ref y,.ref x,.ref l] (upd (upd G dx (.own y)) y (.ins (cc 9) dx [])) Q E:=by
 have j:=qG (qG (Sr G) (o:=.own y) i) (o:=.ins (cc 9) dx []) (show upd G dx (.own y) y=none by rw[qf (Yo d)];show f);show⟨y,dx,x,l,ss,ns,us,tps,qs,tA tps,rfl,qb,W.web.same j,W.adj,W.wb b,W.wok.nm,W.bes,n.same j,b.few,b.inn,fun H0 H' a S dn wt lo m _ g p=>h H0 H' a S dn wt lo m g fun c o e=>?_⟩;show g.fo.sm c o (p c o ?_);rw[zV (fun z=>by rw[z,f] at e;cases e),qf (fun z=>by rw[z,f] at e;cases e),qf (fun z=>by rw[z,i] at e;cases e)];show e
theorem qhn{a:Fo}{Q:VK}(f:FoD (cc 9) cw H0 H2 a ss ns qs S dn wt lo (tA tps))(p:Wb (tA tps) ss qs)(h:∀ v H',FRow ss ns tps qs H2 v H'->Q v H'):spFr cc cw [.ref a.x] H2 Q E:=by
 show⟨H0,a,ss,ns,qs,S,dn,wt,lo,_,rfl,f,fun e=>?_,fun t r e m n l hl=>?_⟩
 .subst e;obtain⟨o,g,i⟩:=f.gw;rcases i with⟨_,rfl⟩ | ⟨t,r,e,_⟩
  .show h _ _ ⟨L2.Same.refl _,.inl ⟨rfl,⟨S,qgx f p⟩,S,g⟩⟩
  .cases e
 .obtain⟨o,g,i⟩:=f.gw
  have s:o=some r:=by
   rcases i with⟨c,_⟩ | ⟨t',j,c,d,rfl⟩
   .rw [e] at c;cases c
   .rw [e] at c;cases c;rw[m] at d;have:=show r.map V.str=j.map V.str by injection (ym d)
    rw[List.map_inj_right (fun a b z=>by injection z)] at this;rw[this]
  subst s;show h _ _ ⟨qG (Sr _) hl,.inr ⟨l,r,rfl,hl,qb,?_,n,S,g⟩⟩;rcases f.en with⟨c,_⟩ | ⟨t',j,c,d,_,_,q⟩
  .rw [e] at c;cases c
  .rw [e] at c;cases c;rw[m] at d;have:=congrArg List.length (show r.map V.str=j.map V.str by injection (ym d));rw[ya,ya] at this;lk
theorem ok_gf(F:Fun K "greatest_from" "greatest_from" jJ f fd)(T:Txt K mg cc cw)(uR:DefOk P w K mg base CX0 10 "told_pairs" ["web","pairs"] (spTp cw))(K6:MakeOk P w K mg base CX0 10 (cc 9) "Forest" ["self","web","pairs"] (spFi cc cw))(ue:MethOk P w K mg base CX0 1 (cc 9) "row" ["self"] (spFr cc cw))(Ur:DefOk P w K mg base CX0 12 "turned" ["web","pairs","row"] (spTu cw)):FnOk P w K mg base CX0 13 f fd ["web","pairs"] (spGf cw):=by
 show F.ok Kl fun _ _ _ _ H vs Q E U h=>?_
 .obtain⟨x,l,ss,ns,us,tps,qs,rfl,W,hP,hG,q⟩:=h;have hu:=jV U;show⟨_,(qc (qk (i:=2) Kl.nd rfl (yJ rfl) (qp uR (hmR U) qB (qa (pv 0) (qa (pv 1) qd))))
 (qc (qk (i:=3) Kl.nd rfl (yJ rfl) (qW qd))
 (qc (qk (i:=4) Kl.nd rfl (yJ rfl) (jd ue (hmR U) (qaY K6 (hmR U) (qa (pv 0) (qa (pv 2) qd)))))
 (qc (qan yY (qj qdd (pv 4) qaF (qA _))
 (qc (qN (qaW (K:=K) rfl yD Yd Ye qO (pv 3) (qa (pv 4) qd)))
 (qc (qk (i:=2) Kl.nd rfl (yJ rfl) (qp Ur (hmR U) qB (qa (pv 0) (qa (pv 2) (qa (pv 4) qd)))))
 (qe (qk (i:=4) Kl.nd rfl (yJ rfl) (jd ue (hmR U) (qaY K6 (hmR U) (qa (pv 0) (qa (pv 2) qd)))))))))
 (qe (qm (jO (qa (pv 2) (qa (pv 3) qd))))))))),?_⟩
  apply⟨x,l,ss,ns,us,tps,qs,rfl,W.web,W.adj,hP,hG,fun l1 al H1 s1 aw O _ hA1=>?_⟩;apply⟨by decide,fun c X=>?_⟩;have s2:=qG (Sr H1) (o:=.lst []) X;have d:upd H1 c (.lst []) c=some (.lst []):=qb;have W2:=W.same (s1.trans s2);have A:=tps_ok W.wok W.adj W.ok hG
  have M:(qbe (qE ss ns ss.length) qs).length=qs.length+0:=by
   have c1:=hG.cnt W.wok.nd;have c2:=A.1.cnt W.wok.nd;rw[A.2] at c2;lk
  have g:PL (upd H1 c (.lst [])) l1 al (qbe (qE ss ns ss.length) qs):=⟨s2 _ _ O,hA1.mono fun _ _ z=>s2 _ _ z.2.2⟩;have ao:=s1.trans s2;generalize upd H1 c (.lst [])=G at ao d W2 g;obtain⟨n,C⟩:∃ n,n=qbe (qE ss ns ss.length) qs:=⟨_,rfl⟩;rw[<- C] at q g A M;clear C;obtain⟨ps,aj⟩:∃ ps,ps=n:=⟨_,rfl⟩;rw[<- aj] at g A M;replace A:=A.1;apply fun y dx hy N R=>qfY W2 g A hy N R fun H0 H3 a S dn wt lo ea hD s3=>?_;subst ea;obtain⟨fx,ff,aq,_,_,_,ar⟩:=id hD.fo.obj;show⟨rfl,a.x,fx,ff,rfl,aq,ar _ (by room),?_⟩;apply qhn hD (W2.wb A) fun v H4 hv=>?_;have az:=ao.trans s3;have ak:H c=none:=s1.free X;have an:l1≠c:=fun e=>by rw[e,X] at O;cases O
  ext;obtain⟨Wv,L⟩:∃ Wv:Nat->L2.St->Hp->Prop,Wv=fun m σ J=>∃(u:Addr) (us:LX) (ps:LP) (s:List V) (v:V),σ=[some (.ref x),some (.ref l),some (.ref u),some (.ref c),some v]/\L2.Same H J/\H u=none/\PL J u us ps/\u≠c/\PGo ss tps ps/\J c=some (.lst s)/\ps.length=qs.length+s.length/\m=8-ps.length/\(∀ rs,GfR ss ns ps rs->GfR ss ns n rs) /\
   ((v=.non/\MxF ss tps ps/\FiR ss ns ps none)\/∃(r:Addr) (rs:LS),v=.ref r/\r≠c/\J r=some (.lst (rs.map V.str))/\rs.length<=1000/\Aug (tA tps) (pt ps) rs/\FiR ss ns ps (some rs)):=⟨_,rfl⟩
  show⟨Wv,⟨_,by
   rw[L];show⟨l1,al,ps,[],v,rfl,az.trans hv.1,aw,g.same (s3.trans hv.1),an,A,hv.1 _ _ (s3 _ _ d),M,rfl,(fun rs z=>aj ▸ z),hv.2.imp id ?_⟩;rintro⟨r,rs,e1,Y,e3,e4,e5,e6⟩;show⟨r,rs,e1,(fun z=>by rw[z,s3 _ _ d] at Y;cases Y),e3,e4,e5,e6⟩⟩,fun m σ J ag=>?_⟩
  rw[L] at ag;obtain⟨u,us,ps,s,v,rfl,sJ,ai,I,ay,gJ,d,hc,hm,ah,hv⟩:=ag;ext
  have bb:2*ps.length<=14:=by
   have:=gJ.cnt W.wok.nd;have h2:qbk (pt ps) ss<=ss.length:=yN _ _;have:=W.wok.few;lk
  rcases hv with⟨rfl,mx,fi⟩ | ⟨r,rs,rfl,nr,er,hl,au,fi⟩
  .show⟨rfl,_,rfl,qL (fun h=>by simp at h) fun _=>?_⟩;apply⟨by show 2<=sizeLine;decide,fun t ht=>?_⟩;have s9:=qG (Sr J) (o:=.tup [.ref u,.ref c]) ht;show q t u c us s ps _ (sJ.trans s9) qb ai (I.same s9) (s9 _ _ d) hc gJ mx (ah _ (.nil fi))
  .show⟨rfl,_,rfl,zZ ⟨fun ba H'=>∃ m',m'<m/\Wv m' ba H',fun _ _ z=>z,?_⟩⟩;apply⟨.inl ⟨rfl,_,SqL.of d⟩,?_⟩;apply⟨c,_,_,rfl,rfl,d,qi (by lk),?_⟩;have sU:=qaE sJ (o:=.lst (s++[.ref r])) ak;have af:PL (upd J c (.lst (s++[.ref r]))) u us ps:=⟨by rw[qf ay];show I.1,I.2.mono fun t ab z=>by rw[qf (zJ z d (fun e=>by cases e))];show z⟩;have aa:upd J c (.lst (s++[.ref r])) r=some (.lst (rs.map V.str)):=by rw[qf nr];show er
   have D:upd J c (.lst (s++[.ref r])) c=some (.lst (s++[.ref r])):=qb;generalize upd J c (.lst (s++[.ref r]))=G1 at sU af aa D ⊢;have WU:=W.same sU;apply⟨x,u,r,ss,ns,us,tps,ps,rs,rfl,⟨WU.web,WU.adj,af,gJ,aa,au.row hl W.ok⟩,fun l3 am H5 s5 j ax _ ac=>?_⟩;obtain⟨g3,c3⟩:=qeZ W.wok W.adj W.ok gJ au hl;have B:∀ p,GfR ss ns (flT (qE ss ns ss.length) ps rs) p->GfR ss ns n p:=fun p z=>ah _ (.on fi z);generalize flT (qE ss ns ss.length) ps rs=p3 at ac g3 c3 B;have n3:l3≠c:=fun e=>by rw[e,D] at j;cases j
   have ae:PL H5 l3 am p3:=⟨ax,ac.mono fun _ _ z=>z.2.2⟩;have ap:=sU.trans s5;have W5:=W.same ap;have Z:=s5 _ _ D;apply fun y dx hy N R=>qfY W5 ae g3 hy N R fun H6 H7 b S5 bc be bd eb ad s7=>?_;subst eb;obtain⟨fy,fg,as,_,_,_,av⟩:=id ad.fo.obj;show⟨rfl,b.x,fy,fg,rfl,as,av _ (by room),?_⟩;apply qhn ad (W5.wb g3) fun v H8 hv=>?_;apply⟨8-p3.length,by lk,?_⟩;rw[L];show⟨l3,am,p3,s++[.ref r],v,rfl,(ap.trans s7).trans hv.1,sU.free j,ae.same (s7.trans hv.1),n3,g3,hv.1 _ _ (s7 _ _ Z),by rw[c3,hc,yt];rfl,rfl,B,hv.2.imp id ?_⟩;rintro⟨r',p,e1,Y,e3,e4,e5,e6⟩;show⟨r',p,e1,(fun z=>by rw[z,s7 _ _ Z] at Y;cases Y),e3,e4,e5,e6⟩
theorem uY:FnScope ["web"] ["web"] (qh qay):=fS
def GrR(ss:LS)(ns:LN)(rs:LP):Prop:=GfR ss ns (qbe (qE ss ns ss.length) []) rs
inductive spGr(cw:Addr)(vs:List V)(H:Hp)(Q:VK)(E:XK):Prop|mk (x:Addr) (ss:LS) (ns:LN) (tps:LP) (_:vs=[.ref x]) (_:Wt cw H x ss ns tps) (_:∀(l:Addr) (ls:LX) (rs:LP) (H':Hp),L2.Same H H'->H l=none->PL H' l ls rs->PGo ss tps rs->MxF ss tps rs->GrR ss ns rs->Q (.ref l) H')
inductive spCo(cw:Addr)(vs:List V)(H:Hp)(Q:VK)(E:XK):Prop|mk (x:Addr) (ss:LS) (ns:LN) (tps:LP) (_:vs=[.ref x]) (_:Wt cw H x ss ns tps) (_:∀(rs:LP) (H':Hp),L2.Same H H'->PGo ss tps rs->MxF ss tps rs->Q (.int rs.length) H')
theorem ok_gr(F:Fun K "greatest" "greatest" qay f fd)(T:Txt K mg cc cw)(s:DefOk P w K mg base CX0 13 "greatest_from" ["web","pairs"] (spGf cw)):FnOk P w K mg base CX0 14 f fd ["web"] (spGr cw):=by
 show F.ok uY fun _ _ _ _ H vs Q E c h=>?_
 .obtain⟨x,ss,ns,tps,rfl,W,q⟩:=h;have n:=jV c;show⟨_,(qe (qm (qu (qv (K:=K) rfl n) (qp s (hmR c) qB (qa (pv 0) (qa (qW qd) qd))) qg (fun _ _=>rfl)))),?_⟩;apply⟨by decide,fun l hl=>?_⟩;have b:=qG (Sr H) (o:=.lst []) hl;apply⟨x,l,ss,ns,[],tps,[],rfl,W.same b,⟨qb,.nil⟩,⟨(fun q h=>by cases h),List.nodup_nil,by decide⟩,fun t l2 u p y rs H' r d a i _ _ e g m=>?_⟩;show .inl (zO d (v:=.ref l2) (qt (j:=0) rfl) (q l2 p rs H' (b.trans r) (b.free a) i e g m))
noncomputable def tB(tps:LP)(a b:Str):Bool:=decide ((a,b)∈tps)||decide ((b,a)∈tps)
theorem tB_iff:tB tps a b=true↔tA tps a b:=by
 unfold tB tA;rw[Y1,yI,yI]
noncomputable def del(l:LS)(y:Str):LS:=l.filter fun a=>!decide (a=y)
noncomputable def mo(tps:LP):Nat->LS->Nat
 | 0,_=>0
 | _,[]=>0
 | n+1,x::r=>(r.filter (tB tps x)).foldl (fun m y=>max m (1+mo tps n (del r y))) (mo tps n r)
theorem qbs(h:α->Nat):∀(L:List α) (i:Nat),i<=L.foldl (fun m y=>max m (h y)) i/\(∀ y∈L,h y<=L.foldl (fun m y=>max m (h y)) i)/\(L.foldl (fun m y=>max m (h y)) i=i\/∃ y∈L,L.foldl (fun m y=>max m (h y)) i=h y)
 | [],i=>⟨yh _,(fun y hy=>by cases hy),.inl rfl⟩
 | a::r,i=>by
  obtain⟨h1,b,c⟩:=qbs h r (max i (h a));rw[List.foldl_cons];show⟨yi (kZ _ _) h1,fun y hy=>?_,?_⟩
  .rcases yy.mp hy with rfl | hy
   .show yi (Nat.le_max_right _ _) h1
   .show b y hy
  .rcases c with z | ⟨y,hy,z⟩
   .rw [z];rcases Nat.le_total i (h a) with k | k
    .show .inr ⟨a,yO,Nat.max_eq_right k⟩
    .show .inl (Nat.max_eq_left k)
   .show .inr ⟨y,yz _ hy,z⟩
structure Mt(tps:LP)(l:LS)(f:Str->Option Str):Prop where
 sym:∀ a b,f a=some b->f b=some a
 tie:∀ a b,f a=some b->tA tps a b
 inn:∀ a b,f a=some b->a∈l
theorem qaz{f:Str->Option Str}{x:Str}{r:LS}:qbk f (x::r)=qbk f r+(if (f x).isSome=true then 1 else 0):=by
 unfold qbk;rw[yK];split
 .rw [yF]
 .rfl
theorem qbT{f:Str->Option Str}(h:∀ s∈l,(f s).isSome=(g s).isSome):qbk f l=qbk g l:=by
 unfold qbk;rw[YB h]
theorem mem_del:a∈del l y↔a∈l/\a≠y:=by
 unfold del;rw[yp,xq,Xe]
theorem zW{f:Str->Option Str}:∀{r:LS},r.Nodup->y∈r->qbk f r=qbk f (del r y)+(if (f y).isSome=true then 1 else 0)
 | [],_,h=>by cases h
 | x::r,hn,h=>by
  obtain⟨d,g⟩:=yo.mp hn;by_cases e:x=y
  .subst e
   have:del (x::r) x=r:=by
    unfold del;rw[yK,yA (by rw[yB rfl];decide)];show ke.mpr fun a b=>by rw[yl (fun z=>d (by rw[<- z];show b))];rfl
   rw[this,qaz]
  .have c:=(yy.mp h).resolve_left (Yo e);have:del (x::r) y=x::del r y:=by unfold del;rw[yK,yG (by rw[yl e];rfl)]
   rw[this,qaz,qaz,zW g c];lk
theorem qbU(l:LS)(y:Str):(del l y).length<=l.length:=yN _ _
section
variable{tps:LP}
theorem qbZ(i:∀ a b,tA tps a b->a≠b):∀(n:Nat) {l:LS} {f:Str->Option Str},l.length<=n->l.Nodup->Mt tps l f->qbk f l<=2*mo tps n l
 | n,[],f,_,_,_=>YS _
 | 0,x::r,f,h,_,_=>by simp at h
 | n+1,x::r,f,h,hn,hf=>by
  obtain⟨A,o⟩:=yo.mp hn;have hl:r.length<=n:=by simpa using h
  obtain⟨B,v,_⟩:=qbs (fun y=>1+mo tps n (del r y)) (r.filter (tB tps x)) (mo tps n r);rw[qaz];show _<=2*(r.filter (tB tps x)).foldl (fun m y=>max m (1+mo tps n (del r y))) (mo tps n r)
  cases e:f x with
  | none =>
   have:=qbZ i n hl o (f:=f) ⟨hf.sym,hf.tie,fun a b z=>(yy.mp (hf.inn a b z)).resolve_left fun y=>by rw[y,e] at z;cases z⟩;simp only[kq,YM,Xa];lk
  | some y =>
   have j:=i _ _ (hf.tie _ _ e);have d:=hf.sym _ _ e;have p:=(yy.mp (hf.inn y x d)).resolve_left (Yo j);have t:=v y (yp.mpr ⟨p,tB_iff.mpr (hf.tie _ _ e)⟩);have:=qbZ i n (l:=del r y) (f:=fun a=>if a=x\/a=y then none else f a) (yi (qbU r y) hl) (o.filter _) ⟨fun a b z=>?_,fun a b z=>?_,fun a b z=>?_⟩
   .rw [zW o p,d,qbT (g:=fun a=>if a=x\/a=y then none else f a) fun s u=>?_]
    .simp only[XF,Xv]
     (try dsimp only at t)
     lk
    .obtain⟨h1,q⟩:=mem_del.mp u;rw[yA (fun z=>z.elim (fun z=>A (by rw[<- z];show h1)) q)]
   ·(try dsimp only at z ⊢)
    split at z
    .cases z
    .rename_i hne
     have c:=hf.sym _ _ z;rw[yA (fun w=>?_)]
     .show c
     .rcases w with w | w
      .rw [w,e] at c;show hne (.inr (ym c).symm)
      .rw [w,d] at c;show hne (.inl (ym c).symm)
   ·(try dsimp only at z)
    split at z
    .cases z
    .show hf.tie _ _ z
   ·(try dsimp only at z)
    split at z
    .cases z
    .rename_i hne
     have:=(yy.mp (hf.inn a b z)).resolve_left fun w=>hne (.inl w);show mem_del.mpr ⟨this,fun w=>hne (.inr w)⟩
theorem qcm(p:∀ a b,tA tps a b->a≠b):∀(n:Nat) {l:LS},l.length<=n->l.Nodup->∃ f,Mt tps l f/\qbk f l=2*mo tps n l
 | n,[],_,_=>⟨fun _=>none,⟨(fun a b z=>by cases z),(fun a b z=>by cases z),(fun a b z=>by cases z)⟩,by cases n<;>rfl⟩
 | 0,x::r,h,_=>by simp at h
 | n+1,x::r,h,hn=>by
  obtain⟨q,t⟩:=yo.mp hn;have hl:r.length<=n:=by simpa using h
  obtain⟨_,_,B⟩:=qbs (fun y=>1+mo tps n (del r y)) (r.filter (tB tps x)) (mo tps n r);show ∃ f,_/\_=2*(r.filter (tB tps x)).foldl (fun m y=>max m (1+mo tps n (del r y))) (mo tps n r);rcases B with z | ⟨y,j,z⟩
  .obtain⟨f,d,c⟩:=qcm p n hl t;show⟨f,⟨d.sym,d.tie,fun a b e=>yz _ (d.inn a b e)⟩,?_⟩
   have A:f x=none:=by
    cases e:f x with
    | none=>rfl
    | some b=>show absurd (d.inn _ _ e) q
   rw[qaz,A,z,c];rfl
  .obtain⟨j,ty⟩:=yp.mp j;have ty:=tB_iff.mp ty;have i:=p _ _ ty;obtain⟨f,d,c⟩:=qcm p n (l:=del r y) (yi (qbU r y) hl) (t.filter _)
   have out:∀{a b:Str},f a=some b->a≠x/\a≠y:=fun e=>by
    obtain⟨h1,o⟩:=mem_del.mp (d.inn _ _ e);show⟨fun w=>q (by rw[<- w];show h1),o⟩
   show⟨fun a=>if a=x then some y else if a=y then some x else f a,⟨fun a b e=>?_,fun a b e=>?_,fun a b e=>?_⟩,?_⟩
   ·(try dsimp only at e ⊢)
    split at e
    .cases e;rename_i w;rw[yA (Yo i),yG rfl,w]
    .split at e
     .cases e;rename_i w;rw[yG rfl,w]
     .have u:=d.sym _ _ e;obtain⟨C,D⟩:=out u;rw[yA C,yA D];show u
   ·(try dsimp only at e)
    split at e
    .cases e;rename_i w;rw[w];show ty
    .split at e
     .cases e;rename_i w;rw[w];show Or.symm ty
     .show d.tie _ _ e
   ·(try dsimp only at e)
    split at e
    .rename_i w;rw[w];show yO
    .split at e
     .rename_i w;rw[w];show yz _ j
     .show yz _ (mem_del.mp (d.inn _ _ e)).1
   .rw [qaz,zW t j,yG rfl,yA (Yo i),yG rfl,qbT (g:=f) fun s v=>?_]
    .simp only[XF,Xv];rw[c,z];lk
    .obtain⟨h1,o⟩:=mem_del.mp v;rw[yA (fun w=>q (by rw[<- w];show h1)),yA o]
theorem qfZ(e:∀ a b,tA tps a b->a≠b)(h1:l.length<=n)(i:l.length<=m)(h:l.Nodup):mo tps n l=mo tps m l:=by
 obtain⟨f,j,c⟩:=qcm e n h1 h;obtain⟨g,o,d⟩:=qcm e m i h;have:=qbZ e m i h j;have:=qbZ e n h1 h o;lk
variable{ss:LS}{qs:LP}{S:FS}
theorem Mt.gr{f:Str->Option Str}(c:∀ a b,tA tps a b->a≠b)(h:Mt tps ss f):Gr (tA tps) f:=⟨fun z=>Or.symm z,fun z=>c _ _ z,fun{a b} e=>h.sym a b e,fun{a b} e=>h.tie a b e⟩
theorem PGo.mt(g:PGo ss tps qs):Mt tps ss (pt qs):=⟨g.fn.sym,g.fn.tie,fun a b e=>by
 rcases qc3 e with z | z
 .show(g.inn _ z).2.1
 .show(g.inn _ z).2.2.1⟩
theorem qf0(h:∀ a b,tA tps a b->a≠b)(e:ss.Nodup)(g:PGo ss tps qs)(m:MxF ss tps qs):qs.length=mo tps ss.length ss:=by
 obtain⟨S,F⟩:=m;have c:=g.cnt e;have:=qbZ h _ (yh _) e g.mt;obtain⟨f,j,d⟩:=qcm h _ (yh _) e;have k:=F.most (j.gr h)
 have p:(ss.filter fun u=>!(f u).isSome&&(S.rows u).isSome).length<=(snL f ss).length:=qcw (e.filter _) fun u l=>by
  obtain⟨h1,i⟩:=yp.mp l;show yp.mpr ⟨h1,((yX _ _).mp i).1⟩
 have n:=qa5 (f:=f) (ss:=ss);have o:=qa5 (f:=pt qs) (ss:=ss);lk
theorem mo_del_le(i:∀ a b,tA tps a b->a≠b)(j:ss.Nodup)(hv:v∈ss):mo tps (del ss v).length (del ss v)<=mo tps ss.length ss/\mo tps ss.length ss<=mo tps (del ss v).length (del ss v)+1:=by
 constructor
 .obtain⟨f,d,c⟩:=qcm i _ (yh _) (j.filter (fun a=>!decide (a=v)))
  have n:f v=none:=by
   cases e:f v with
   | none=>rfl
   | some b=>show absurd rfl (mem_del.mp (d.inn _ _ e)).2
  have:=qbZ i _ (yh _) j (f:=f) ⟨d.sym,d.tie,fun a b e=>(mem_del.mp (d.inn a b e)).1⟩;rw[zW j hv,n] at this;simp only[kq,YM,Xa] at this;have t:qbk f (del ss v)=2*mo tps (del ss v).length (del ss v):=c;lk
 .obtain⟨f,d,c⟩:=qcm i _ (yh _) j;have h:(del ss v).Nodup:=j.filter _;rw[zW j hv] at c
  cases e:f v with
  | none =>
   have:=qbZ i _ (yh _) h (f:=f) ⟨d.sym,d.tie,fun a b z=>mem_del.mpr ⟨d.inn a b z,fun w=>by rw[w,e] at z;cases z⟩⟩;rw[e] at c;simp at c;lk
  | some y =>
   have m:=d.sym _ _ e;have o:=i _ _ (d.tie _ _ e);have p:y∈del ss v:=mem_del.mpr ⟨d.inn _ _ m,Yo o⟩;have:=qbZ i _ (yh _) h (f:=fun a=>if a=v\/a=y then none else f a) ⟨fun a b z=>?_,fun a b z=>?_,fun a b z=>?_⟩
   .rw [zW h p,yG (show y=v\/y=y from .inr rfl)] at this;rw[zW h p,e,m,qbT (g:=fun a=>if a=v\/a=y then none else f a) fun s r=>?_] at c
    .simp at c this;lk
    .obtain⟨h1,q⟩:=mem_del.mp r;rw[yA (fun z=>z.elim (fun z=>(mem_del.mp h1).2 z) q)]
   ·(try dsimp only at z ⊢)
    split at z
    .cases z
    .rename_i hne
     have l:=d.sym _ _ z;rw[yA (fun w=>?_)]
     .show l
     .rcases w with w | w
      .rw [w,e] at l;show hne (.inr (ym l).symm)
      .rw [w,m] at l;show hne (.inl (ym l).symm)
   ·(try dsimp only at z)
    split at z
    .cases z
    .show d.tie _ _ z
   ·(try dsimp only at z)
    split at z
    .cases z
    .rename_i hne
     show mem_del.mpr ⟨d.inn a b z,fun w=>hne (.inl w)⟩
theorem mx_loose(x:∀ a b,tA tps a b->a≠b)(o:ss.Nodup)(g:PGo ss tps qs)(F:Fn (tA tps) (pt qs) S ss)(hv:v∈ss):mo tps (del ss v).length (del ss v)=mo tps ss.length ss↔S.rows v≠none:=by
 have cm:=qf0 x o g ⟨S,F⟩;have c:=g.cnt o;have y:(del ss v).Nodup:=o.filter _;constructor
 .intro e J;obtain⟨f,l,d⟩:=qcm x _ (yh _) y
  have q:f v=none:=by
   cases e:f v with
   | none=>rfl
   | some b=>show absurd rfl (mem_del.mp (l.inn _ _ e)).2
  have U:Mt tps ss f:=⟨l.sym,l.tie,fun a b e=>(mem_del.mp (l.inn a b e)).1⟩;have k:=F.most (U.gr x);have Z:qbk f ss=qbk f (del ss v):=by rw[zW o hv,q];rfl
  have e1:=qa5 (f:=f) (ss:=ss);have e2:=qa5 (f:=pt qs) (ss:=ss);have B:v∈snL f ss:=mem_sn.mpr ⟨hv,q⟩
  have W:(ss.filter fun u=>!(f u).isSome&&(S.rows u).isSome).length<=((snL f ss).erase v).length:=qcw (o.filter _) fun u I=>by
   obtain⟨h1,D⟩:=yp.mp I;obtain⟨P,L⟩:=(yX _ _).mp D;show(Xr (fun z=>by rw[z,J] at L;cases L)).mpr (yp.mpr ⟨h1,P⟩)
  rw[YZ B] at W;have:=Y5 B;lk
 .intro G;obtain⟨r,G⟩:=some_of G;have m:=F.fi.alt v r G;show xH (mo_del_le x o hv).1 ?_
  suffices h:∃ f,Mt tps ss f/\f v=none/\qbk f ss=qbk (pt qs) ss by
   obtain⟨f,l,C,K⟩:=h;have:=qbZ x _ (yh _) y (f:=f) ⟨l.sym,l.tie,fun a b e=>mem_del.mpr ⟨l.inn a b e,fun w=>by rw[w,C] at e;cases e⟩⟩;rw[zW o hv,C] at K;simp only[kq,YM,Xa] at K;lk
  obtain⟨r0,N⟩:=m.tl;have j:r[r.length-1]?=some v:=by rw[N,yt];simp
  have ho:=m.odd;by_cases h1:r.length=1
  .rw [h1] at j;show⟨pt qs,g.mt,m.hd v j,rfl⟩
  .have D:2<=r.length:=by lk
   have lst:∀ s t,r[r.length-1]?=some s->r[r.length-2]?=some t->pt qs s=some t:=fun s t A H=>by
    have:=(m.st (r.length-2) t s H (by rw[show r.length-2+1=r.length-1 by lk];show A)).2.mpr (by lk);show g.fn.sym _ _ this
   have T:=qca g.fn.sym m.nd D m.st m.hd fun s t A H=>.inr (lst s t A H);obtain⟨f,l⟩:=qeX T;have p:=qeY (ss:=ss) T g.fn (qc5 m.st) l;have inn:∀{a b:Str},tA tps a b->a∈ss:=fun z=>F.inn _ _ z
   have E:∀ s∈r,s∈ss:=fun s A=>by
    obtain⟨i,n⟩:=yf A;have R:=(yc.mp n).1;by_cases O:i+1<r.length
    .show inn (m.st i s _ n (yb O)).1
    .rw [show i=r.length-1 by lk,j] at n;rw[<- ym n];show hv
   obtain⟨u,I⟩:∃ u,r[r.length-2]?=some u:=⟨_,yb (by lk)⟩;obtain⟨a,M⟩:∃ a,r[0]?=some a:=⟨_,yb (by lk)⟩
   have C:f v=none:=by
    cases e:f v with
    | none=>rfl
    | some b =>
     rcases(l v b).mp e with⟨z,_⟩ | ⟨X,Y⟩
     .show absurd (ye j) z
     .rcases X.at_ m.nd j with w | ⟨_,w⟩
      .have:=(yc.mp w).1;lk
      .rw [show r.length-1-1=r.length-2 by lk] at w;show absurd (lst v b j w) Y
   show⟨f,⟨p.sym,p.tie,fun a b e=>inn (p.tie a b e)⟩,C,?_⟩;have:=qdW T l o E M j;rw[m.hd a M,lst v u j I] at this;simp at this;show this
end
theorem Uf:FnScope ["_law_script","_law_k"] ["_law_script","_law_k"] (qh qbt):=fS
theorem u8:FnScope ["_law_cell_here"] ["_law_cell_here"] (qh qa6):=fS
theorem KP:FnScope ["_law_purse_here","_law_many_here","_law_digit","_law_number"] ["_law_purse_here","_law_many_here"] (qh qbu):=fS
theorem Ug:FnScope ["_law_purse_here","_law_most"] ["_law_purse_here","_law_most"] (qh qbv):=fS
inductive spCe(K:W.Frag)(vs:List V)(H:Hp)(Q:VK)(E:XK):Prop|mk (a:Addr) (ns:LY) (k:Nat) (_:vs=[.ref a,.int (k:Int)]) (_:SqL K H a (ns.map V.int)) (_:k<1000) (_:∀ i:Int,Q (.int i) H)
def Pu(H:Hp)(p:Addr):Prop:=∃ a b c:Int,H p=some (.lst [.int a,.int b,.int c])/\0<=a/\0<=b/\b<2147483629/\0<=c
inductive spPu(vs:List V)(H:Hp)(Q:VK)(E:XK):Prop|mk (c:Int) (_:vs=[.int c]) (_:∀(p:Addr) (H':Hp),L2.Same H H'->H p=none->Pu H' p->Q (.ref p) H')
inductive spTkP(vs:List V)(H:Hp)(Q:VK)(E:XK):Prop|mk (p:Addr) (m:Nat) (_:vs=[.ref p,.int (m:Int)]) (_:Pu H p) (_:0<m) (_:m<1000) (_:∀(d:Nat) (H':Hp),d<m->But p H H'->Pu H' p->Q (.int (d:Int)) H')
inductive spMyP(vs:List V)(H:Hp)(Q:VK)(E:XK):Prop|mk (p:Addr) (m:Nat) (_:vs=[.ref p,.int (m:Int)]) (_:Pu H p) (_:m<=14) (_:∀(d:Nat) (H':Hp),d<=max 8 m->But p H H'->Pu H' p->Q (.int (d:Int)) H')
theorem But.trans7(a:But p H H1)(b:But p H1 H2):But p H H2:=fun c o n e=>b c o n (a c o n e)
theorem But.new7{l:Addr}(a:But p H H1)(hl:H1 l=none):But p H (upd H1 l o):=fun c u n e=>by
 have:=a c u n e;have ne:c≠l:=fun z=>by rw[z,hl] at this;cases this
 rw[qf ne];show this
theorem But.free7{l:Addr}(a:But p H H1)(b:l≠p)(hl:H1 l=none):H l=none:=by
 cases e:H l with
 | none=>rfl
 | some o=>rw[a l o b e] at hl;cases hl
noncomputable abbrev iV(k:Nat):V:=.int (k:Int)
theorem ok_ce(F:Fun K "_law_cell" "_law_cell" qbt f fd)(T:Txt K mg cc cw):FnOk P w K mg base CX0 1 f fd ["_law_script","_law_k"] (spCe K):=by
 show F.ok Uf fun _ _ _ _ H vs Q E d h=>?_
 .obtain⟨a,ns,k,rfl,b,h1,q⟩:=h;have e:=jV d;show⟨_,(qc (qP (qj qep (pv 1) (qr (jY (K:=K) rfl) rfl T.b_len YQ (qa (pv 0) qd)) (qA _)) (qe (qm (qu (qv (K:=K) rfl e) (pv 0) (pv 1) (fun _ _=>rfl)))) qy)
 (qe (qm (qw (j8 (K:=K) rfl) (qw qce qg (pv 1)) qg)))),?_⟩
  apply vLenLs b ?_;rw[ya];ext;by_cases c:k<ns.length
  .rw [yB (show(k:Int)<(ns.length:Int) by lk)];show zZ ?_;apply .inl (vIxLs b (v:=.int ns[k]) (qt (by rw[yd,yb c];rfl)) ?_);show q _
  .rw [yl (show ¬ (k:Int)<(ns.length:Int) by lk)];show yq ?_;apply qcf (.inl ⟨by decide,by decide⟩) ?_;apply q _
theorem ok_pu(F:Fun K "_law_purse" "_law_purse" qa6 f fd)(T:Txt K mg cc cw):FnOk P w K mg base CX0 1 f fd ["_law_cell_here"] spPu:=by
 show F.ok u8 fun _ _ _ _ H vs Q E d h=>?_
 .obtain⟨c,rfl,q⟩:=h;show⟨_,(qe (qm (qW (qa (qr (qcB rfl) rfl T.b_max boot_max (qa qg (qa (qw qbG (pv 0) (qw op_pow qg qg)) qd))) (qa (qw zr (pv 0) qg) (qa qg qd)))))),?_⟩;apply vI ⟨by decide,by decide,by decide⟩ ?_;apply⟨_,_,rfl,?_⟩;apply vI (by decide) ?_;apply⟨by show 3<=sizeLine;decide,fun p a=>?_⟩;have h1:=XB c (show(2147483629:Int)≠0 by decide);have b:=Xj c (show(0:Int)<2147483629 by decide);show q p _ (qG (Sr H) a) a ⟨_,_,_,qb,by split<;>lk,h1,b,by decide⟩
theorem ok_tkp(F:Fun K "_law_take" "_law_take" qbu f fd)(T:Txt K mg cc cw):FnOk P w K mg base CX0 1 f fd ["_law_purse_here","_law_many_here"] spTkP:=by
 show F.ok KP fun _ _ _ _ H vs Q E S h=>?_
 .obtain⟨p,m,rfl,⟨a,b,c,J,A,B,j,hc⟩,W,h1,q⟩:=h;have g:=jV S;have l:(0:Int)<(m:Int):=by lk
  show⟨_,(qc (jC (qw (j8 (K:=K) rfl) (qu (qv (K:=K) rfl g) (pv 0) qg (fun _ _=>rfl)) qg) (jN (pv 0) qg (jP g)))
 (qc (qP (qj qfh (qu (qv (K:=K) rfl g) (pv 0) qg (fun _ _=>rfl)) qg (qA _)) (qc (qk (i:=2) KP.nd rfl (yJ rfl) (qw zr (qu (qv (K:=K) rfl g) (pv 0) qg (fun _ _=>rfl)) (pv 1)))
 (qc (jC (qw qeo (qu (qv (K:=K) rfl g) (pv 0) qg (fun _ _=>rfl)) (pv 1)) (jN (pv 0) qg (jP g)))
 (qe (qm (pv 2))))) qy)
 (qc (qk (i:=3) KP.nd rfl (yJ rfl) (qw zr (qw (j8 (K:=K) rfl) (qw (j8 (K:=K) rfl) (qw qce (qu (qv (K:=K) rfl g) (pv 0) qg (fun _ _=>rfl)) qg) (qw qce qg (qu (qv (K:=K) rfl g) (pv 0) qg (fun _ _=>rfl)))) qg) qg))
 (qc (qk (i:=3) KP.nd rfl (yJ rfl) (qw zr (qw qce (pv 3) (pv 3)) qg))
 (qc (qk (i:=3) KP.nd rfl (yJ rfl) (qw zr (qw qce (qw (j8 (K:=K) rfl) (pv 3) (qw qce qg (qu (qv (K:=K) rfl g) (pv 0) qg (fun _ _=>rfl)))) qg) qg))
 (qe (qm (qw zr (qw qeo (qw zr (qw qce (pv 3) (pv 3)) qg) qg) (pv 1))))))))),?_⟩
  apply .inl (zN J rfl ?_);apply .inl (qeh J rfl ?_);have y:But p H (upd H p (.lst [.int a,.int b,.int (c+1)])):=fun x o n e=>by rw[qf n];show e
  have d:upd H p (.lst [.int a,.int b,.int (c+1)]) p=some (.lst [.int a,.int b,.int (c+1)]):=qb;have N:upd H p (.lst (([V.int a,.int b,.int c]).set (2:Int).toNat (.int (c+1))))=upd H p (.lst [.int a,.int b,.int (c+1)]):=rfl;ext;rw[N];generalize upd H p (.lst [.int a,.int b,.int (c+1)])=H1 at y d;show .inl (zN d rfl ?_);apply qL (fun O=>?_) (fun O=>?_)
  .ext;show .inl (zN d rfl ?_);apply vI l ?_;apply .inl (zN d rfl ?_);apply vI ⟨l,by lk⟩ ?_;apply .inl (qeh d rfl ?_);ext;have L:=XB a (show(m:Int)≠0 by lk);have M:=Xj a l;have z:a % (m:Int)=(((a % (m:Int)).toNat:Nat):Int):=by lk
   rw[z];show q _ _ (by lk) (fun x o n e=>by rw[qf n];show y x o n e) ⟨_,_,_,qb,Int.ediv_nonneg A (by lk),B,j,by lk⟩
  .ext;show .inl (zN d rfl ?_);apply qcf (.inr ⟨by decide,by decide⟩) ?_;apply .inl (zN d rfl ?_);apply qcf (.inl ⟨by decide,by decide⟩) ?_;apply vI (by decide) ?_;ext;generalize r:(b*48271+7919*(c+1)+11) % 2147483647=t;have C:0<=t:=by rw[<- r];show XB _ (by decide)
   have D:t<2147483647:=by rw[<- r];show Xj _ (by decide)
   show qcf (.inl ⟨by lk,by lk⟩) ?_;apply vI (by decide) ?_;ext;generalize R:t*t % 2147483629=U;show .inl (zN d rfl ?_);apply qcf (.inl ⟨by decide,by decide⟩) ?_;apply qcf (.inr ⟨by decide,by decide⟩) ?_;apply vI (by decide) ?_;ext;generalize s:(U+31*(c+1))*69621 % 2147483587=u;have G:0<=u:=by rw[<- s];show XB _ (by decide)
   have I:u<2147483587:=by rw[<- s];show Xj _ (by decide)
   show qcf (.inl ⟨by lk,by lk⟩) ?_;apply vI (by decide) ?_;apply vI ⟨by decide,by decide⟩ ?_;apply vI l ?_;generalize u*u % 2147483579 / 8=v;have L:=XB v (show(m:Int)≠0 by lk);have M:=Xj v l;have z:v % (m:Int)=(((v % (m:Int)).toNat:Nat):Int):=by lk
   rw[z];show q _ _ (by lk) y ⟨_,_,_,d,A,B,j,by lk⟩
theorem ok_my(F:Fun K "_law_many" "_law_many" qbv f fd)(T:Txt K mg cc cw)(A:DefOk P w K mg base CX0 1 "_law_take" ["_law_purse_here","_law_many_here"] spTkP):FnOk P w K mg base CX0 2 f fd ["_law_purse_here","_law_most"] spMyP:=by
 show F.ok Ug fun _ _ _ _ H vs Q E s h=>?_
 .obtain⟨p,m,rfl,N,W,q⟩:=h;have R:=jV s;show⟨_,(qe (qm (qp A (hmR s) qB (qa (pv 0) (qa (qu (qv (K:=K) rfl R) (qW (qa qg (qa qg (qa qg (qa qg (qa qg (qa qg (qa qg (qa (qw (j8 (K:=K) rfl) (pv 1) qg) qd))))))))) (qp A (hmR s) qB (qa (pv 0) (qa qg qd))) (fun _ _=>rfl)) qd))))),?_⟩;ext;obtain⟨a,b,c,G,t⟩:=id N;show⟨by show 8<=sizeLine;decide,fun e g=>?_⟩;have j:p≠e:=fun z=>by rw[<- z,G] at g;cases g
  obtain⟨xs,i⟩:∃ xs:LN,xs=[3,5,7,8,8,9,9,m+1]:=⟨_,rfl⟩;have B:But p H (upd H e (.lst (xs.map iV))):=But.new7 (fun x o _ z=>z) g;have D:upd H e (.lst (xs.map iV)) e=some (.lst (xs.map iV)):=qb;have hB1:Pu (upd H e (.lst (xs.map iV))) p:=⟨a,b,c,by rw[qf j];show G,t⟩;have M:upd H e (.lst [V.int 3,.int 5,.int 7,.int 8,.int 8,.int 9,.int 9,.int ((m:Int)+1)])=upd H e (.lst (xs.map iV)):=by rw[i];rfl
  have u:∀ x∈xs,0<x/\x<=max 8 m+1:=fun x l=>by
   rw[i] at l;simp only[yy,Yb,YL] at l;lk
  have S:xs.length=8:=by rw[i];rfl
  rw[M];generalize upd H e (.lst (xs.map iV))=H1 at B D hB1;apply⟨p,8,rfl,hB1,by decide,by decide,fun d H2 U C n=>?_⟩;obtain⟨x,l⟩:∃ x,xs[d]?=some x:=⟨_,yb (by lk)⟩;have y:=u x (ye l);show .inl (zN (C _ _ j.symm D) (v:=iV x) (qt (by rw[yd,l];rfl)) ?_);apply⟨p,x,rfl,n,y.1,by lk,fun L I O J r=>q L I (by lk) ((B.trans7 C).trans7 J) r⟩
theorem Ko:FnScope ["_law_purse_here","_law_many_here","_law_letters","_law_first","_law_step","_law_way","_law_stem","_law_found","_law_k","_law_sign"] ["_law_purse_here","_law_many_here"] (qh qak):=fS
theorem qcn{X:L2.Cx}{st:List PySem.Stmt}{t:L2.TS}(t':L2.TS)(h:L2.PSs X st t)(k:∀ D σ H,t' D σ H->t D σ H):L2.PSs X st t':=fun a s σ H D I q=>h a s σ H D I (k D σ H q)
noncomputable def stepsJ:LN:=[1,3,5,7,9,11]
noncomputable def cJ(first step j:Nat):Nat:=97+(first+step*j) % 26
theorem cJ_sg(first step j:Nat):sg (cJ first step j)=true:=by unfold cJ;show qgu (by lk) (by lk)
theorem qfG{step:Nat}(a:step∈stepsJ){k:Nat}(b:j<14)(c:k<14)(e:cJ first step j=cJ first step k):j=k:=by
 unfold cJ at e;simp only[stepsJ,yy,Yb,YL] at a;rcases a with rfl | rfl | rfl | rfl | rfl | rfl<;>lk
def NmJ(a first step j:Nat)(s:Str):Prop:=zR s=true/\if a=2 then s.cps.toList.head?=some (cJ first step j) else s.cps.toList.getLast?=some (cJ first step j)
theorem NmJ.inj{a step:Nat}(f:step∈stepsJ){k:Nat}(d:j<14)(e:k<14)(h:NmJ a first step j s)(g:NmJ a first step k s):j=k:=by
 have c:=h.2;have b:=g.2;by_cases hw:a=2
 .rw [yG hw] at c b;rw[c] at b;show qfG f d e (ym b)
 .rw [yA hw] at c b;rw[c] at b;show qfG f d e (ym b)
theorem jy(a b:Int):(if false=true then !eqV (V.int a) (V.int b) else eqV (V.int a) (V.int b))=decide (a=b):=by
 rw[yA (by decide)];unfold eqV;by_cases h:a=b<;>simp[h]
inductive spNmJ(vs:List V)(H:Hp)(Q:VK)(E:XK):Prop|mk (p:Addr) (m:Nat) (_:vs=[.ref p,.int (m:Int)]) (_:Pu H p) (_:m<=14) (_:∀(l:Addr) (ss:LS) (H':Hp),But p H H'->Pu H' p->H l=none->l≠p->H' l=some (.lst (ss.map V.str))->NOk ss->ss.length=m->Q (.ref l) H')
theorem Pu.new{l:Addr}(h:Pu H p)(hl:H l=none):Pu (upd H l o) p:=by
 obtain⟨a,b,c,e,r⟩:=h;have ne:p≠l:=fun z=>by rw[<- z,e] at hl;cases hl
 show⟨a,b,c,by rw[qf ne];show e,r⟩
theorem Pu.apart{l:Addr}(h:Pu H p)(hl:H l=none):l≠p:=fun z=>by obtain⟨a,b,c,e,r⟩:=h;rw[z,e] at hl;cases hl
theorem ok_nmJ(F:Fun K "_law_names" "_law_names" qak f fd)(T:Txt K mg cc cw)(Kj:DefOk P w K mg base CX0 1 "_law_take" ["_law_purse_here","_law_many_here"] spTkP):FnOk P w K mg base CX0 2 f fd ["_law_purse_here","_law_many_here"] spNmJ:=by
 show F.ok Ko fun _ _ _ s H vs Q E hr h=>?_
 .obtain⟨p,m,rfl,hB,hm,q⟩:=h;have hu:=jV hr;obtain⟨TC5,U⟩:∃ t:TS,t=fun D σ H'=>(∀ u H',Q u H'->D.rt u H')/\∃(x7 W X:Option V) (b first step:Nat) (a:Str),σ=[some (.ref p),some (.int (m:Int)),some (.str L26),some (.int (first:Int)),some (.int (step:Int)),some (.int (b:Int)),some (.str a),x7,W,X]/\But p H H'/\Pu H' p/\step∈stepsJ/\a.length=5/\a.cps.toList.all sg=true:=⟨_,rfl⟩;show⟨_,(qc (qk (i:=2) Ko.nd rfl (Xm rfl) qaM)
 (qc (qk (i:=3) Ko.nd rfl (yJ rfl) (qp Kj (hmR hr) qB (qa (pv 0) (qa qg qd))))
 (qc (qk (i:=4) Ko.nd rfl (yJ rfl) (qu (qv (K:=K) rfl hu) (qW (qa qg (qa qg (qa qg (qa qg (qa qg (qa qg qd))))))) (qp Kj (hmR hr) qB (qa (pv 0) (qa qg qd))) (fun _ _=>rfl)))
 (qc (qk (i:=5) Ko.nd rfl (yJ rfl) (qp Kj (hmR hr) qB (qa (pv 0) (qa qg qd))))
 (qc (qk (i:=6) Ko.nd rfl (yJ rfl) (qaW (K:=K) rfl PySem.F.plainAttrs_str PySem.F.slot_str_join PySem.F.type_str_join (k_join (K:=K) rfl) qaM (qa (q9 (sc:=qh qak) (XN:=["_law_purse_here","_law_many_here","_law_letters","_law_first","_law_step","_law_way","_law_stem","_law_found","_law_k","_law_sign"]) ["_law_k","_law_letters","_law_purse_here"] 1 [2,0] rfl rfl rfl (by room) rfl (by room)
  (jt rfl T.b_range (qa qg qd)) (fun _ _ _ _=>(qo (i:=0) (show(["_law_k","_law_letters","_law_purse_here"]:LS).Nodup by room) rfl (yJ rfl))) qR
  (fun _ _ _ _=>jU)
  (fun _ _ _ _=>(qu (qv (K:=K) rfl hu) (pv 1) (qp Kj (hmR hr) qB (qa (pv 2) (qa qg qd))) (fun _ _=>rfl)))) qd)))
 (qcn TC5 (qc (qk (i:=7) Ko.nd rfl (yJ rfl) (qW qd))
 (qc (jj yY rfl (jt rfl T.b_range (qa (pv 1) qd)) (qo (i:=8) Ko.nd rfl (yJ rfl))
 (qc (qk (i:=9) Ko.nd rfl (yJ rfl) (qu (qv (K:=K) rfl hu) (pv 2) (qw zr (qw (j8 (K:=K) rfl) (pv 3) (qw qce (pv 4) (pv 8))) qg) (fun _ _=>rfl)))
 (qe (qP (qj (j6 (K:=K) rfl hu) (pv 5) qg (qA _)) (qe (qN (qaW (K:=K) rfl yD Yd Ye qO (pv 7) (qa (pv 9) qd)))) (qe (qP (qj (j6 (K:=K) rfl hu) (pv 5) qg (qA _)) (qe (qN (qaW (K:=K) rfl yD Yd Ye qO (pv 7) (qa (qw (j8 (K:=K) rfl) (jE (qeF (K:=K) rfl) (pv 6) zm (jQ qg)) (pv 9)) qd)))) (qe (qP (qj (j6 (K:=K) rfl hu) (pv 5) qg (qA _)) (qe (qN (qaW (K:=K) rfl yD Yd Ye qO (pv 7) (qa (qw (j8 (K:=K) rfl) (pv 9) (jE (qeF (K:=K) rfl) (pv 6) zm (jQ (qw zr (pv 8) qg)))) qd)))) (qe (qN (qaW (K:=K) rfl yD Yd Ye qO (pv 7) (qa (qw (j8 (K:=K) rfl) (jE (qeF (K:=K) rfl) (pv 6) zm (jQ (qw zr (pv 8) qg))) (pv 9)) qd))))))))))))
 (qe (qm (pv 7))))) ?cut5)))))),?_⟩
  case cut5 =>
   intro D σ H1 h;rw[U] at h;obtain⟨hD,x7,W,X,b,first,step,a,rfl,b1,hB1,M,g,y⟩:=h;have lS:a.cps.toList.length=5:=by rw[<- g];simp[Str.length]
   have ac:∀ k,(a.cps.toList.take k).all sg=true:=fun k=>YI.mpr fun c hc=>YI.mp y c (List.mem_of_mem_take hc)
   have af:∀ k:Nat,(Txt.slice a none (some (k:Int))).length=min k 5:=fun k=>by
    have:(Txt.slice a none (some (k:Int))).length=(Txt.slice a none (some (k:Int))).cps.toList.length:=by simp[Str.length]
    rw[this,qbd,yR,lS]
   have as:0<step/\step<=11:=by
    have h:=M;simp only[stepsJ,yy,Yb,YL] at h;lk
   apply⟨by show 0<=sizeLine;decide,fun l hl=>?_⟩;have ae:=hB1.apart hl;apply⟨(m:Int),rfl,by lk,by lk,?_⟩;rw[y0];show zj (lo:=0) (n:=m) (fun i σ H'=>∃(ss:LS) (W X:Option V),σ=[some (.ref p),some (.int (m:Int)),some (.str L26),some (.int (first:Int)),some (.int (step:Int)),some (.int (b:Int)),some (.str a),some (.ref l),W,X]/\H'=upd H1 l (.lst (ss.map V.str))/\ss.length=i/\∀(j:Nat) s,ss[j]?=some s->NmJ b first step j s) ⟨[],_,_,rfl,rfl,rfl,fun j s h=>by simp at h⟩ (fun i σ H' hi hp=>?_) fun σ H' hp=>?_
   .obtain⟨ss,W,X,rfl,rfl,I,L⟩:=hp;have A:upd H1 l (.lst (ss.map V.str)) l=some (.lst (ss.map V.str)):=qb;rw[xQ];apply qcf (.inl ⟨by lk,by lk⟩) ?_;apply vI (by decide) ?_;have ec:((first:Int)+(step:Int)*(i:Int)) % 26=(((first+step*i) % 26:Nat):Int):=by lk
    rw[ec];show .inl (qhf (by room) (qfC (by lk) (by lk)) ?_);rw[y0];have ak:97+(first+step*i) % 26=cJ first step i:=rfl;rw[ak];have N:=cJ_sg first step i;generalize R:cJ first step i=B at N
    have O:∀(s:Str),NmJ b first step i s->∃(aa:LS) (W X:Option V),[some (V.ref p),some (.int (m:Int)),some (.str L26),some (.int (first:Int)),some (.int (step:Int)),some (.int (b:Int)),some (.str a),some (.ref l),some (.int (i:Int)),some (V.str ⟨#[B]⟩)]=[some (.ref p),some (.int (m:Int)),some (.str L26),some (.int (first:Int)),some (.int (step:Int)),some (.int (b:Int)),some (.str a),some (.ref l),W,X]/\upd (upd H1 l (.lst (ss.map V.str))) l (.lst (ss.map V.str++[.str s]))=upd H1 l (.lst (aa.map V.str))/\aa.length=i+1/\∀(j:Nat) s,aa[j]?=some s->NmJ b first step j s:=fun s hs=>by
     show⟨ss++[s],_,_,rfl,?_,by rw[yt,I];rfl,fun j s' G=>?_⟩
     .rw [yu];funext c;by_cases hc:c=l
      .subst hc;rw[qb,qb];rfl
      .rw [qf hc,qf hc,qf hc]
     .by_cases al:j<ss.length
      .rw [Yg al] at G;show L j s' G
      .rw [yP (by lk)] at G
       have e0:j-ss.length=0:=by
        have:=(yc.mp G).1;simp only[yF,Y0] at this;lk
       rw[e0] at G;cases G;have:j=i:=by lk
       rw[this];show hs
    have C:(ss.map V.str).length<sizeLine:=by rw[ya];show qi (by lk)
    apply .inl (.inl (.inl ⟨rfl,rfl,?_⟩));rw[jy];apply qL (fun h=>?_) (fun h=>?_)
    .have hw:(b:Int)=0:=yk h;apply⟨.inl ⟨rfl,_,.of A⟩,?_⟩;apply⟨l,_,_,rfl,rfl,A,C,?_⟩;show O _ ⟨qbp rfl (by simp) (by simp) (by simp[N]),?_⟩;rw[yA (by lk),R];rfl
    .have au:(b:Int)≠0:=fun e=>h (yB e);apply .inl (.inl (.inl ⟨rfl,rfl,?_⟩));rw[jy];apply qL (fun h=>?_) (fun h=>?_)
     .have hw:(b:Int)=1:=yk h;apply⟨.inl ⟨rfl,_,.of A⟩,?_⟩;apply qgS (yi (kh g) (by decide)) ?_;have h2:=af 2;have t2:=qbd a 2;rw[show((2:Nat):Int)=2 from rfl] at h2 t2;apply qfU (by rw[h2];show _+1<=sizeLine;show yW (qi (by lk))) ?_;apply⟨l,_,_,rfl,rfl,A,C,?_⟩;have S:(Txt.slice a none (some 2)++(⟨#[B]⟩:Str)).cps.toList=a.cps.toList.take 2++[B]:=by rw[qa3,t2]
      show O _ ⟨qbp S (by simp) (by simp[lS]) (by rw[X7,ac];simp[N]),?_⟩;rw[yA (by lk),R,S,Xs];rfl
     .have av:(b:Int)≠1:=fun e=>h (yB e);apply .inl (.inl (.inl ⟨rfl,rfl,?_⟩));rw[jy];ext;have e6:(i:Int) % 6=((i % 6:Nat):Int):=by lk
      have h6:=af (i % 6);have t6:=qbd a (i % 6);show qL (fun h=>?_) (fun h=>?_)
      .have hw:(b:Int)=2:=yk h;apply⟨.inl ⟨rfl,_,.of A⟩,?_⟩;apply vI (by decide) ?_;apply qgS (yi (kh g) (by decide)) ?_;rw[e6];show qfU (by rw[h6];show 1+_<=sizeLine;show yW (qi (by lk))) ?_;apply⟨l,_,_,rfl,rfl,A,C,?_⟩;have S:((⟨#[B]⟩:Str)++Txt.slice a none (some ((i % 6:Nat):Int))).cps.toList=B::a.cps.toList.take (i % 6):=by rw[qa3,t6];rfl
       show O _ ⟨qbp S (by simp) (by simp[lS];lk) (by rw[XZ,ac,N];rfl),?_⟩;rw[yG (by lk),R,S];rfl
      .have aw:(b:Int)≠2:=fun e=>h (yB e);apply⟨.inl ⟨rfl,_,.of A⟩,?_⟩;apply vI (by decide) ?_;apply qgS (yi (kh g) (by decide)) ?_;rw[e6];apply qfU (by rw[h6];show _+1<=sizeLine;show yW (qi (by lk))) ?_;apply⟨l,_,_,rfl,rfl,A,C,?_⟩;have S:(Txt.slice a none (some ((i % 6:Nat):Int))++(⟨#[B]⟩:Str)).cps.toList=a.cps.toList.take (i % 6)++[B]:=by rw[qa3,t6]
       show O _ ⟨qbp S (by simp) (by simp[lS];lk) (by rw[X7,ac];simp[N]),?_⟩;rw[yA (by lk),R,S,Xs];rfl
   .obtain⟨ss,W,X,rfl,rfl,I,L⟩:=hp;apply hD _ _ (q l ss _ (b1.new7 hl) (hB1.new hl) (b1.free7 ae hl) ae qb ⟨by lk,nodup_key fun j k s G hk=>?_,fun s hs=>?_⟩ I)
    .have ap:j<ss.length:=(yc.mp G).1;have aq:k<ss.length:=(yc.mp hk).1;show NmJ.inj M (by lk) (by lk) (L j s G) (L k s hk)
    .obtain⟨j,G⟩:=yf hs;show(L j s G).1
  apply⟨p,26,rfl,hB,by decide,by decide,fun first H1 hf b1 hB1=>?_⟩;apply⟨by show 6<=sizeLine;decide,fun m2 Z=>?_⟩;have am:=hB1.apart Z;have b2:=b1.new7 (o:=.lst (stepsJ.map iV)) Z;have em:upd H1 m2 (.lst (stepsJ.map iV)) m2=some (.lst (stepsJ.map iV)):=qb;have ad:Pu (upd H1 m2 (.lst (stepsJ.map iV))) p:=hB1.new Z;have eu:upd H1 m2 (.lst [V.int 1,V.int 3,V.int 5,V.int 7,V.int 9,V.int 11])=upd H1 m2 (.lst (stepsJ.map iV)):=rfl;rw[eu];generalize upd H1 m2 (.lst (stepsJ.map iV))=H2 at b2 em ad;apply⟨p,6,rfl,ad,by decide,by decide,fun d H3 hd b3 ah=>?_⟩;obtain⟨st,M⟩:∃ st,stepsJ[d]?=some st:=⟨_,yb hd⟩;show .inl (zN (b3 _ _ am em) (v:=iV st) (qt (by rw[yd,M];rfl)) ?_);apply⟨p,4,rfl,ah,by decide,by decide,fun b H4 hw b4 ai=>?_⟩;have ag:=(b2.trans7 b3).trans7 b4;apply⟨rfl,?_⟩;apply⟨5,rfl,by decide,by decide,zg (lo:=0) (n:=5) (fun i ys J=>But p H J/\Pu J p/\∃ xs:LS,ys=xs.map V.str/\xs.length=i/\∀ x∈xs,x.length=1/\x.cps.toList.all sg=true) ⟨ag,ai,[],rfl,rfl,fun _ h=>by cases h⟩ (fun i ys J hi hs=>?_) fun ys J hs=>?_⟩
  .obtain⟨bJ,Y,xs,rfl,ao,an⟩:=hs;apply zZ ?_;apply⟨p,26,rfl,Y,by decide,by decide,fun r J2 ar b5 aj=>?_⟩;show .inl (qhf (by room) (qfC (by lk) (by lk)) ?_);show⟨by rw[ya];show qi (by lk),bJ.trans7 b5,aj,xs++[_],by rw[yu];rfl,by rw[yt,ao];rfl,fun x hx=>?_⟩;rcases yC.mp hx with z | z
   .show an x z
   .rw [yH.mp z];show⟨rfl,?_⟩;have:=qgu (c:=97+r) (by lk) (by lk);simp[this]
  .obtain⟨bJ,Y,zs,rfl,hn,h1⟩:=hs;show⟨by rw[ya,hn];decide,fun l5 h5=>?_⟩;apply⟨_,l5,zs,rfl,rfl,SqL.of qb,by rw[sum_ones fun x hx=>(h1 x hx).1,show("":Str).length=0 by room];lk,?_⟩;have g:(Txt.join "" zs).length=5:=by rw[join_len fun x hx=>(h1 x hx).1];lk
   have y:(Txt.join "" zs).cps.toList.all sg=true:=by
    have e:Txt.join "" zs=Str.join "" zs:=Yw.mp (join_plain_closes "" zs);rw[e];show qdS fun x hx=>(h1 x hx).2
   generalize Txt.join "" zs=a at g y ⊢;ext;rw[U];show⟨fun _ _ z=>z,_,_,_,b,first,st,a,rfl,bJ.new7 h5,Y.new h5,ye M,g,y⟩
theorem Kx:FnScope ["_law_purse_here","_law_many_here","_law_way","_law_thin","_law_found","_law_d","_law_k","_law_pair"] ["_law_purse_here","_law_many_here"] (qh qbw):=fS
noncomputable abbrev iT(q:Nat×Nat):HO:=.tup [.int (q.1:Int),.int (q.2:Int)]
def IPL(H:Hp)(l:Addr)(ts:LX)(TI:List (Nat×Nat)):Prop:=H l=some (.lst (ts.map V.ref))/\All2 (fun t q=>H t=some (iT q)) ts TI
theorem IPL.same{l:Addr}{TI:List (Nat×Nat)}(h:IPL H l ts TI)(s:L2.Same H H'):IPL H' l ts TI:=⟨s _ _ h.1,h.2.mono fun _ _ z=>s _ _ z⟩
theorem qf1{a:TA}{R:It->Hp->Prop}(h:a σ H fun vs H1=>∃ i j:Int,vs=[.int i,.int j]/\(-(2 ^ 62)<=i/\i<2 ^ 62/\-(2 ^ 62)<=j/\j<2 ^ 62)/\R (Itr i (j-i).toNat) H1):qgf a σ H R:=h
theorem qbl{i j:Int}{Q:VK}(q:Q (.bl (decide (i=j))) H):qgI K (.int i) (.int j) H Q:=.inl (.inl (.inl ⟨rfl,rfl,by rw[jy];show q⟩))
theorem qe0(h:some (iT q')=some (iT q)):q'=q:=by
 injection h with h
 injection h with h
 injection h with h1 h2
 injection h1 with h1
 injection h2 with h2 _
 injection h2 with h2
 show Xb (by lk) (by lk)
theorem qc6{a b:Addr}(g:H b=some (iT q'))(f:H a=some (iT q)):EqD K H 1 (.ref b) (.ref a) (decide (q'=q)):=by
 by_cases e:b=a
 .subst e;rw[g] at f;have:q'=q:=qe0 f;rw[yB this];show .self
 .have z:=EqT.tup (K:=K) (H:=H) (n:=0) (e:=fun j=>if j=0 then eqV (iV q'.1) (iV q.1) else eqV (iV q'.2) (iV q.2)) (SqT.of g) (SqT.of f) fun j x y c d=>by
   match j,c,d with
   | 0,c,d=>cases c;cases d;show .flat rfl rfl
   | 1,c,d=>cases c;cases d;show .flat rfl rfl
   | n+2,c,d=>simp at c
  have m:((List.range (min [iV q'.1,iV q'.2].length [iV q.1,iV q.2].length)).all (fun j=>if j=0 then eqV (iV q'.1) (iV q.1) else eqV (iV q'.2) (iV q.2))&&[iV q'.1,iV q'.2].length==[iV q.1,iV q.2].length)=decide (q'=q):=by
   have i:eqV (iV q'.1) (iV q.1)=decide (q'.1=q.1):=by
    have:=jy (q'.1:Int) (q.1:Int);rw[yA (by decide)] at this;rw[this];show Yq.mpr (by lk)
   have l:eqV (iV q'.2) (iV q.2)=decide (q'.2=q.2):=by
    have:=jy (q'.2:Int) (q.2:Int);rw[yA (by decide)] at this;rw[this];show Yq.mpr (by lk)
   show((if (0:Nat)=0 then eqV (iV q'.1) (iV q.1) else eqV (iV q'.2) (iV q.2))&&((if (1:Nat)=0 then eqV (iV q'.1) (iV q.1) else eqV (iV q'.2) (iV q.2))&&true)&&true)=_;rw[yG rfl,yA (by decide),i,l,Bool.and_true,Bool.and_true];rw[Yr,yX,yI,yI,yI];show⟨fun h=>Xb h.1 h.2,fun h=>by rw[h];show⟨rfl,rfl⟩⟩
  rw[m] at z;show .deep z e
theorem ipl_nin{l a:Addr}{TI:List (Nat×Nat)}{c:Nat×Nat}{Q:VK}(h:IPL H l ts TI)(n:H a=some (iT c))(q:Q (.bl (!decide (c∈TI))) H):qem K true (.ref a) (.ref l) H Q:=by
 classical
 show .inr (.inr ⟨l,ts.map V.ref,fun z=>decide (∃ t,z=.ref t/\H t=some (iT c)),1,rfl,SqL.of h.1,by decide,fun z hz=>?_,?_⟩)
 .obtain⟨b,o,rfl⟩:=yE.mp hz;obtain⟨q',_,r⟩:=h.2.mem o;have e:=qc6 (K:=K) r n
  have m:decide (∃ t,V.ref b=.ref t/\H t=some (iT c))=decide (q'=c):=by
   apply Yq.mpr;constructor
   .rintro ⟨t,g,d⟩;cases g;rw[r] at d;show qe0 d
   .rintro rfl;show⟨b,rfl,r⟩
  show EqD K H 1 (.ref b) (.ref a) (decide (∃ t,V.ref b=.ref t/\H t=some (iT c)));rw[m];show e
 .have e:((ts.map V.ref).any fun z=>decide (∃ t,z=.ref t/\H t=some (iT c)))=decide (c∈TI):=by
   rw[Yr,YJ,yI];constructor
   .rintro ⟨z,hz,e⟩;obtain⟨t,s,rfl⟩:=yE.mp hz;obtain⟨q',i,r⟩:=h.2.mem s;obtain⟨t',g,d⟩:=yk e;cases g;rw[r] at d;have:q'=c:=qe0 d;rw[<- this];show i
   .intro p;obtain⟨k,j,e⟩:=kc p;have f:k<ts.length:=by rw[h.2.len];show j
    have r:=h.2.at_ k ts[k] TI[k] (yb f) (yb j);show⟨.ref ts[k],yE.mpr ⟨_,Y2 f,rfl⟩,yB ⟨ts[k],rfl,by rw[r,e]⟩⟩
  rw[yG rfl,e];show q
def TJ(m:Nat)(TI:List (Nat×Nat)):Prop:=TI.length<=30/\(∀ q∈TI,q.1<q.2/\q.2<m)/\TI.Nodup
inductive spTsJ(vs:List V)(H:Hp)(Q:VK)(E:XK):Prop|mk (p:Addr) (m:Nat) (_:vs=[.ref p,.int (m:Int)]) (_:Pu H p) (_:m<=14) (_:∀(l:Addr) (ts:LX) (TI:List (Nat×Nat)) (H':Hp),But p H H'->Pu H' p->H l=none->l≠p->IPL H' l ts TI->TJ m TI->Q (.ref l) H')
theorem IPL.butJ{l:Addr}{TI:List (Nat×Nat)}(h:IPL H l ts TI)(b:But p H H')(d:Pu H p)(hl:l≠p):IPL H' l ts TI:=
 ⟨b _ _ hl h.1,h.2.mono fun t q z=>b _ _ (fun e=>by obtain⟨x,y,c,a,_⟩:=d;rw[e,a] at z;cases z) z⟩
theorem ok_tsJ(F:Fun K "_law_ties" "_law_ties" qbw f fd)(T:Txt K mg cc cw)(Kj:DefOk P w K mg base CX0 1 "_law_take" ["_law_purse_here","_law_many_here"] spTkP):FnOk P w K mg base CX0 2 f fd ["_law_purse_here","_law_many_here"] spTsJ:=by
 show F.ok Kx fun _ _ _ _ H vs Q E hr h=>?_
 .obtain⟨p,m,rfl,hB,hm,q⟩:=h;have hu:=jV hr;obtain⟨TC102,hTC102⟩:∃ t0:TS,t0=fun D σ J=>∃(l t:Addr) (B j:Nat) (vd vk:Int) (ts:LX) (TI:List (Nat×Nat)) (M:Nat×Nat),σ=[some (.ref p),some (.int (m:Int)),some (.int (B:Int)),some (.int (j:Int)),some (.ref l),some (.int vd),some (.int vk),some (.ref t)]/\But p H J/\Pu J p/\H l=none/\l≠p/\IPL J l ts TI/\TJ m TI/\J t=some (iT M)/\M.2<m/\0<j/\j<=4 /\
   ∀(J':Hp) (W:LX) (L:List (Nat×Nat)),But p H J'->Pu J' p->IPL J' l W L->TJ m L->D.nx [some (.ref p),some (.int (m:Int)),some (.int (B:Int)),some (.int (j:Int)),some (.ref l),some (.int vd),some (.int vk),some (.ref t)] J':=⟨_,rfl⟩
  show⟨_,(qc (qk (i:=2) Kx.nd rfl (yJ rfl) (qp Kj (hmR hr) qB (qa (pv 0) (qa qg qd))))
 (qc (qk (i:=3) Kx.nd rfl (yJ rfl) (qu (qv (K:=K) rfl hu) (qW (qa qg (qa qg (qa qg (qa qg (qa qg (qa qg qd))))))) (qp Kj (hmR hr) qB (qa (pv 0) (qa qg qd))) (fun _ _=>rfl)))
 (qc (qk (i:=4) Kx.nd rfl (yJ rfl) (qW qd))
 (qc (jj yY rfl (qbF rfl T.b_range (qa qg (qa (pv 1) qd))) (qo (i:=5) Kx.nd rfl (yJ rfl))
 (qe (jj yY rfl (jt rfl T.b_range (qa (qw qbG (pv 1) (pv 5)) qd)) (qo (i:=6) Kx.nd rfl (yJ rfl))
 (qc (qk (i:=7) Kx.nd rfl (yJ rfl) (qu (qv (K:=K) rfl hu) (qW (qa (jO (qa (pv 6) (qa (qw (j8 (K:=K) rfl) (pv 6) (pv 5)) qd))) (qa (jO (qa (qw qbG (pv 5) qg) (qa (qw (j8 (K:=K) rfl) (pv 5) (pv 6)) qd))) (qa (jO (qa (qw zr (pv 5) qg) (qa (qw (j8 (K:=K) rfl) (pv 6) (pv 5)) qd))) (qa (jO (qa (pv 6) (qa (qw (j8 (K:=K) rfl) (pv 6) (pv 5)) qd))) qd))))) (pv 2) (fun _ _=>rfl)))
 (qc (qP (qj (j6 (K:=K) rfl hu) (pv 2) qg (qA _)) (qe (qk (i:=7) Kx.nd rfl (yJ rfl) (jO (qa (qp Kj (hmR hr) qB (qa (pv 0) (qa (pv 5) qd))) (qa (pv 5) qd))))) qy)
 (qcn TC102 (qe (qP (PW.pt (qbD (qj qep (qu (qv (K:=K) rfl hu) (pv 7) qg (fun _ _=>rfl)) (qu (qv (K:=K) rfl hu) (pv 7) qg (fun _ _=>rfl)) (qA _)) (qbD (qj (j9 (K:=K) rfl hu) (pv 7) (pv 4) (by with_unfolding_all rfl)) (qbD (qj qep (qr (jY (K:=K) rfl) rfl T.b_len YQ (qa (pv 4) qd)) qg (qA _)) (qbC (qj (j6 (K:=K) rfl hu) (qp Kj (hmR hr) qB (qa (pv 0) (qa (pv 3) qd))) qg (qA _))))))) (qe (qN (qaW (K:=K) rfl yD Yd Ye qO (pv 4) (qa (pv 7) qd)))) qy)) ?cut102))))))
 (qe (qm (pv 4))))))),?_⟩
  case cut102 =>
   intro D σ J h;rw[hTC102] at h;obtain⟨l,t,B,j,vd,vk,ts,TI,M,rfl,N,A,U,C,G,s,ht,hq,bj,bo,nx⟩:=h;apply .inl (.inr (.inl ⟨t,_,_,_,rfl,rfl,SqT.of ht,rfl,?_⟩));apply .inl (.inr (.inl ⟨t,_,_,_,rfl,rfl,SqT.of ht,rfl,?_⟩));apply qL (fun h1=>?_) (fun h1=>?_)
   .have aw:M.1<M.2:=by have:=yk h1;lk
    apply ipl_nin G ht ?_;apply qL (fun h2=>?_) (fun h2=>?_)
    .have ax:M∉TI:=by simpa using h2
     apply qac G.1 ?_;rw[ya,G.2.len];apply qL (fun h3=>?_) (fun h3=>?_)
     .have bm:TI.length<30:=by have:=yk h3;lk
      apply⟨p,j,rfl,A,bj,by lk,fun X J2 ba b2 O=>?_⟩;have S:=G.butJ b2 A C;have Y:J2 t=some (iT M):=b2 _ _ (fun e=>by obtain⟨x,y,c,e2,_⟩:=A;rw[e,e2] at ht;cases ht) ht;have b3:=N.trans7 b2;apply qbl ?_;apply qL (fun h4=>?_) (fun h4=>?_)
      .ext;show⟨.inl ⟨rfl,_,.of S.1⟩,?_⟩;apply⟨l,_,_,rfl,rfl,S.1,by rw[ya,G.2.len];show qi (by lk),?_⟩;have as:∀{c:Addr} {o:HO},J2 c=some o->(∀ xs,o≠.lst xs)->c≠l:=fun e bd z=>by rw[z,S.1] at e;cases e;show bd _ rfl
       apply nx _ (ts++[t]) (TI++[M]) (fun c u n e=>by rw[qf (fun z=>by rw[z,U] at e;cases e)];show b3 c u n e) (by obtain⟨x,y,c,e2,r⟩:=O;show⟨x,y,c,by rw[qf (Yo C)];show e2,r⟩) ⟨by rw[qb,yu];rfl,All2.snoc (S.2.mono fun t' q z=>?_) ?_⟩ ⟨by rw[yt];show TI.length+1<=30;lk,fun q hq=>?_,?_⟩
       .rw [qf (as z fun xs e=>by cases e)];show z
       .rw [qf (as Y fun xs e=>by cases e)];show Y
       .rcases yC.mp hq with z | z
        .show s.2.1 q z
        .rw [yH.mp z];show⟨aw,by assumption⟩
       .show Yk.mpr ⟨s.2.2,XH _ _,fun a ha b hb e=>by rw[yH.mp hb] at e;show ax (e ▸ ha)⟩
      .ext;show nx _ ts TI b3 O S s
     .ext;show nx _ ts TI N A G s
    .ext;show nx _ ts TI N A G s
   .ext;show nx _ ts TI N A G s
  apply⟨p,4,rfl,hB,by decide,by decide,fun B H1 hw b1 hB1=>?_⟩;apply⟨by show 6<=sizeLine;decide,fun m2 aa=>?_⟩;have bc:=hB1.apart aa;obtain⟨xs,ad⟩:∃ xs:LN,xs=[1,1,2,2,3,4]:=⟨_,rfl⟩
  have bi:∀ x∈xs,0<x/\x<=4:=fun x hx=>by
   rw[ad] at hx;simp only[yy,Yb,YL] at hx;lk
  have bn:xs.length=6:=by rw[ad];rfl
  have b2:=b1.new7 (o:=.lst (xs.map iV)) aa;have em:upd H1 m2 (.lst (xs.map iV)) m2=some (.lst (xs.map iV)):=qb;have O:Pu (upd H1 m2 (.lst (xs.map iV))) p:=hB1.new aa;have eu:upd H1 m2 (.lst [V.int 1,V.int 1,V.int 2,V.int 2,V.int 3,V.int 4])=upd H1 m2 (.lst (xs.map iV)):=by rw[ad];rfl
  rw[eu];generalize upd H1 m2 (.lst (xs.map iV))=H2 at b2 em O;apply⟨p,6,rfl,O,by decide,by decide,fun d H3 hd b3 an=>?_⟩;obtain⟨j,au⟩:∃ st,xs[d]?=some st:=⟨_,yb (by lk)⟩;have I:=bi j (ye au);show .inl (zN (b3 _ _ bc em) (v:=iV j) (qt (by rw[yd,au];rfl)) ?_);have af:=b2.trans7 b3;apply⟨by show 0<=sizeLine;decide,fun l hl=>?_⟩;have C:=an.apart hl;have U:=af.free7 C hl;have b4:=af.new7 (o:=.lst []) hl;have ao:Pu (upd H3 l (.lst [])) p:=an.new hl;have aq:IPL (upd H3 l (.lst [])) l [] []:=⟨qb,.nil⟩;generalize upd H3 l (.lst [])=H4 at b4 ao aq;apply qf1 ?_;apply⟨_,_,rfl,⟨by decide,by decide,by lk,by lk⟩,?_⟩;rw[show((m:Int)-1).toNat=m-1 by lk];show zj (lo:=1) (n:=m-1) (fun i σ J=>But p H J/\Pu J p/\∃(ts:LX) (TI:List (Nat×Nat)) (y5 y6 y7:Option V),σ=[some (.ref p),some (.int (m:Int)),some (.int (B:Int)),some (.int (j:Int)),some (.ref l),y5,y6,y7]/\IPL J l ts TI/\TJ m TI) ⟨b4,ao,[],[],_,_,_,rfl,aq,by decide,fun q hq=>(by cases hq),.nil⟩ (fun i σ J hi hp=>?_) fun σ J hp=>?_
  .obtain⟨N,A,ts,TI,y5,y6,y7,rfl,G,s⟩:=hp;apply⟨_,rfl,by lk,by lk,?_⟩;rw[show((m:Int)-(1+(i:Int))).toNat=m-(1+i) by lk];show zj (lo:=0) (n:=m-(1+i)) (fun k σ J=>But p H J/\Pu J p/\∃(ts:LX) (TI:List (Nat×Nat)) (y6 y7:Option V),σ=[some (.ref p),some (.int (m:Int)),some (.int (B:Int)),some (.int (j:Int)),some (.ref l),some (.int (1+(i:Int))),y6,y7]/\IPL J l ts TI/\TJ m TI) ⟨N,A,ts,TI,_,_,rfl,G,s⟩ (fun k σ J hk hp=>?_) fun σ J hp=>?_
   .obtain⟨N,A,ts,TI,y6,y7,rfl,G,s⟩:=hp;rw[xQ];apply⟨by show 2<=sizeLine;decide,fun Z bf=>?_⟩;have s1:=qG (Sr J) (o:=.tup [.int ((k:Int)),.int ((k:Int)+(1+(i:Int)))]) bf
    have ai:upd J Z (.tup [.int ((k:Int)),.int ((k:Int)+(1+(i:Int)))]) Z=some (iT (k,k+(1+i))):=by
     rw[qb];show _=some (HO.tup [V.int ((k:Nat):Int),V.int ((k+(1+i):Nat):Int)]);rw[show((k:Nat):Int)=(k:Int) by lk,show((k+(1+i):Nat):Int)=(k:Int)+(1+(i:Int)) by lk]
    generalize upd J Z (.tup [.int ((k:Int)),.int ((k:Int)+(1+(i:Int)))])=J1 at s1 ai;apply⟨by show 2<=sizeLine;decide,fun t2 Y=>?_⟩;have s2:=qG (Sr J1) (o:=.tup [.int (1+(i:Int)-1),.int (1+(i:Int)+(k:Int))]) Y
    have aj:upd J1 t2 (.tup [.int (1+(i:Int)-1),.int (1+(i:Int)+(k:Int))]) t2=some (iT (1+i-1,1+i+k)):=by
     rw[qb];show _=some (HO.tup [V.int ((1+i-1:Nat):Int),V.int ((1+i+k:Nat):Int)]);rw[show((1+i-1:Nat):Int)=1+(i:Int)-1 by lk,show((1+i+k:Nat):Int)=1+(i:Int)+(k:Int) by lk]
    generalize upd J1 t2 (.tup [.int (1+(i:Int)-1),.int (1+(i:Int)+(k:Int))])=J2 at s2 aj;apply vI (by decide) ?_;apply⟨by show 2<=sizeLine;decide,fun t3 bg=>?_⟩;have s3:=qG (Sr J2) (o:=.tup [.int ((1+(i:Int)) % 3),.int ((k:Int)+(1+(i:Int)))]) bg
    have ak:upd J2 t3 (.tup [.int ((1+(i:Int)) % 3),.int ((k:Int)+(1+(i:Int)))]) t3=some (iT ((1+i) % 3,k+(1+i))):=by
     rw[qb];show _=some (HO.tup [V.int (((1+i) % 3:Nat):Int),V.int ((k+(1+i):Nat):Int)]);rw[show(((1+i) % 3:Nat):Int)=(1+(i:Int)) % 3 by lk,show((k+(1+i):Nat):Int)=(k:Int)+(1+(i:Int)) by lk]
    generalize upd J2 t3 (.tup [.int ((1+(i:Int)) % 3),.int ((k:Int)+(1+(i:Int)))])=J3 at s3 ak;apply⟨by show 2<=sizeLine;decide,fun t4 bh=>?_⟩;have s4:=qG (Sr J3) (o:=.tup [.int ((k:Int)),.int ((k:Int)+(1+(i:Int)))]) bh
    have al:upd J3 t4 (.tup [.int ((k:Int)),.int ((k:Int)+(1+(i:Int)))]) t4=some (iT (k,k+(1+i))):=by
     rw[qb];show _=some (HO.tup [V.int ((k:Nat):Int),V.int ((k+(1+i):Nat):Int)]);rw[show((k:Nat):Int)=(k:Int) by lk,show((k+(1+i):Nat):Int)=(k:Int)+(1+(i:Int)) by lk]
    generalize upd J3 t4 (.tup [.int ((k:Int)),.int ((k:Int)+(1+(i:Int)))])=J4 at s4 al;apply⟨by show 4<=sizeLine;decide,fun g hg=>?_⟩;have s5:=qG (Sr J4) (o:=.lst [.ref Z,.ref t2,.ref t3,.ref t4]) hg;have eg:upd J4 g (.lst [.ref Z,.ref t2,.ref t3,.ref t4]) g=some (.lst [.ref Z,.ref t2,.ref t3,.ref t4]):=qb;generalize upd J4 g (.lst [.ref Z,.ref t2,.ref t3,.ref t4])=J5 at s5 eg;have ae:=(((s1.trans s2).trans s3).trans s4).trans s5
    obtain⟨t,M,bb,ht,be⟩:∃(t:Addr) (M:Nat×Nat),[V.ref Z,V.ref t2,V.ref t3,V.ref t4][B]?=some (.ref t)/\J5 t=some (iT M)/\M.2<m:=by
     have e1:=s5 _ _ (s4 _ _ (s3 _ _ (s2 _ _ ai)));have e2:=s5 _ _ (s4 _ _ (s3 _ _ aj));have e3:=s5 _ _ (s4 _ _ ak);have e4:=s5 _ _ al
     match B,hw with
     | 0,_=>show⟨Z,_,rfl,e1,by show k+(1+i)<m;lk⟩
     | 1,_=>show⟨t2,_,rfl,e2,by show 1+i+k<m;lk⟩
     | 2,_=>show⟨t3,_,rfl,e3,by show k+(1+i)<m;lk⟩
     | 3,_=>show⟨t4,_,rfl,e4,by show k+(1+i)<m;lk⟩
    apply .inl (zN eg (qt bb) ?_);have ah:=fun(c:Addr) (o:HO) (n:c≠p) (e:H c=some o)=>ae _ _ (N c o n e);have R:Pu J5 p:=by obtain⟨x,y,c,e2,r⟩:=A;show⟨x,y,c,ae _ _ e2,r⟩
    have ar:=G.same ae;apply qbl ?_;apply qL (fun h3=>?_) (fun h3=>?_)
    .ext;show⟨p,1+i,?_,R,by lk,by lk,fun X J6 ba b6 ay=>?_⟩
     .show [V.ref p,V.int (1+(i:Int))]=_;rw[show((1+i:Nat):Int)=1+(i:Int) by lk]
     have az:=ar.butJ b6 R C;apply⟨by show 2<=sizeLine;decide,fun t6 ac=>?_⟩;have av:=qG (Sr J6) (o:=.tup [.int (X:Int),.int (1+(i:Int))]) ac
     have am:upd J6 t6 (.tup [.int (X:Int),.int (1+(i:Int))]) t6=some (iT (X,1+i)):=by
      rw[qb];show _=some (HO.tup [V.int (X:Int),V.int ((1+i:Nat):Int)]);rw[show((1+i:Nat):Int)=1+(i:Int) by lk]
     have ag:But p H (upd J6 t6 (.tup [.int (X:Int),.int (1+(i:Int))])):=(But.trans7 ah b6).new7 ac;have ap:Pu (upd J6 t6 (.tup [.int (X:Int),.int (1+(i:Int))])) p:=ay.new ac;generalize upd J6 t6 (.tup [.int (X:Int),.int (1+(i:Int))])=J7 at av am ag ap;ext;rw[hTC102];show⟨l,t6,B,j,_,_,ts,TI,(X,1+i),rfl,ag,ap,U,C,az.same av,s,am,by show 1+i<m;lk,I.1,I.2,fun J' W L h1 h2 h3 h4=>⟨h1,h2,W,L,_,_,rfl,h3,h4⟩⟩
    .ext;rw[hTC102];show⟨l,t,B,j,_,_,ts,TI,M,rfl,ah,R,U,C,ar,s,ht,be,I.1,I.2,fun J' W L h1 h2 h3 h4=>⟨h1,h2,W,L,_,_,rfl,h3,h4⟩⟩
   .obtain⟨N,A,ts,TI,y6,y7,rfl,G,s⟩:=hp;apply⟨N,A,ts,TI,_,_,_,rfl,G,s⟩
  .obtain⟨N,A,ts,TI,y5,y6,y7,rfl,G,s⟩:=hp;apply q l ts TI J N A U C G s
theorem KZ:FnScope ["_law_names_here","_law_ties_here","_law_handed","_law_one","_law_other"] ["_law_names_here","_law_ties_here"] (qh qbx):=fS
theorem Wt.ir(W:Wt cw H x ss ns tps):∀ a b,tA tps a b->a≠b:=fun a b z e=>by
 rcases z with z | z
 .show(W.ok _ z).2.2 e
 .show(W.ok _ z).2.2 e.symm
noncomputable def tn(ss:LS)(i:Nat):Str:=ss.getD i ""
noncomputable def nmP(ss:LS)(p:Nat×Nat):Str×Str:=(tn ss p.1,tn ss p.2)
theorem zX(h:i<ss.length):ss[i]?=some (tn ss i):=by unfold tn;rw[Yi,yb h];rfl
theorem qbV(h:i<ss.length):tn ss i∈ss:=ye (zX h)
theorem qaa(c:ss.Nodup)(a:i<ss.length)(b:j<ss.length)(e:tn ss i=tn ss j):i=j:=qz c (zX a) (by rw[e];show zX b)
theorem qej{n:Addr}{Q:VK}(h:H n=some (.lst (ss.map V.str)))(a:i<ss.length)(q:Q (.str (tn ss i)) H):qgH K (.ref n) (.int (i:Int)) H Q:=
 .inl (zN h (v:=.str (tn ss i)) (qt (by rw[yd,zX a];rfl)) q)
theorem qdX:∀{l m:LP},l.Nodup->(∀ x∈l,x∈m)->l.length<=m.length
 | [],_,_,_=>YS _
 | x::r,m,hn,h=>by
  obtain⟨h1,c⟩:=yo.mp hn;have a:=h x yO;have d:=qdX (l:=r) (m:=m.erase x) c fun y b=>(Xr (fun e=>h1 (by rw[<- e];show b))).mpr (h y (yz _ b));rw[YZ a] at d;have:0<m.length:=Y5 a;simp only[yF];lk
noncomputable def hdP(ss:LS)(q:Nat×Nat):Str×Str:=if (q.1+q.2) % 2=0 then nmP ss q else((nmP ss q).2,(nmP ss q).1)
theorem qe1(ss:LS)(q:Nat×Nat):hdP ss q=nmP ss q\/hdP ss q=((nmP ss q).2,(nmP ss q).1):=by
 unfold hdP;split
 .show .inl rfl
 .show .inr rfl
theorem nm_one(a:ss.Nodup){p:Nat×Nat}(b:p.1<p.2/\p.2<ss.length)(c:q.1<q.2/\q.2<ss.length)(e:nmP ss p=nmP ss q\/nmP ss p=((nmP ss q).2,(nmP ss q).1)):p=q:=by
 rcases e with e | e
 .show Xb (qaa a (by lk) (by lk) (congrArg Prod.fst e)) (qaa a b.2 c.2 (congrArg Prod.snd e))
 .have h1:p.1=q.2:=qaa a (by lk) (by lk) (congrArg Prod.fst e);have d:p.2=q.1:=qaa a (by lk) (by lk) (congrArg Prod.snd e);lk
theorem qfp(b:ss.Nodup){TI:List (Nat×Nat)}(h:TJ ss.length TI):∀ ab∈TI.map (nmP ss),ab.1∈ss/\ab.2∈ss/\ab.1≠ab.2:=fun ab a=>by
 obtain⟨q,c,rfl⟩:=yE.mp a;have:=h.2.1 q c;show⟨qbV (by lk),qbV this.2,fun e=>by have:=qaa b (by lk) this.2 e;lk⟩
theorem hd_tgo(i:ss.Nodup){TI:List (Nat×Nat)}(h:TJ ss.length TI):TGo ss (TI.map (hdP ss)):=by
 show⟨by rw[ya];show h.1,fun ab b=>?_,?_⟩
 .obtain⟨q,d,rfl⟩:=yE.mp b;obtain⟨h1,f,g⟩:=qfp i h _ (kg d);rcases qe1 ss q with e | e<;>rw[e]
  .show⟨h1,f,g⟩
  .show⟨f,h1,g.symm⟩
 .show YX.mpr (h.2.2.imp_of_mem fun{p q} j d c=>?_);have k:¬ (nmP ss p=nmP ss q\/nmP ss p=((nmP ss q).2,(nmP ss q).1)):=fun e=>c (nm_one i (h.2.1 p j) (h.2.1 q d) e);have a:∀{x y:Str×Str},(x.2,x.1)=y->x=(y.2,y.1):=fun{x y} e=>by rw[<- e]
  rcases qe1 ss p with e | e<;>rcases qe1 ss q with e' | e'<;>show⟨fun z=>k ?_,fun z=>k ?_⟩<;>rw[e,e'] at z
  .show .inl z
  .show .inr z
  .show .inr z
  .show .inl z
  .show .inr (a z)
  .show .inl (a z)
  .show .inl (a z)
  .show .inr (a z)
theorem hd_tA{TI:List (Nat×Nat)}:tA (TI.map (hdP ss)) a b↔tA (TI.map (nmP ss)) a b:=by
 have k:∀{a b:Str},(a,b)∈TI.map (hdP ss)->tA (TI.map (nmP ss)) a b:=fun{a b} h=>by
  obtain⟨q,c,e⟩:=yE.mp h;have m:nmP ss q∈TI.map (nmP ss):=kg c;rcases qe1 ss q with z | z<;>rw[z] at e
  .rw [e] at m;show .inl m
  .have:nmP ss q=(b,a):=Xb (congrArg Prod.snd e) (congrArg Prod.fst e);rw[this] at m;show .inr m
 have k':∀{a b:Str},(a,b)∈TI.map (nmP ss)->tA (TI.map (hdP ss)) a b:=fun{a b} h=>by
  obtain⟨q,c,e⟩:=yE.mp h;have m:hdP ss q∈TI.map (hdP ss):=kg c;rcases qe1 ss q with z | z<;>rw[z,e] at m
  .show .inl m
  .show .inr m
 show⟨fun h=>h.elim k fun z=>(k z).symm,fun h=>h.elim k' fun z=>(k' z).symm⟩
theorem tj_few{TI:List (Nat×Nat)}(hw:WOk ss ns)(l:Adj ss ns (TI.map (nmP ss)))(d:TJ ss.length TI):(qE ss ns ss.length).length<=30:=by
 show yi (qdX (m:=TI.map (nmP ss)) (qeW hw) fun ab h=>?_) (by rw[ya];show d.1);obtain⟨z,i,j,o,n,p⟩:=(zn hw l (a:=ab.1) (b:=ab.2)).mp h;rcases z with z | z
 .show z
 .obtain⟨q,r,e⟩:=yE.mp z;have c:=d.2.1 q r;have f:tn ss q.1=ab.2:=congrArg Prod.fst e;have g:tn ss q.2=ab.1:=congrArg Prod.snd e;have:=qz hw.nd (by rw[<- f];show zX (by lk)) p;have:=qz hw.nd (by rw[<- g];show zX c.2) n;lk
theorem wt_new{y:Addr}(h:WebN H0 cw H y ss ns)(e:qbR ss ns kps)(g:TGo ss kps):Wt cw H y ss ns kps:=
 ⟨h.web,fun a b s t d c=>by rw[e.2.2 a b s t d c,yI],g.inn⟩
theorem Wt.to{y:Addr}(h:Wt cw H y ss ns kps)(ok:∀ ab∈tps,ab.1∈ss/\ab.2∈ss/\ab.1≠ab.2)(e:∀ a b,a∈ss->b∈ss->(tA kps a b↔tA tps a b)):Wt cw H y ss ns tps:=
 ⟨h.web,fun a b s t c d=>(h.adj a b s t c d).trans (e s t (ye c) (ye d)),ok⟩
theorem WebN.older(h:WebN H1 cw H x ss ns)(s:L2.Same H0 H1):WebN H0 cw H x ss ns:=by
 obtain⟨j,d,ol,n,h1,a,b,c,e,f,g,i⟩:=h;show⟨j,d,ol,n,h1,a,b,c,e,s.free f,s.free g,s.free i⟩
inductive spMdJ(cw:Addr)(vs:List V)(H:Hp)(Q:VK)(E:XK):Prop|mk (n l:Addr) (ss:LS) (ts:LX) (TI:List (Nat×Nat)) (_:vs=[.ref n,.ref l]) (_:H n=some (.lst (ss.map V.str))) (_:NOk ss) (_:IPL H l ts TI) (_:TJ ss.length TI) (_:∀(b:Addr) (ns:LN) (H':Hp),L2.Same H H'->H b=none->WebN H cw H' b ss ns->Wt cw H' b ss ns (TI.map (nmP ss))->Q (.ref b) H')
noncomputable def qaA(ns:LN)(a b:Nat):Bool:=(ns.getD a 0).testBit b
def BtJ(n:Nat)(TI:List (Nat×Nat))(bs:LN):Prop:=bs.length=n/\(∀ a,bs.getD a 0<2 ^ n)/\∀ a b,qaA bs a b=true↔((a,b)∈TI\/(b,a)∈TI)
inductive spBtJ(vs:List V)(H:Hp)(Q:VK)(E:XK):Prop|mk (l:Addr) (n:Nat) (ts:LX) (TI:List (Nat×Nat)) (_:vs=[.int (n:Int),.ref l]) (_:n<=14) (_:IPL H l ts TI) (_:TJ n TI) (_:∀(b:Addr) (bs:LN) (H':Hp),L2.Same H H'->H b=none->H' b=some (.lst (zq bs))->BtJ n TI bs->Q (.ref b) H')
theorem qco{m:Addr}{Q:VK}(e:H m=some (.lst (l.map V.str)))(q:Q (.bl (decide (s∈l))) H):qem K false (.str s) (.ref m) H Q:=
 .inl ⟨m,_,rfl,.inl (SqL.of e),rfl,flat_strs l,by rw[yA (by decide),qdq];show q⟩
theorem qgy{m l y:Addr}{Q:VK}(F:G m=some (.lst (ss.map V.str)))(g:ss.length<=14)(nd:ss.Nodup)(H:∀ s∈ss,zR s=true)(C:PL G l us kps)(j:TGo ss kps)(p:G y=none)(D:G dx=none)(i:dx≠y)
  (h:∀ ns H2,L2.Same G H2->WebN G cw H2 y ss ns->Wt cw H2 y ss ns kps->Q .non H2):spWeb cw [.ref y,.ref m,.ref l] (upd (upd G dx (.own y)) y (.ins cw dx [])) Q E:=by
 have f:=qG (qG (Sr G) (o:=.own y) D) (o:=.ins cw dx []) (show upd G dx (.own y) y=none by rw[qf (Yo i)];show p);show⟨y,dx,m,l,ss,us,kps,rfl,qb,f _ _ F,g,nd,H,C.same f,j,fun ns H' b B A=>?_⟩
 have a:WebN G cw H' y ss ns:=by
  obtain⟨I,d,ol,n,h1,q,r,t,u,v,w,x⟩:=B
  have k:∀ c,upd (upd G dx (.own y)) y (.ins cw dx []) c=none->G c=none:=fun c z=>by
   cases e:G c with
   | none=>rfl
   | some o=>rw[f _ _ e] at z;cases z
  show⟨I,d,ol,n,h1,q,r,t,u,k _ v,k _ w,k _ x⟩
 show h ns H' (fun c o e=>b c o (fun z=>by rw[z,p] at e;cases e) (f _ _ e)) a (wt_new a A j)
theorem ok_mdJ(F:Fun K "_law_made" "_law_made" qbx f fd)(T:Txt K mg cc cw)(u9:MakeOk P w K mg base CX0 5 cw "Web" ["self","names","ties"] (spWeb cw)):FnOk P w K mg base CX0 7 f fd ["_law_names_here","_law_ties_here"] (spMdJ cw):=by
 show F.ok KZ fun _ _ _ _ H vs Q E hr h=>?_
 .obtain⟨n,l,ss,ts,TI,rfl,hn,I,G,Z,q⟩:=h;have R:=jV hr;show⟨_,(qc (qk (i:=2) KZ.nd rfl (yJ rfl) (qW qd))
 (qc (jj yY rfl (qdM (K:=K) rfl (pv 1)) (qbE rfl (jl (qo (i:=3) KZ.nd rfl (yJ rfl)) (jl (qo (i:=4) KZ.nd rfl (yJ rfl)) qaG)))
 (qe (qN (qaW (K:=K) rfl yD Yd Ye qO (pv 2) (qa (qu (qv (K:=K) rfl R) (qW (qa (jO (qa (qu (qv (K:=K) rfl R) (pv 0) (pv 3) (fun _ _=>rfl)) (qa (qu (qv (K:=K) rfl R) (pv 0) (pv 4) (fun _ _=>rfl)) qd))) (qa (jO (qa (qu (qv (K:=K) rfl R) (pv 0) (pv 4) (fun _ _=>rfl)) (qa (qu (qv (K:=K) rfl R) (pv 0) (pv 3) (fun _ _=>rfl)) qd))) qd))) (qw zr (qw (j8 (K:=K) rfl) (pv 3) (pv 4)) qg) (fun _ _=>rfl)) qd)))))
 (qe (qm (qaY u9 (hmR hr) (qa (zl (qaK (K:=K) rfl rfl) rfl T.b_list xp (qa (pv 0) qd)) (qa (pv 2) qd))))))),?_⟩
  apply⟨by show 0<=sizeLine;decide,fun h M=>?_⟩;have s1:=qG (Sr H) (o:=.lst []) M;have eh:upd H h (.lst []) h=some (.lst []):=qb;generalize upd H h (.lst [])=H1 at s1 eh;apply qfl ?_;ext;have hh:H h=none:=M;show⟨l,_,rfl,.of (s1 _ _ G.1),jc (xs:=ts.map V.ref) (fun i σ J=>L2.Same H J/\∃(us:LX) (y3 y4:Option V),σ=[some (.ref n),some (.ref l),some (.ref h),y3,y4]/\J h=some (.lst (us.map V.ref))/\All2 (fun t ab=>J t=some (.tup [.str ab.1,.str ab.2])) us ((TI.take i).map (hdP ss))) ⟨s1,[],_,_,rfl,eh,.nil⟩ (fun i σ J _ O=>.of (O.1 _ _ G.1)) (fun i x σ J hx O=>?_) fun σ J O=>?_⟩
  .obtain⟨v,us,y3,y4,rfl,Y,D⟩:=O;rw[yd] at hx;obtain⟨u,S,rfl⟩:=yn.mp hx;have hi:i<TI.length:=by rw[<- G.2.len];show(yc.mp S).1
   obtain⟨d,A⟩:∃ d,TI[i]?=some d:=⟨_,yb hi⟩;have ah:=v _ _ (G.2.at_ i u d S A);have hq:=Z.2.1 d (ye A);have m:=v _ _ hn;have ak:=Z.1;show⟨u,_,rfl,.of ah,rfl,_,_,rfl,_,_,rfl,rfl,?_⟩;apply⟨.inl ⟨rfl,_,.of Y⟩,?_⟩;apply qej m (by lk) ?_;apply qej m hq.2 ?_;apply⟨by show 2<=sizeLine;decide,fun r af=>?_⟩;have j:=qG (Sr J) (o:=.tup [.str (tn ss d.1),.str (tn ss d.2)]) af;have B:upd J r (.tup [.str (tn ss d.1),.str (tn ss d.2)]) r=some (.tup [.str (tn ss d.1),.str (tn ss d.2)]):=qb;generalize upd J r (.tup [.str (tn ss d.1),.str (tn ss d.2)])=X at j B;apply qej (j _ _ m) hq.2 ?_;apply qej (j _ _ m) (by lk) ?_;apply⟨by show 2<=sizeLine;decide,fun s ag=>?_⟩;have W:=qG (Sr X) (o:=.tup [.str (tn ss d.2),.str (tn ss d.1)]) ag;have C:upd X s (.tup [.str (tn ss d.2),.str (tn ss d.1)]) s=some (.tup [.str (tn ss d.2),.str (tn ss d.1)]):=qb;generalize upd X s (.tup [.str (tn ss d.2),.str (tn ss d.1)])=J3 at W C;apply⟨by show 2<=sizeLine;decide,fun g hg=>?_⟩;have s4:=qG (Sr J3) (o:=.lst [.ref r,.ref s]) hg;have eg:upd J3 g (.lst [.ref r,.ref s]) g=some (.lst [.ref r,.ref s]):=qb;generalize upd J3 g (.lst [.ref r,.ref s])=J4 at s4 eg;apply vI (by decide) ?_
   obtain⟨t,ae,ht⟩:∃ t,atI [V.ref r,V.ref s] (((d.1:Int)+(d.2:Int)) % 2)=some (.ref t)/\J4 t=some (.tup [.str (hdP ss d).1,.str (hdP ss d).2]):=by
    by_cases h0:(d.1+d.2) % 2=0
    .rw [show((d.1:Int)+(d.2:Int)) % 2=((0:Nat):Int) by lk];show⟨r,qt rfl,?_⟩;unfold hdP;rw[yG h0];show s4 _ _ (W _ _ B)
    .rw [show((d.1:Int)+(d.2:Int)) % 2=((1:Nat):Int) by lk];show⟨s,qt rfl,?_⟩;unfold hdP;rw[yA h0];show s4 _ _ C
   show .inl (zN eg ae ?_);have p:=(j.trans W).trans s4;have e4:=p _ _ Y;ext;have ai:us.length<=30:=by rw[D.len,ya,yR];lk
   show⟨h,_,_,rfl,rfl,e4,by rw[ya];show qi (by lk),?_⟩;have N:∀{c:Addr} {o:HO},J4 c=some o->(∀ xs,o≠.lst xs)->c≠h:=fun e y z=>by rw[z,e4] at e;cases e;show y _ rfl
   show⟨fun c o e=>?_,us++[t],_,_,rfl,by rw[qb,yu];rfl,?_⟩
   .rw [qf (fun z=>by rw[z,hh] at e;cases e)];show(v.trans p) c o e
   .rw [yM,A,yu];show All2.snoc (D.mono fun t' ab z=>?_) ?_
    .rw [qf (N (p _ _ z) fun xs e=>by cases e)];show p _ _ z
    .rw [qf (N ht fun xs e=>by cases e)];show ht
  .obtain⟨v,us,y3,y4,rfl,Y,D⟩:=O;have e:(ts.map V.ref).length=TI.length:=by rw[ya,G.2.len]
   rw[e,yS] at D;apply .inl ⟨n,_,rfl,.inl (.of (v _ _ hn)),fun c1 ad=>?_⟩;have j:=qG (Sr J) (o:=.lst (ss.map V.str)) ad;have ec:upd J c1 (.lst (ss.map V.str)) c1=some (.lst (ss.map V.str)):=qb;generalize upd J c1 (.lst (ss.map V.str))=X at j ec;apply fun x' aj U L y=>?_;show qgy ec I.few I.nd I.nm ⟨j _ _ Y,D.mono fun t ab z=>j _ _ z⟩ (hd_tgo I.nd Z) U L y fun ns H3 W aa ac=>⟨rfl,q x' ns H3 ((v.trans j).trans W) ((v.trans j).free U) (aa.older (v.trans j)) (ac.to (qfp I.nd Z) fun a b _ _=>hd_tA)⟩
theorem K0:FnScope ["_law_many_here","_law_ties_here","_law_found","_law_one","_law_other"] ["_law_many_here","_law_ties_here"] (qh qby):=fS
theorem btJ_zero(n:Nat):BtJ n [] (List.replicate n 0):=by
 have z:∀ a,(List.replicate n 0).getD a 0=0:=fun a=>by
  rw[Yi,x0];split<;>rfl
 show⟨YR,fun a=>by rw[z a];show Xk n,fun a b=>?_⟩;unfold qaA;rw[z a];simp
theorem btJ_put{TI:List (Nat×Nat)}{bs:LN}(h:BtJ n TI bs)(i:q.1<q.2/\q.2<n):BtJ n (TI++[q]) ((bs.set q.1 (bs.getD q.1 0 ||| 2 ^ q.2)).set q.2 (bs.getD q.2 0 ||| 2 ^ q.1)):=by
 obtain⟨hl,f,j⟩:=h;have l1:q.1<bs.length:=by lk
 have l2:q.2<(bs.set q.1 (bs.getD q.1 0 ||| 2 ^ q.2)).length:=by rw[xE];lk
 have c:q.1≠q.2:=by lk
 have g:∀ a,((bs.set q.1 (bs.getD q.1 0 ||| 2 ^ q.2)).set q.2 (bs.getD q.2 0 ||| 2 ^ q.1)).getD a 0=if q.2=a then bs.getD q.2 0 ||| 2 ^ q.1 else if q.1=a then bs.getD q.1 0 ||| 2 ^ q.2 else bs.getD a 0:=fun a=>by rw[zv l2,zv l1]
 show⟨by rw[xE,xE,hl],fun a=>?_,fun a b=>?_⟩
 .rw [g a];split
  .show xr (f _) (xm (by decide) (by lk))
  .split
   .show xr (f _) (xm (by decide) i.2)
   .show f a
 .have base:=j a b;unfold qaA at base ⊢;rw[g a,yC,yC,yH,yH];by_cases e:q.2=a
  .subst e;rw[yG rfl,YT,YH,Y1,base,yI];constructor
   .rintro ((z | z) | z)
    .show .inl (.inl z)
    .show .inr (.inl z)
    .show .inr (.inr (by rw[<- z]))
   .rintro ((z | z) | (z | z))
    .show .inl (.inl z)
    .show absurd (congrArg Prod.fst z) (Yo c)
    .show .inl (.inr z)
    .show .inr (congrArg Prod.fst z).symm
  .rw [yA e];by_cases d:q.1=a
   .subst d;rw[yG rfl,YT,YH,Y1,base,yI];constructor
    .rintro ((z | z) | z)
     .show .inl (.inl z)
     .show .inr (.inl z)
     .show .inl (.inr (by rw[<- z]))
    .rintro ((z | z) | (z | z))
     .show .inl (.inl z)
     .show .inr (congrArg Prod.snd z).symm
     .show .inl (.inr z)
     .show absurd (congrArg Prod.snd z) c
   .rw [yA d,base];constructor
    .rintro (z | z)
     .show .inl (.inl z)
     .show .inr (.inl z)
    .rintro ((z | z) | (z | z))
     .show .inl z
     .show absurd (congrArg Prod.fst z).symm d
     .show .inr z
     .show absurd (congrArg Prod.snd z).symm e
theorem ok_btJ(F:Fun K "_law_bits" "_law_bits" qby f fd)(T:Txt K mg cc cw):FnOk P w K mg base CX0 1 f fd ["_law_many_here","_law_ties_here"] spBtJ:=by
 show F.ok K0 fun _ _ _ _ H vs Q E W h=>?_
 .obtain⟨l,n,ts,TI,rfl,X,j,R,q⟩:=h;have t:=jV W;show⟨_,(qc (qk (i:=2) K0.nd rfl (yJ rfl) (qw qeA (qW (qa qg qd)) (pv 0)))
 (qc (jj yY rfl (qdM (K:=K) rfl (pv 1)) (qbE rfl (jl (qo (i:=3) K0.nd rfl (yJ rfl)) (jl (qo (i:=4) K0.nd rfl (yJ rfl)) qaG)))
 (qc (jC (qw qdc (qu (qv (K:=K) rfl t) (pv 2) (pv 3) (fun _ _=>rfl)) (qw zY qg (pv 4))) (jN (pv 2) (pv 3) (jP t)))
 (qe (jC (qw qdc (qu (qv (K:=K) rfl t) (pv 2) (pv 4) (fun _ _=>rfl)) (qw zY qg (pv 3))) (jN (pv 2) (pv 4) (jP t))))))
 (qe (qm (pv 2))))),?_⟩
  apply⟨by show 1<=sizeLine;decide,fun z B=>?_⟩;have N:=qG (Sr H) (o:=.lst [.int 0]) B;apply⟨z,_,_,rfl,rfl,qb,by lk,by lk,by show 1*_<=sizeLine;rw[y0];show yW (qi (by lk)),fun b L=>?_⟩;rw[y0,qcZ];have C:=qG N (o:=.lst (zq (List.replicate n 0))) L;have m:H b=none:=N.free L;have I:upd (upd H z (.lst [.int 0])) b (.lst (zq (List.replicate n 0))) b=some (.lst (zq (List.replicate n 0))):=qb;generalize upd (upd H z (.lst [.int 0])) b (.lst (zq (List.replicate n 0)))=H2 at C I;apply qfl ?_;apply⟨l,_,rfl,.of (C _ _ j.1),jc (xs:=ts.map V.ref) (fun i σ J=>L2.Same H J/\∃(bs:LN) (D G:Option V),σ=[some (.int (n:Int)),some (.ref l),some (.ref b),D,G]/\J b=some (.lst (zq bs))/\BtJ n (TI.take i) bs) ⟨C,_,_,_,rfl,I,btJ_zero n⟩ (fun i σ J _ p=>.of (p.1 _ _ j.1)) (fun i x σ J M p=>?_) fun σ J p=>?_⟩
  .obtain⟨v,bs,D,G,rfl,s,g⟩:=p;rw[yd] at M;obtain⟨u,r,rfl⟩:=yn.mp M;have S:i<TI.length:=by rw[<- j.2.len];show(yc.mp r).1
   obtain⟨a,d⟩:∃ a,TI[i]?=some a:=⟨_,yb S⟩;have A:=v _ _ (j.2.at_ i u a r d);have U:=R.2.1 a (ye d);have l1:a.1<bs.length:=by rw[g.1];lk
   have l2:a.2<bs.length:=by rw[g.1];lk
   have y:a.1≠a.2:=by lk
   show⟨u,_,rfl,.of A,rfl,_,_,rfl,_,_,rfl,rfl,?_⟩;apply .inl (zN s (qt (jm l1)) ?_);apply vI ⟨by lk,by lk,by decide⟩ ?_;ext;rw[qdR];show .inl (qeh s (qci (by unfold zq;rw[ya];show l1)) ?_);rw[qbn];ext;have O:(bs.set a.1 (bs.getD a.1 0 ||| 2 ^ a.2)).getD a.2 0=bs.getD a.2 0:=by rw[zv l1,yA y]
   show .inl (zN qb (qt (jm (by simpa using l2))) ?_);apply vI ⟨by lk,by lk,by decide⟩ ?_;ext;rw[qdR,O];show .inl (qeh qb (qci (by unfold zq;rw[ya];simpa using l2)) ?_);rw[qbn];apply⟨fun c o e=>?_,_,_,_,rfl,qb,?_⟩
   .have hc:c≠b:=fun z=>by rw[z,m] at e;cases e
    rw[qf hc,qf hc];show v c o e
   .rw [yM,d];show btJ_put g U
  .obtain⟨v,bs,D,G,rfl,s,g⟩:=p;have e:(ts.map V.ref).length=TI.length:=by rw[ya,j.2.len]
   rw[e,yS] at g;apply q b bs J v m s g
theorem Uh:FnScope ["_law_many_here","_law_gone"] ["_law_many_here","_law_gone"] (qh qa7):=fS
noncomputable def zC(gs:LN)(n:Nat):LN:=((List.range n).filter fun k=>!decide (k∈gs)).map fun k=>2 ^ k
theorem qcp(gs:LN):∀ n,(zC gs n).sum<2 ^ n/\∀ k,(zC gs n).sum.testBit k=true↔k<n/\k∉gs
 | 0=>⟨by show(0:Nat)<1;decide,fun k=>by simp[zC]⟩
 | n+1=>by
  obtain⟨h1,b⟩:=qcp gs n;have f:2 ^ (n+1)=2 ^ n+2 ^ n:=by rw[Nat.pow_succ];lk
  by_cases a:n∈gs
  .have e:zC gs (n+1)=zC gs n:=by
    unfold zC;rw[YA,yV,yK,yA (by simp[a])];simp
   rw[e];show⟨by lk,fun k=>?_⟩;rw[b k];constructor
   .show fun z=>⟨by lk,z.2⟩
   .intro z;have:k≠n:=fun e=>z.2 (e ▸ a);show⟨by lk,z.2⟩
  .have e:(zC gs (n+1)).sum=2 ^ n ||| (zC gs n).sum:=by
    have c:zC gs (n+1)=zC gs n++[2 ^ n]:=by
     unfold zC;rw[YA,yV,yK,yG (by simp[a])];simp
    have:=Nat.two_pow_add_eq_or_of_lt h1 1;rw[Nat.mul_one] at this;rw[c,<- this,List.sum_append];simp;lk
   rw[e];show⟨xr (by lk) (by lk),fun k=>?_⟩;rw[YT,Y1,b k,YH,yI];constructor
   .rintro (z | z)
    .show⟨by lk,z ▸ a⟩
    .show⟨by lk,z.2⟩
   .intro z;by_cases d:k=n
    .show .inl d.symm
    .show .inr ⟨by lk,z.2⟩
theorem qe2{g:Addr}{k:Nat}{Q:VK}(h:H g=some (.lst (gs.map iV)))(q:Q (.bl (!decide (k∈gs))) H):qem K true (iV k) (.ref g) H Q:=by
 classical
 show .inr (.inr ⟨g,gs.map iV,fun z=>eqV z (iV k),1,rfl,SqL.of h,by decide,fun z hz=>?_,?_⟩)
 .obtain⟨j,b,rfl⟩:=yE.mp hz;show .flat rfl rfl
 .have e:(gs.map iV).any (fun z=>eqV z (iV k))=decide (k∈gs):=by
   rw[Yr,YJ,yI];constructor
   .rintro ⟨z,hz,e⟩;obtain⟨j,b,rfl⟩:=yE.mp hz;have a:=jy (j:Int) (k:Int);rw[yA (by decide)] at a;rw[a,yI] at e;have:j=k:=by lk
    show this ▸ b
   .intro c;show⟨iV k,yE.mpr ⟨k,c,rfl⟩,?_⟩;have a:=jy (k:Int) (k:Int);rw[yA (by decide)] at a;rw[a];show yB rfl
  rw[yG rfl,e];show q
inductive spRmJ(vs:List V)(H:Hp)(Q:VK)(E:XK):Prop|mk (g:Addr) (n:Nat) (gs:LN) (_:vs=[.int (n:Int),.ref g]) (_:n<=14) (_:H g=some (.lst (gs.map iV))) (_:∀(H':Hp),L2.Same H H'->Q (.int ((zC gs n).sum:Nat)) H')
theorem ok_rmJ(F:Fun K "_law_room" "_law_room" qa7 f fd)(T:Txt K mg cc cw):FnOk P w K mg base CX0 1 f fd ["_law_many_here","_law_gone"] spRmJ:=by
 show F.ok Uh fun _ _ _ _ H vs Q E p h=>?_
 .obtain⟨g,n,gs,rfl,t,o,q⟩:=h;have r:=jV p;show⟨_,(qe (qm (qr (k_sum (K:=K) rfl rfl) rfl T.b_sum PyProof.Rows.boot_sum (qa (q9 (sc:=qh qa7) (XN:=["_law_many_here","_law_gone"]) ["_law_k","_law_gone"] 1 [1] rfl rfl rfl (by room) rfl (by room)
  (jt rfl T.b_range (qa (pv 0) qd)) (fun _ _ _ _=>(qo (i:=0) (show(["_law_k","_law_gone"]:LS).Nodup by room) rfl (yJ rfl))) qR
  (fun _ _ _ _=>(qV (qj (j9 (K:=K) rfl r) (pv 0) (pv 1) (by with_unfolding_all rfl))))
  (fun _ _ _ _=>(qw zY qg (pv 0)))) qd)))),?_⟩
  apply⟨(n:Int),rfl,by lk,by lk,?_⟩;rw[y0];show zg (lo:=0) (fun i ys J=>J=H/\ys=((zC gs i).map fun(k:Nat)=>(k:Int)).map V.int) ⟨rfl,rfl⟩ (fun i ys J s d=>?_) fun ys J d=>?_
  .obtain⟨rfl,rfl⟩:=d;rw[xQ];apply qe2 o ?_;ext
   have e:zC gs (i+1)=zC gs i++(([i].filter fun k=>!decide (k∈gs)).map fun k=>2 ^ k):=by
    unfold zC;rw[YA,yV,yu]
   have c:(zC gs i).length<=i:=by
    unfold zC;rw[ya];show yi (yN _ _) (by rw[YW];show yh _)
   show qL (fun hc=>?_) (fun hc=>?_)
   .ext;show vI ⟨by lk,by lk,by decide⟩ ?_;rw[qdn];show⟨by rw[ya,ya];show qi (by lk),rfl,?_⟩;rw[e,yK,yG hc];simp
   .show⟨rfl,?_⟩;rw[e,yK,yA hc];simp
  .obtain⟨rfl,rfl⟩:=d
   have c:(zC gs n).length<=n:=by
    unfold zC;rw[ya];show yi (yN _ _) (by rw[YW];show yh _)
   show⟨by rw[ya,ya];show yW (qi (by lk)),fun b m=>?_⟩;apply⟨b,_,rfl,SqL.of qb,?_⟩
   have j:∀ xs:LN,(xs.map fun(k:Nat)=>(k:Int)).sum=((xs.sum:Nat):Int):=fun xs=>by
    induction xs with
    | nil=>rfl
    | cons a l ih=>rw[YD,kE,kE,ih];lk
   rw[j];show q _ (qG (Sr J) m)
noncomputable def jM(m k:Nat):Nat:=m-(m &&& k)
theorem and_or_dis:∀(a b:Nat),a &&& b=0->a+b=a ||| b:=by
 intro a
 induction a using Nat.strongRecOn with
 | ind a ih =>
  intro b h;by_cases d:a=0
  .subst d;simp
  .have c:(a / 2) &&& (b / 2)=0:=by rw[<- Nat.and_div_two,h]
   have e:=ih (a / 2) (by lk) (b / 2) c
   have h1:(a % 2) &&& (b % 2)=0:=by
    have:=congrArg (· % 2) h;simpa [Nat.and_mod_two_pow (n:=1)] using this
   have j:(a ||| b) / 2=a / 2 ||| b / 2:=Nat.or_div_two
   have i:(a ||| b) % 2=(a % 2) ||| (b % 2):=by
    simpa using Nat.or_mod_two_pow (a:=a) (b:=b) (n:=1)
   have g:(a % 2) ||| (b % 2)=a % 2+b % 2:=by
    rcases Xu a with x | x<;>rcases Xu b with y | y<;>rw[x,y] at h1 ⊢<;>first | rfl | show absurd h1 (by decide)
   have f:=Nat.div_add_mod (a ||| b) 2;rw[j,i,g,<- e] at f;lk
theorem qbz(m k c:Nat):(jM m k).testBit c=(m.testBit c&&!k.testBit c):=by
 have a:(m &&& k) &&& (m ^^^ (m &&& k))=0:=by
  apply X0;intro i;simp only[xI,k7,Nat.zero_testBit];cases m.testBit i<;>cases k.testBit i<;>rfl
 have h1:=and_or_dis _ _ a
 have d:(m &&& k) ||| (m ^^^ (m &&& k))=m:=by
  apply X0;intro i;simp only[xI,k7,YT];cases m.testBit i<;>cases k.testBit i<;>rfl
 have b:jM m k=m ^^^ (m &&& k):=by unfold jM;lk
 rw[b];simp only[xI,k7];cases m.testBit c<;>cases k.testBit c<;>rfl
theorem zo(m k:Nat):Builtin.bitAnd (m:Int) (Builtin.bitNot (k:Int))=((jM m k:Nat):Int):=by
 have a:Builtin.bitNot (k:Int)=-(k:Int)-1:=rfl;have b:Builtin.bitNot (-(k:Int)-1)=(k:Int):=by unfold Builtin.bitNot;lk
 unfold Builtin.bitAnd;rw[a,yB (by lk),yl (by lk)];dsimp only;rw[b,y0,y0];have:(m &&& k)<=m:=k8;unfold jM;lk
theorem qe3(m k:Nat):Builtin.bitAnd (m:Int) (k:Int)=((m &&& k:Nat):Int):=by
 unfold Builtin.bitAnd;rw[yB (by lk),yB (by lk)];dsimp only;rw[y0,y0]
inductive Rr(bs:LN)(r k:Nat):Nat->Prop
 | zero:Rr bs r k k
 | step {a b:Nat} (h:Rr bs r k a) (t:qaA bs a b=true) (i:r.testBit b=true):Rr bs r k b
theorem Rr.trans{bs:LN}{k a b:Nat}(h:Rr bs r k a)(g:Rr bs r a b):Rr bs r k b:=by
 induction g with
 | zero=>show h
 | step _ t i ih=>show .step ih t i
theorem Rr.in_{bs:LN}{k a:Nat}(h:Rr bs r k a)(b:r.testBit k=true):r.testBit a=true:=by
 cases h with
 | zero=>show b
 | step _ _ i=>show i
theorem Rr.symm{bs:LN}{k a:Nat}(d:∀ a b,qaA bs a b=true->qaA bs b a=true)(c:r.testBit k=true)(h:Rr bs r k a):Rr bs r a k:=by
 induction h with
 | zero=>show .zero
 | step h t i ih=>show Rr.trans (.step .zero (d _ _ t) (h.in_ c)) ih
theorem Rr.mono{bs:LN}{b k a:Nat}(d:∀ c,r.testBit c=true->b.testBit c=true)(h:Rr bs r k a):Rr bs b k a:=by
 induction h with
 | zero=>show .zero
 | step _ t i ih=>show .step ih t (d _ i)
noncomputable def cnt(n P:Nat):Nat:=((List.range n).filter fun c=>P.testBit c).length
noncomputable def zD(n P:Nat):LN:=(List.range n).filter fun c=>P.testBit c
theorem qfH(n P:Nat):cnt n P<=n:=yi (yN _ _) (by rw[YW];show yh _)
theorem qfI{P f:Nat}(h:∀ c,P.testBit c=true->f.testBit c=false):cnt n (P ||| f)=cnt n P+cnt n f:=by
 unfold cnt
 induction n with
 | zero=>rfl
 | succ n ih =>
  rw[YA,yV,yV,yV,yt,yt,yt,ih];have e:(P ||| f).testBit n=(P.testBit n||f.testBit n):=YT ..;have b:=h n;simp only[yK,Yx,e];cases d:P.testBit n<;>cases a:f.testBit n<;>simp_all<;>lk
def Lft(bs:LN)(r i c:Nat):Prop:=r.testBit c=true/\∀ j,j<i->r.testBit j=true->¬ Rr bs r j c
open Classical in
noncomputable def qad(bs:LN)(r n:Nat):LN:=(List.range n).filter fun k=>decide (Lft bs r k k)
open Classical in
noncomputable def qbf(bs:LN)(r n k:Nat):LN:=(List.range n).filter fun c=>decide (Rr bs r k c)
theorem qe4{bs:LN}(g:∀ a b,qaA bs a b=true->qaA bs b a=true)(e:∀ c,ri.testBit c=true↔Lft bs r i c)(hl:Lft bs r i i)(c:Nat):Rr bs ri i c↔Rr bs r i c:=by
 have up:∀ c,ri.testBit c=true->r.testBit c=true:=fun c h=>((e c).mp h).1;constructor
 .show Rr.mono up
 .intro h
  induction h with
  | zero=>show .zero
  | @step a b h t ib ih =>
   show .step ih t ((e b).mpr ⟨ib,fun j f l d=>hl.2 j f l ?_⟩);show d.trans (Rr.symm g hl.1 (.step h t ib))
theorem lft_next{bs:LN}{P:Nat}(n:∀ a b,qaA bs a b=true->qaA bs b a=true)(f:∀ c,ri.testBit c=true↔Lft bs r i c)(hl:Lft bs r i i)(l:∀ c,P.testBit c=true↔Rr bs ri i c)(c:Nat):(jM ri P).testBit c=true↔Lft bs r (i+1) c:=by
 rw[qbz,yX,f c,xq,<- Bool.not_eq_true,l c,qe4 n f hl c];constructor
 .rintro ⟨h1,g⟩;show⟨h1.1,fun j m o d=>?_⟩;by_cases e:j=i
  .subst e;show g d
  .show h1.2 j (by lk) o d
 .intro h;show⟨⟨h.1,fun j m=>h.2 j (by lk)⟩,h.2 i (by lk) hl.1⟩
theorem lft_skip{bs:LN}(l:∀ c,ri.testBit c=true↔Lft bs r i c)(hl:¬ Lft bs r i i)(c:Nat):ri.testBit c=true↔Lft bs r (i+1) c:=by
 rw[l c];constructor
 .intro h;show⟨h.1,fun j m f a=>?_⟩;by_cases e:j=i
  .subst e;apply hl;show⟨f,fun n b d g=>h.2 n b d (g.trans a)⟩
  .show h.2 j (by lk) f a
 .intro h;show⟨h.1,fun j m=>h.2 j (by lk)⟩
structure WkJ(bs:LN)(n r i P:Nat)(L:LN):Prop where
 to:∀ c,P.testBit c=true->Rr bs r i c
 self:P.testBit i=true
 lin:∀ a∈L,P.testBit a=true
 cl:∀ a,P.testBit a=true->a∉L->∀ b,qaA bs a b=true->r.testBit b=true->P.testBit b=true
 lt:P<2 ^ n
theorem WkJ.done{bs:LN}{P:Nat}(h:WkJ bs n r i P [])(c:Nat):P.testBit c=true↔Rr bs r i c:=by
 constructor
 .show h.to c
 .intro g
  induction g with
  | zero=>show h.self
  | @step a b _ t ib ih=>show h.cl a ih (by simp) b t ib
theorem qe5{P c:Nat}(h:P<2 ^ n)(hc:P.testBit c=true):c<n:=by
 apply Yj;intro a;rw[Nat.testBit_lt_two_pow (yj h (xP (by decide) (by lk)))] at hc;cases hc
theorem WkJ.next{bs:LN}{P:Nat}{L:LN}{a:Nat}(h:WkJ bs n r i P (L++[a]))(A:∀ a,bs.getD a 0<2 ^ n):WkJ bs n r i (P ||| jM (bs.getD a 0 &&& r) P) (L++zD n (jM (bs.getD a 0 &&& r) P))/\2*(n-cnt n (P ||| jM (bs.getD a 0 &&& r) P))+(L++zD n (jM (bs.getD a 0 &&& r) P)).length<2*(n-cnt n P)+(L++[a]).length:=by
 generalize v:jM (bs.getD a 0 &&& r) P=f
 have m:∀ c,f.testBit c=true↔qaA bs a c=true/\r.testBit c=true/\P.testBit c=false:=fun c=>by
  rw[<- v,qbz,xI];unfold qaA;cases (bs.getD a 0).testBit c<;>cases r.testBit c<;>cases P.testBit c<;>simp
 have B:=h.lin a (by simp)
 have s:f<2 ^ n:=by
  rw[<- v];unfold jM;have h1:bs.getD a 0 &&& r<=bs.getD a 0:=k8;have u:=A a;lk
 have d:∀ c,P.testBit c=true->f.testBit c=false:=fun c hc=>by
  cases e:f.testBit c with
  | false=>rfl
  | true=>have:=((m c).mp e).2.2;rw[hc] at this;cases this
 have g:∀ c,(P ||| f).testBit c=true↔P.testBit c=true\/f.testBit c=true:=fun c=>by rw[YT,Y1]
 have x:∀ c,c∈zD n f↔f.testBit c=true:=fun c=>by
  unfold zD;rw[yp,Ym];show⟨fun z=>z.2,fun z=>⟨qe5 s z,z⟩⟩
 show⟨⟨fun c hc=>?_,(g i).mpr (.inl h.self),fun c hc=>?_,fun c hc l b t w=>?_,xr h.lt s⟩,?_⟩
 .rcases(g c).mp hc with z | z
  .show h.to c z
  .have y:=(m c).mp z;show .step (h.to a B) y.1 y.2.1
 .rcases yC.mp hc with z | z
  .show(g c).mpr (.inl (h.lin c (by simp[z])))
  .show(g c).mpr (.inr ((x c).mp z))
 .have o:c∉L:=fun z=>l (yU _ z)
  have p:f.testBit c=false:=by
   cases e:f.testBit c with
   | false=>rfl
   | true=>show absurd (yT L ((x c).mpr e)) l
  have q:P.testBit c=true:=by
   rcases(g c).mp hc with z | z
   .show z
   .rw [p] at z;cases z
  by_cases e:c=a
  .subst e
   cases j:P.testBit b with
   | true=>show(g b).mpr (.inl j)
   | false=>show(g b).mpr (.inr ((m b).mpr ⟨t,w,j⟩))
  .show(g b).mpr (.inl (h.cl c q (fun z=>?_) b t w));rcases yC.mp z with z | z
   .show o z
   .show e (yH.mp z)
 .rw [qfI d,yt,yt];have h1:=qfH n (P ||| f);rw[qfI d] at h1;have u:(zD n f).length=cnt n f:=rfl;rw[u];simp only[yF,Y0];lk
theorem WkJ.start{bs:LN}(d:i<n):WkJ bs n r i (2 ^ i) [i]:=by
 have e:∀ c,(2 ^ i).testBit c=true↔i=c:=fun c=>by rw[YH,yI]
 show⟨fun c hc=>(e c).mp hc ▸ .zero,(e i).mpr rfl,fun a b=>(e a).mpr (yH.mp b).symm,fun a b f=>absurd (yH.mpr ((e a).mp b).symm) f,xm (by decide) d⟩
theorem Kp:FnScope ["_law_many_here","_law_bits_here","_law_room_here","_law_found","_law_k","_law_piece","_law_line","_law_fresh"] ["_law_many_here","_law_bits_here","_law_room_here"] (qh zh):=fS
inductive spPjJ(vs:List V)(H:Hp)(Q:VK)(E:XK):Prop|mk (bb:Addr) (n r:Nat) (bs:LN) (_:vs=[.int (n:Int),.ref bb,.int (r:Int)]) (_:n<=14) (_:H bb=some (.lst (zq bs))) (_:bs.length=n) (_:(∀ a,bs.getD a 0<2 ^ n)) (_:(∀ a b,qaA bs a b=true->qaA bs b a=true)) (_:r<2 ^ n) (_:∀(l:Addr) (ls:LX) (H':Hp),L2.Same H H'->H l=none->H' l=some (.lst (ls.map V.ref))->All2 (fun a ks=>H' a=some (.lst (ks.map iV))) ls ((qad bs r n).map (qbf bs r n))->Q (.ref l) H')
theorem qdu(b j:Nat):(if false=true then !eqV (V.int (Builtin.bitAnd ((b:Int) / 2 ^ (j:Int).toNat) 1)) (V.int 1) else eqV (V.int (Builtin.bitAnd ((b:Int) / 2 ^ (j:Int).toNat) 1)) (V.int 1))=b.testBit j:=by
 rw[jy];show qai b j
open Classical in
theorem reps_on{bs:LN}(h:Lft bs r i i):qad bs r (i+1)=qad bs r i++[i]:=by
 unfold qad;rw[YA,yV,yK,yG (yB h)];rfl
open Classical in
theorem reps_off{bs:LN}(h:¬ Lft bs r i i):qad bs r (i+1)=qad bs r i:=by
 unfold qad;rw[YA,yV,yK,yA (fun z=>h (yk z))];simp
theorem qbA{f:Nat}:zD (n+1) f=zD n f++if f.testBit n=true then [n] else []:=by
 unfold zD;rw[YA,yV,yK];rfl
theorem qa8(n f:Nat):(zD n f).length<=n:=qfH n f
theorem ok_pjJ(F:Fun K "_law_pieces" "_law_pieces" zh f fd)(T:Txt K mg cc cw):FnOk P w K mg base CX0 1 f fd ["_law_many_here","_law_bits_here","_law_room_here"] spPjJ:=by
 show F.ok Kp fun _ _ _ _ H vs Q E hr h=>?_
 .obtain⟨bb,n,r,bs,rfl,hn,ac,au,hb,af,am,q⟩:=h;have hu:=jV hr;show⟨_,(qc (qk (i:=3) Kp.nd rfl (yJ rfl) (qW qd))
 (qc (jj yY rfl (jt rfl T.b_range (qa (pv 0) qd)) (qo (i:=4) Kp.nd rfl (yJ rfl))
 (qe (qP (qj (j6 (K:=K) rfl hu) (qw zk (qw qbh (pv 2) (pv 4)) qg) qg (qA _)) (qc (qk (i:=5) Kp.nd rfl (Xm rfl) (qw zY qg (pv 4)))
 (qc (qk (i:=6) Kp.nd rfl (yJ rfl) (qW (qa (pv 4) qd)))
 (qc (qan yY (qj (qaJ (K:=K) rfl hu) (pv 6) (qW qd) (qA _))
 (qc (qk (i:=7) Kp.nd rfl (Xm rfl) (qw zk (qw zk (qu (qv (K:=K) rfl hu) (pv 1) (qgm (K:=K) rfl yD PySem.F.slot_list_pop PySem.F.type_list_pop mtR_pop (pv 6)) (fun _ _=>rfl)) (pv 2)) (qaO qcA (pv 5))))
 (qc (qk (i:=5) Kp.nd rfl (Xm rfl) (qw qdc (pv 5) (pv 7)))
 (qe (qN (qaW (K:=K) rfl yD xR xS qas (pv 6) (qa (q9 (sc:=qh zh) (XN:=["_law_many_here","_law_bits_here","_law_room_here","_law_found","_law_k","_law_piece","_law_line","_law_fresh"]) ["_law_j","_law_fresh"] 1 [7] rfl rfl rfl (by room) rfl (by room)
  (jt rfl T.b_range (qa (pv 0) qd)) (fun _ _ _ _=>(qo (i:=0) (show(["_law_j","_law_fresh"]:LS).Nodup by room) rfl (yJ rfl))) qR
  (fun _ _ _ _=>(qV (qj (j6 (K:=K) rfl hu) (qw zk (qw qbh (pv 1) (pv 0)) qg) qg (qA _))))
  (fun _ _ _ _=>(pv 0))) qd)))))))
 (qc (qk (i:=2) Kp.nd rfl (yJ rfl) (qw zk (pv 2) (qaO qcA (pv 5))))
 (qe (qN (qaW (K:=K) rfl yD Yd Ye qO (pv 3) (qa (q9 (sc:=qh zh) (XN:=["_law_many_here","_law_bits_here","_law_room_here","_law_found","_law_k","_law_piece","_law_line","_law_fresh"]) ["_law_j","_law_piece"] 1 [5] rfl rfl rfl (by room) rfl (by room)
  (jt rfl T.b_range (qa (pv 0) qd)) (fun _ _ _ _=>(qo (i:=0) (show(["_law_j","_law_piece"]:LS).Nodup by room) rfl (yJ rfl))) qR
  (fun _ _ _ _=>(qV (qj (j6 (K:=K) rfl hu) (qw zk (qw qbh (pv 1) (pv 0)) qg) qg (qA _))))
  (fun _ _ _ _=>(pv 0))) qd)))))))) qy)))
 (qe (qm (pv 3))))),?_⟩
  apply⟨by show 0<=sizeLine;decide,fun l hl=>?_⟩;have s1:=qG (Sr H) (o:=.lst []) hl;have el:upd H l (.lst []) l=some (.lst []):=qb;generalize upd H l (.lst [])=H1 at s1 el;apply⟨(n:Int),rfl,by lk,by lk,?_⟩;rw[y0];show zj (lo:=0) (n:=n) (fun i σ J=>L2.Same H J/\∃(ri:Nat) (A:LX) (y4 y5 y6 B:Option V),σ=[some (.int (n:Int)),some (.ref bb),some (.int (ri:Int)),some (.ref l),y4,y5,y6,B]/\ri<2 ^ n/\(∀ c,ri.testBit c=true↔Lft bs r i c)/\J l=some (.lst (A.map V.ref))/\All2 (fun a ks=>J a=some (.lst (ks.map iV))/\a≠l) A ((qad bs r i).map (qbf bs r n))) ⟨s1,r,[],_,_,_,_,rfl,am,fun c=>⟨fun h=>⟨h,fun j hj=>absurd hj (by lk)⟩,fun h=>h.1⟩,el,.nil⟩ (fun i σ J hi t=>?_) fun σ J t=>?_
  .obtain⟨R,ri,A,y4,y5,y6,B,rfl,O,p,eJ,hA⟩:=t;rw[xQ];apply vI (by lk) ?_;apply .inl (.inl (.inl ⟨rfl,rfl,?_⟩));rw[qdu];ext
   have av:A.length<=i:=by
    rw[hA.len,ya];unfold qad;show yi (yN _ _) (by rw[YW];show yh _)
   show qL (fun h1=>?_) (fun h1=>?_)
   .have M:Lft bs r i i:=(p i).mp h1;apply vI ⟨by lk,by lk,by decide⟩ ?_;rw[qdn];apply⟨by show 1<=sizeLine;decide,fun b N=>?_⟩;have s2:=qG (Sr J) (o:=.lst ([i].map iV)) N;have Z:upd J b (.lst ([i].map iV)) b=some (.lst ([i].map iV)):=qb;have eu:upd J b (.lst [V.int (i:Int)])=upd J b (.lst ([i].map iV)):=rfl;rw[eu];have aq:H b=none:=R.free N;have v:∀{c:Addr} {o:HO},J c=some o->c≠b:=fun e z=>by rw[z,N] at e;cases e
    generalize upd J b (.lst ([i].map iV))=J2 at s2 Z;apply⟨fun m σ S=>∃(d:Nat) (L:LN) (B:Option V),σ=[some (.int (n:Int)),some (.ref bb),some (.int (ri:Int)),some (.ref l),some (.int (i:Int)),some (.int (d:Int)),some (.ref b),B]/\But b J2 S/\S b=some (.lst (L.map iV))/\WkJ bs n ri i d L/\2*(n-cnt n d)+L.length<=m/\2*(n-cnt n d)+L.length<=30,⟨_,2 ^ i,[i],_,rfl,(fun c o _ e=>e),Z,WkJ.start hi,yh _,by show 2*(n-cnt n (2 ^ i))+1<=30;lk⟩,fun m σ S hW=>?_⟩;obtain⟨d,L,B,rfl,b3,e3,wk,hm,aj⟩:=hW;apply⟨by show 0<=sizeLine;decide,fun e ak=>?_⟩;have s3:=qG (Sr S) (o:=.lst []) ak;have ee:upd S e (.lst []) e=some (.lst []):=qb;generalize upd S e (.lst [])=U at s3 ee;have u:=s3 _ _ e3;have keep:∀ c o,J c=some o->U c=some o:=fun c o z=>s3 _ _ (b3 c o (v z) (s2 _ _ z))
    have hL:L=[]\/∃ s a,L=s++[a]:=by
     rcases List.eq_nil_or_concat L with h | ⟨s,a,h⟩
     .show .inl h
     .show .inr ⟨s,a,by rw[h,List.concat_eq_append]⟩
    rcases hL with rfl | ⟨s,a,rfl⟩
    .show .inr (.inl ⟨b,e,true,1,rfl,rfl,by decide,(EqT.lst (n:=0) (e:=fun _=>true) (SqL.of u) (SqL.of ee) rfl fun j x y h=>by(simp at h)),?_⟩);apply yq ?_;apply vU ?_;ext;rw[zo];have D:=keep _ _ eJ;show⟨.inl ⟨rfl,_,.of D⟩,?_⟩;apply⟨(n:Int),rfl,by lk,by lk,?_⟩;rw[y0];show zg (lo:=0) (fun k ys G=>G=U/\ys=(zD k d).map iV) ⟨rfl,rfl⟩ (fun k ys G hk t=>?_) fun ys G t=>?_
     .obtain⟨rfl,rfl⟩:=t;rw[xQ];apply vI (by lk) ?_;apply .inl (.inl (.inl ⟨rfl,rfl,?_⟩));rw[qdu];ext;have bl:=qa8 k d;show qL (fun hc=>?_) (fun hc=>?_)
      .ext;show⟨by rw[ya];show qi (by lk),rfl,?_⟩;rw[qbA,yG hc,yu];rfl
      .show⟨rfl,?_⟩;rw[qbA,yA hc,Yh]
     .obtain⟨rfl,rfl⟩:=t;have bl:=qa8 n d;show⟨by rw[ya];show yW (qi (by lk)),fun g hg=>?_⟩;have s4:=qG (Sr G) (o:=.lst ((zD n d).map iV)) hg;have Y:upd G g (.lst ((zD n d).map iV)) g=some (.lst ((zD n d).map iV)):=qb;have gl:g≠l:=fun z=>by rw[z,D] at hg;cases hg
      generalize upd G g (.lst ((zD n d).map iV))=C at s4 Y;have ai:=s4 _ _ D;apply⟨l,_,_,rfl,rfl,ai,by rw[ya];show qi (by lk),?_⟩;have wd:=wk.done;have an:jM ri d<2 ^ n:=Yp (by unfold jM;lk) O
      have ec:qbf bs r n i=zD n d:=by
       classical
       unfold qbf zD;apply YB;intro c _;rw[Yr,yI,wd c,qe4 af p M c]
      show⟨fun c o z=>?_,jM ri d,A++[g],_,_,_,_,rfl,an,lft_next af p M wd,by rw[qb,yu];rfl,?_⟩
      .rw [qf (fun z'=>by rw[z',hl] at z;cases z)];show s4 _ _ (keep _ _ (R c o z))
      .rw [reps_on M,yu];show All2.snoc (hA.mono fun a ks z=>⟨by rw[qf z.2];show s4 _ _ (keep _ _ z.1),z.2⟩) ⟨by rw[qf gl,ec];show Y,gl⟩
    .show .inr (.inl ⟨b,e,false,1,rfl,rfl,by decide,EqT.lstL (SqL.of u) (SqL.of ee) (by simp),?_⟩);apply zZ ⟨fun σ C=>∃(d:Nat) (L:LN) (B:Option V),σ=[some (.int (n:Int)),some (.ref bb),some (.int (ri:Int)),some (.ref l),some (.int (i:Int)),some (.int (d:Int)),some (.ref b),B]/\But b J2 C/\C b=some (.lst (L.map iV))/\WkJ bs n ri i d L/\2*(n-cnt n d)+L.length<m/\2*(n-cnt n d)+L.length<=30,fun aw C ⟨ao,L2,y,e',W,X,ap,al,aa⟩=>⟨_,al,ao,L2,y,e',W,X,ap,yh _,aa⟩,?_⟩;apply⟨.inl ⟨rfl,_,.of u⟩,?_⟩;have pa:=wk.lin a (by simp);have as:a<n:=qe5 wk.lt pa;show⟨b,_,iV a,rfl,rfl,u,by rw[ya,yt,yd];simp,?_⟩;have ed:((s++[a]).map iV).dropLast=s.map iV:=by rw[yu];simp
     rw[ed];have W:But b J2 (upd U b (.lst (s.map iV))):=fun c o hc z=>by rw[qf hc];show s3 _ _ (b3 c o hc z)
     have X:upd U b (.lst (s.map iV)) b=some (.lst (s.map iV)):=qb;generalize upd U b (.lst (s.map iV))=C at W X;have ad:C bb=some (.lst (zq bs)):=W _ _ (v (R _ _ ac)) (s2 _ _ (R _ _ ac));show .inl (zN ad (qt (jm (by lk))) ?_);ext;rw[qe3];show vU ?_;ext;rw[zo,qdm];obtain⟨ag,ah⟩:=wk.next hb;generalize jM (bs.getD a 0 &&& ri) d=I at ag ah;show⟨.inl ⟨rfl,_,.of X⟩,?_⟩;apply⟨(n:Int),rfl,by lk,by lk,?_⟩;rw[y0];show zg (lo:=0) (fun k ys G=>G=C/\ys=(zD k I).map iV) ⟨rfl,rfl⟩ (fun k ys G hk t=>?_) fun ys G t=>?_
     .obtain⟨rfl,rfl⟩:=t;rw[xQ];apply vI (by lk) ?_;apply .inl (.inl (.inl ⟨rfl,rfl,?_⟩));rw[qdu];ext;have bl:=qa8 k I;show qL (fun hc=>?_) (fun hc=>?_)
      .ext;show⟨by rw[ya];show qi (by lk),rfl,?_⟩;rw[qbA,yG hc,yu];rfl
      .show⟨rfl,?_⟩;rw[qbA,yA hc,Yh]
     .obtain⟨rfl,rfl⟩:=t;have bl:=qa8 n I;show⟨by rw[ya];show yW (qi (by lk)),fun g hg=>?_⟩;have s5:=qG (Sr G) (o:=.lst ((zD n I).map iV)) hg;have Y:upd G g (.lst ((zD n I).map iV)) g=some (.lst ((zD n I).map iV)):=qb;generalize upd G g (.lst ((zD n I).map iV))=J5 at s5 Y;ext;have ar:s.length<=30:=by rw[yt] at aj;lk
      show⟨b,g,_,_,rfl,rfl,s5 _ _ X,Y,by rw[ya,ya];show yW (qi (by lk)),?_⟩;apply⟨_,_,_,rfl,fun c o hc z=>by rw[qf hc];show s5 _ _ (W c o hc z),by rw[qb,yu],ag,by lk,by lk⟩
   .ext;have ae:¬ Lft bs r i i:=fun z=>h1 ((p i).mpr z);show⟨R,ri,A,_,_,_,_,rfl,O,lft_skip p ae,eJ,by rw[reps_off ae];show hA⟩
  .obtain⟨R,ri,A,y4,y5,y6,B,rfl,O,p,eJ,hA⟩:=t;apply q l A J R hl eJ (hA.mono fun a ks z=>z.1)
noncomputable def qM(r n:Nat):LN:=(List.range n).filter fun k=>r.testBit k
theorem kept_mem{k:Nat}:k∈qM r n↔k<n/\r.testBit k=true:=by unfold qM;rw[yp,Ym]
theorem qdY(r n:Nat):(qM r n).Pairwise (· < ·):=List.Pairwise.filter _ List.pairwise_lt_range
theorem qcq{p q a b:Nat}(i:(qM r n)[p]?=some a)(j:(qM r n)[q]?=some b):p<q↔a<b:=by
 have e:=Yy.mp (qdY r n);obtain⟨f,c⟩:=yc.mp i;obtain⟨g,d⟩:=yc.mp j;constructor
 .intro h;rw[<- c,<- d];show e p q f g h
 .intro h;rcases Xp p q with z | z | z
  .show z
  .subst z;rw[c] at d;lk
  .have:=e q p g f z;rw[c,d] at this;lk
def Sub(bs ns:LN)(r n:Nat):Prop:=∀ p q a b,(qM r n)[p]?=some a->(qM r n)[q]?=some b->((ns.getD p 0).testBit q=true↔qaA bs a b=true)
theorem rch_of{bs:LN}(h:Sub bs ns r n)(hl:ns.length=(qM r n).length)(i:∀ a,ns.getD a 0<2 ^ ns.length){p a:Nat}(f:(qM r n)[p]?=some a){q:Nat}(g:Rch ns p q):∃ b,(qM r n)[q]?=some b/\Rr bs r a b:=by
 induction g with
 | zero=>show⟨a,f,.zero⟩
 | @step c d _ t ih =>
  obtain⟨x,j,l⟩:=ih;have e:d<(qM r n).length:=by rw[<- hl];show qe5 (i c) t
  show⟨_,yb e,.step l ((h c d _ _ j (yb e)).mp t) ?_⟩;show(kept_mem.mp (Y2 e)).2
theorem of_rch{bs:LN}(h:Sub bs ns r n)(e:∀ a b,qaA bs a b=true->b<n){p a:Nat}(j:(qM r n)[p]?=some a){b:Nat}(g:Rr bs r a b):∃ q,(qM r n)[q]?=some b/\Rch ns p q:=by
 induction g with
 | zero=>show⟨p,j,.zero⟩
 | @step c d _ t i ih =>
  obtain⟨x,m,o⟩:=ih;have l:d∈qM r n:=kept_mem.mpr ⟨e _ _ t,i⟩;obtain⟨q,f⟩:=yf l;show⟨q,f,.step o ((h x q _ _ m f).mpr t)⟩
theorem qdv{bs:LN}(h:Sub bs ns r n)(hl:ns.length=(qM r n).length)(i:∀ a,ns.getD a 0<2 ^ ns.length)(c:∀ a b,qaA bs a b=true->b<n){p q a b:Nat}(f:(qM r n)[p]?=some a)(d:(qM r n)[q]?=some b):Rch ns p q↔Rr bs r a b:=by
 constructor
 .intro g;obtain⟨j,e,z⟩:=rch_of h hl i f g;rw[d] at e;cases e;show z
 .intro g;obtain⟨q',e,z⟩:=of_rch h c f g
  have:q'=q:=by
   rcases Xp q' q with y | y | y
   .have:=(qcq e d).mp y;lk
   .show y
   .have:=(qcq d e).mp y;lk
  rw[this] at z;show z
theorem rep_iff{bs:LN}(h:Sub bs ns r n)(hl:ns.length=(qM r n).length)(l:∀ a,ns.getD a 0<2 ^ ns.length)(d:∀ a b,qaA bs a b=true->b<n){p a:Nat}(c:(qM r n)[p]?=some a):qdo ns p=true↔Lft bs r a a:=by
 rw[isRep_iff];have o:=kept_mem.mp (ye c);constructor
 .intro g;show⟨o.2,fun j i s z=>?_⟩;obtain⟨q,m⟩:=yf (kept_mem.mpr ⟨by lk,s⟩:j∈qM r n);show g q ((qcq m c).mpr i) ((qdv h hl l d m c).mpr z)
 .intro g j i z;have f:j<(qM r n).length:=XM i (yc.mp c).1;have e:=yb f;show g.2 _ ((qcq e c).mp i) (kept_mem.mp (Y2 f)).2 ((qdv h hl l d e c).mp z)
theorem rng_getD(K:LN):(List.range K.length).map (fun i=>K.getD i 0)=K:=by
 show kM (by simp) fun i h1 a=>?_;rw[List.getElem_map,List.getElem_range,Yi,yb a];rfl
theorem qcr{K:LN}{p:Nat}(h:p<K.length):K[p]?=some (K.getD p 0):=by rw[Yi,yb h];rfl
theorem qdZ(K:LN)(f:Nat->Bool):K.filter f=((List.range K.length).filter fun p=>f (K.getD p 0)).map fun p=>K.getD p 0:=by
 conv=>lhs;rw[<- rng_getD K]
 rw[XC];rfl
theorem qd0(f:Nat->Bool)(h:∀ k,k<n->f k=true->r.testBit k=true):(List.range n).filter f=(qM r n).filter f:=by
 unfold qM;rw[List.filter_filter];apply YB;intro k a;have:=h k (Ym.mp a)
 cases e:f k with
 | false=>rfl
 | true=>rw[this e];rfl
open Classical in
theorem pieces_eq{bs:LN}(C:ss.Nodup)(h:Sub bs ns r ss.length)(hl:ns.length=(qM r ss.length).length)(v:∀ a,ns.getD a 0<2 ^ ns.length)(f:∀ a b,qaA bs a b=true->b<ss.length) :
  (qff ns ((qM r ss.length).map (tn ss)).length).map (qc1 ((qM r ss.length).map (tn ss)) ns)=((qad bs r ss.length).map (qbf bs r ss.length)).map fun c=>c.map (tn ss):=by
 have m:∀ k∈qM r ss.length,k<ss.length/\r.testBit k=true:=fun k g=>kept_mem.mp g
 have y:qad bs r ss.length=((List.range (qM r ss.length).length).filter fun p=>qdo ns p).map fun p=>(qM r ss.length).getD p 0:=by
  have:qad bs r ss.length=(qM r ss.length).filter fun k=>decide (Lft bs r k k):=qd0 _ fun k _ g=>(yk g).1;rw[this,qdZ]
  congr 1
  apply YB;intro p i;rw[Yr,yI];show(rep_iff h hl v f (qcr (Ym.mp i))).symm
 have z:∀ p,p<(qM r ss.length).length->qc1 ((qM r ss.length).map (tn ss)) ns p=(qbf bs r ss.length ((qM r ss.length).getD p 0)).map (tn ss):=fun p i=>by
  have d:=qcr i;have o:=m _ (ye d);have w:qbf bs r ss.length ((qM r ss.length).getD p 0)=(qM r ss.length).filter fun c=>decide (Rr bs r ((qM r ss.length).getD p 0) c):=qd0 _ fun k _ g=>(yk g).in_ o.2
  have nd:((qM r ss.length).map (tn ss)).Nodup:=by
   show YX.mpr ((qdY r ss.length).imp_of_mem fun{a b} A n B e=>?_);have:=qaa C (m a A).1 (m b n).1 e;lk
  rw[w,qdZ];unfold qc1
  have l:(qM r ss.length).map (tn ss)=(List.range (qM r ss.length).length).map fun q=>tn ss ((qM r ss.length).getD q 0):=by
   conv=>lhs;rw[<- rng_getD (qM r ss.length)]
   rw[ki];rfl
  have u:∀ q,q<(qM r ss.length).length->((qM r ss.length).map (tn ss)).idxOf (tn ss ((qM r ss.length).getD q 0))=q:=fun q t=>qa2 nd (by rw[yd,qcr t];rfl);generalize D:(qM r ss.length).map (tn ss)=M at l u;rw[l,XC,ki,<- l]
  have x:(List.range (qM r ss.length).length).filter ((fun s=>decide (Rch ns p (M.idxOf s))) ∘ fun q=>tn ss ((qM r ss.length).getD q 0))=(List.range (qM r ss.length).length).filter fun q=>decide (Rr bs r ((qM r ss.length).getD p 0) ((qM r ss.length).getD q 0)):=by
   apply YB;intro q t;have j:=Ym.mp t;show decide (Rch ns p (M.idxOf (tn ss ((qM r ss.length).getD q 0))))=_;rw[u q j,Yr,yI,yI];show qdv h hl v f d (qcr j)
  rw[x];rfl
 rw[y,ki,ki];unfold qff;rw[ya];apply List.map_congr_left;intro p i;show z p (Ym.mp (yp.mp i).1)
theorem Kv:FnScope ["self","places","out","place","names","kept"] ["self","places"] (qh jq):=fS
noncomputable def qae(l:LS)(tps:LP):LP:=tps.filter fun q=>decide (q.1∈l)&&decide (q.2∈l)
noncomputable def zB(l bar:LS):LS:=l.filter fun s=>!decide (s∈bar)
theorem qd1(l bar:LS):(zB l bar).length<=l.length:=yN _ _
theorem mem_out{bar:LS}:a∈zB l bar↔a∈l/\a∉bar:=by unfold zB;rw[yp];simp
def OutN(ss:LS)(kvs:List (Key×V))(xs:LS):Prop:=∀(j:Nat) (s:Str),ss[j]?=some s->(jR kvs (.inl (j:Int):Key)).isSome=decide (s∈xs)
inductive spWo(cw:Addr)(vs:List V)(H:Hp)(Q:VK)(E:XK):Prop|mk (x a:Addr) (ss:LS) (ns:LN) (tps:LP) (bar:LS) (_:vs=[.ref x,.ref a]) (_:Wt cw H x ss ns tps) (_:(qE ss ns ss.length).length<=30) (_:H a=some (.lst (bar.map V.str))) (_:(∀ s∈bar,s∈ss)) (_:bar.length<=14) (_:∀(y:Addr) (ms:LN) (H':Hp),L2.Same H H'->Wt cw H' y (zB ss bar) ms (qae (zB ss bar) tps)->Q (.ref y) H')
theorem ok_wo(F:Fun K "without" "Web.without" jq f fd)(T:Txt K mg cc cw)(Ks:MethOk P w K mg base CX0 4 cw "number_of" ["self","place"] (spNum cw))(KI:MethOk P w K mg base CX0 7 cw "ties" ["self"] (spTs cw))(u9:MakeOk P w K mg base CX0 5 cw "Web" ["self","names","ties"] (spWeb cw)):FnOk P w K mg base CX0 8 f fd ["self","places"] (spWo cw):=by
 show F.ok Kv fun _ _ _ _ H vs Q E hr h=>?_
 .obtain⟨x,a,ss,ns,tps,bar,rfl,W,ah,u,hv,aq,q⟩:=h;have Z:=jV hr;obtain⟨wx,dd,ol,nn,hb,aj,an,aw,hw⟩:=id W.web;have few:=hw.few;show⟨_,(qc (qP (qZ (qU (qr (qdh (K:=K) rfl) rfl T.b_isinstance YO (qa (pv 1) (qa (jO (qa (jz (v:=.ty "list") rfl T.b_list xp rfl) (qa (jz (v:=.ty "tuple") rfl T.b_tuple XY rfl) qd))) qd))))) (qe jo) qy)
 (qc (qk (i:=2) Kv.nd rfl (Xm rfl) j7)
 (qc (jj yY rfl (qS (K:=K) rfl (pv 1)) (qo (i:=3) Kv.nd rfl (yJ rfl))
 (qe (jC js (jN (pv 2) (qF Ks (hmR hr) (pv 0) (qa (pv 3) qd)) (jP Z)))))
 (qc (qk (i:=4) Kv.nd rfl (Xm rfl) (q9 (sc:=qh jq) (XN:=["self","places","out","place","names","kept"]) ["name","out","self"] 1 [2,0] rfl rfl rfl (by room) rfl (by room)
  (qS (K:=K) rfl (qC (K:=K) rfl (pv 0) rfl)) (fun _ _ _ _=>(qo (i:=0) (show(["name","out","self"]:LS).Nodup by room) rfl (yJ rfl))) qR
  (fun _ _ _ _=>(qV (qj (j9 (K:=K) rfl Z) (qu (qv (K:=K) rfl Z) (qC (K:=K) rfl (pv 2) rfl) (pv 0) (fun _ _=>rfl)) (pv 1) (by with_unfolding_all rfl))))
  (fun _ _ _ _=>(pv 0))))
 (qc (qaI (sc:=qh jq) (XN:=["self","places","out","place","names","kept"]) ["tie","names"] 1 [4] rfl rfl rfl (by room) rfl (by room) (i:=5) Kv.nd rfl rfl
  (qS (K:=K) rfl (jd KI (hmR hr) (pv 0))) (fun _ _ _ _=>(qo (i:=0) (show(["tie","names"]:LS).Nodup by room) rfl (yJ rfl))) qR
  (fun _ _ _ _=>(qV (PW.pt (qbD (qj (zQ (K:=K) rfl Z) (qu (qv (K:=K) rfl Z) (pv 0) qg (fun _ _=>rfl)) (pv 1) (by with_unfolding_all rfl)) (qbC (qj (zQ (K:=K) rfl Z) (qu (qv (K:=K) rfl Z) (pv 0) qg (fun _ _=>rfl)) (pv 1) (by with_unfolding_all rfl)))))))
  (fun _ _ _ _=>(pv 0)))
 (qe (qm (qaY u9 (hmR hr) (qa (pv 4) (qa (pv 5) qd)))))))))),?_⟩
  apply⟨by show 2<=sizeLine;decide,fun g hg=>?_⟩;have s0:=qG (Sr H) (o:=.tup [.ty "list",.ty "tuple"]) hg;apply qdl (s0 _ _ u) qb ?_;apply yq ?_;ext;intro d hd;have s1:=qG s0 (o:=.dK []) hd;have ed:upd (upd H g (.tup [.ty "list",.ty "tuple"])) d (.dK []) d=some (.dK []):=qb;have ai:H d=none:=s0.free hd;generalize upd (upd H g (.tup [.ty "list",.ty "tuple"])) d (.dK [])=H1 at s1 ed;apply .inl ⟨⟨_,.of (s1 _ _ u)⟩,jc (xs:=bar.map V.str) (fun i σ J=>L2.Same H J/\∃(kvs:List (Key×V)) (y3 y4 y5:Option V),σ=[some (.ref x),some (.ref a),some (.ref d),y3,y4,y5]/\J d=some (.dK kvs)/\kvs.length<=i/\OutN ss kvs (bar.take i)) ⟨s1,[],_,_,_,rfl,ed,yh _,fun j s' _=>by simp[jR]⟩ (fun i σ J _ C=>.of (C.1 _ _ u)) (fun i y σ J N C=>?_) fun σ J C=>?_⟩
  .obtain⟨O,kvs,y3,y4,y5,rfl,S,X,p⟩:=C;obtain⟨v,gv,rfl⟩:=jT N;have al:=(yc.mp gv).1;have ao:bar.take (i+1)=bar.take i++[v]:=by rw[yM,gv];rfl
   obtain⟨j,gj⟩:=yf (hv v (ye gv));apply⟨x,wx,_,rfl,O _ _ hb,j0 (by room),?_⟩;apply⟨x,ss,ns,v,j,rfl,W.web.same O,gj,fun J2 s2=>?_⟩;show .inr ⟨d,_,rfl,DPut.k (k:=Sum.inl (j:Int)) (s2 _ _ S) (qi (by lk)),?_⟩;show⟨qaE (O.trans s2) ai,_,_,_,_,rfl,qb,?_,fun j' s' L=>?_⟩
   .have:=jB kvs (Sum.inl (j:Int):Key) (V.bl true);lk
   .rw [qaQ,ao];by_cases e:j'=j
    .subst e;rw[yG rfl];have:s'=v:=by rw[L] at gj;show ym gj
     simp[this]
    .rw [yA (fun z=>e (by have:=Sum.inl.inj z;lk)),p j' s' L];have B:¬ s'=v:=fun z=>e (qz hw.nd (by rw[z] at L;show L) gj);simp[B]
  .obtain⟨O,kvs,y3,y4,y5,rfl,S,_,p⟩:=C;rw[show(bar.map V.str).length=bar.length from ya _,yS] at p;have R:=O _ _ an;apply .inl ⟨x,cw,wx,_,.ref ol,rfl,O _ _ hb,T.wcl,T.wo,qa1,?_⟩;show .inl ⟨⟨_,SqL.of R⟩,qH (K:=K) (fun i ys H'=>H'=J/\ys=(zB (ss.take i) bar).map V.str) ⟨rfl,rfl⟩ (fun i ys H' _ C=>by rw[C.1];show SqL.of R) (fun i y ys H' N C=>?_) fun ys H' C=>?_⟩
   .obtain⟨rfl,rfl⟩:=C;rw[yd] at N;obtain⟨sy,gi,rfl⟩:=yn.mp N;have al:=(yc.mp gi).1;obtain⟨i',as,ag,vi⟩:=jZ (i:=0) (ye gi);rw[xO,qz hw.nd ag gi] at vi;have av:(zB (ss.take i) bar).length<=i:=yi (qd1 _ _) (by rw[yR];lk)
    have Y:zB (ss.take (i+1)) bar=zB (ss.take i) bar++(if (!decide (sy∈bar))=true then [sy] else []):=by
     unfold zB;rw[yM,gi,yV];show _++[sy].filter _=_;rw[yK,Yx]
    apply .inl ⟨x,cw,wx,_,.ref dd,rfl,O _ _ hb,T.wcl,T.wn,jS,?_⟩;apply .inr ⟨dd,.int i,rfl,?_,?_⟩
    .have:=DGet.k (k:=Sum.inr sy) (O _ _ aj);rw[vi] at this;show this
    apply .inr (.inl ⟨d,_,rfl,DGet.k (k:=Sum.inl (i:Int)) S,?_⟩);have ev:(if true=true then !(jR kvs (Sum.inl (i:Int):Key)).isSome else(jR kvs (Sum.inl (i:Int):Key)).isSome)=!decide (sy∈bar):=by rw[yG rfl,p i sy gi]
    rw[ev,Y];show⟨_,rfl,?_⟩
    cases (!decide (sy∈bar)) with
    | true =>
     show zZ ?_;apply⟨by rw[ya];show qi (by lk),rfl,by rw[yG rfl,yu];rfl⟩
    | false=>show qL (fun h=>by cases h) fun _=>⟨rfl,by rw[yA (by decide),Yh]⟩
   .obtain⟨rfl,rfl⟩:=C;rw[show(ss.map V.str).length=ss.length from ya _,yS];have ar:=qd1 ss bar;show⟨by rw[ya];show yW (qi (by lk)),fun m hm=>?_⟩;have s3:=qG O (o:=.lst ((zB ss bar).map V.str)) hm;have em:upd H' m (.lst ((zB ss bar).map V.str)) m=some (.lst ((zB ss bar).map V.str)):=qb;generalize upd H' m (.lst ((zB ss bar).map V.str))=J3 at s3 em;apply⟨x,wx,_,rfl,s3 _ _ hb,j0 (by room),?_⟩;apply⟨x,ss,ns,rfl,W.web.same s3,fun l ts J4 s4 au hl am M=>?_⟩;have U:=s4 _ _ em;obtain⟨c,s⟩:∃ c,c=qE ss ns ss.length:=⟨_,rfl⟩;rw[<- s] at M;show .inl ⟨⟨_,.of hl⟩,qH (xs:=ts.map V.ref) (fun i ys G=>G=J4/\∃ us:LX,ys=us.map V.ref/\us.length<=i/\All2 (fun t ab=>J4 t=some (.tup [.str ab.1,.str ab.2])) us (qae (zB ss bar) (c.take i))) ⟨rfl,[],rfl,yh _,.nil⟩ (fun i ys G _ D=>by rw[D.1];show .of hl) (fun i y ys G N D=>?_) fun ys G D=>?_⟩
    .obtain⟨rfl,us,rfl,ae,hU⟩:=D;rw[yd] at N;obtain⟨t,ht,rfl⟩:=yn.mp N;have hi:=(yc.mp ht).1;obtain⟨ab,n⟩:∃ ab,c[i]?=some ab:=⟨_,yb (by rw[<- M.len];show hi)⟩;obtain⟨_,_,z3⟩:=M.at_ i t ab ht n
     have Y:qae (zB ss bar) (c.take (i+1))=qae (zB ss bar) (c.take i)++(if (decide (ab.1∈zB ss bar)&&decide (ab.2∈zB ss bar))=true then [ab] else []):=by
      unfold qae;rw[yM,n,yV];show _++[ab].filter _=_;rw[yK,Yx]
     rw[Y];apply .inl (zO z3 (v:=.str ab.1) (qt (j:=0) rfl) ?_);apply qco U ?_;show⟨_,rfl,?_⟩
     cases decide (ab.1∈zB ss bar) with
     | false=>show qL (fun h=>by cases h) fun _=>qL (fun h=>by cases h) fun _=>⟨rfl,us,rfl,by lk,by rw[Bool.false_and,yA (by decide),Yh];show hU⟩
     | true =>
      show zZ ?_;apply .inl (zO z3 (v:=.str ab.2) (qt (j:=1) rfl) ?_);apply qco U ?_;show⟨_,rfl,?_⟩;rw[Bool.true_and]
      cases decide (ab.2∈zB ss bar) with
      | false=>show qL (fun h=>by cases h) fun _=>⟨rfl,us,rfl,by lk,by rw[yA (by decide),Yh];show hU⟩
      | true =>
       show zZ ?_;apply⟨by rw[ya];show qi (by lk),rfl,us++[t],by rw[yu];rfl,by rw[yt];simp;lk,by rw[yG rfl];show hU.snoc z3⟩
    .obtain⟨rfl,us,rfl,ae,hU⟩:=D;rw[show(ts.map V.ref).length=c.length by rw[ya,M.len],yS] at hU;rw[ya] at ae;show⟨by rw[ya];show yW (qi (by lk)),fun kl X=>?_⟩;have ap:=s3.trans s4;have s5:=qG ap (o:=.lst (us.map V.ref)) X;have af:=qG (Sr G) (o:=.lst (us.map V.ref)) X;have aa:upd G kl (.lst (us.map V.ref)) kl=some (.lst (us.map V.ref)):=qb;have ad:PL (upd G kl (.lst (us.map V.ref))) kl us (qae (zB ss bar) c):=⟨aa,hU.mono fun _ _ z=>af _ _ z⟩;have ac:=af _ _ U;generalize upd G kl (.lst (us.map V.ref))=G5 at s5 aa ad ac
     have I:∀{a b:Str},(a,b)∈qae (zB ss bar) c↔(a,b)∈c/\a∈zB ss bar/\b∈zB ss bar:=fun{a b}=>by
      unfold qae;rw[yp,yX,yI,yI]
     have hg:TGo (zB ss bar) (qae (zB ss bar) c):=by
      show⟨yi (yN _ _) (by rw[s];show ah),fun ab n=>?_,?_⟩
      .obtain⟨h1,h2,h3⟩:=I.mp n;rw[s] at h1;show⟨h2,h3,W.ir _ _ ((zn hw W.adj).mp h1).1⟩
      .show xj (fun{q r} hq hr B=>⟨B,fun z=>?_⟩) ((kf).nodup (by rw[s];show qeW hw):(qae (zB ss bar) c).Nodup);have q1:=(I.mp hq).1;have r1:=(I.mp hr).1;rw[s] at q1 r1;obtain⟨_,i1,j1,l1,a1,b1⟩:=(zn hw W.adj).mp q1;obtain⟨_,i2,j2,l2,a2,b2⟩:=(zn hw W.adj).mp r1;rw[z] at a1 b1;have:=qz hw.nd a1 b2;have:=qz hw.nd b1 a2;lk
     apply fun y dx N ak B=>qgy ac (by lk) (hw.nd.filter _) (fun z hz=>hw.nm z (mem_out.mp hz).1) ad hg N ak B fun ms H9 s9 _ W9=>⟨rfl,?_⟩;show q y ms H9 (s5.trans s9) (W9.to (fun ab n=>?_) fun a b u A=>?_)
     .unfold qae at n;obtain⟨h1,h2⟩:=yp.mp n;rw[yX,yI,yI] at h2;show⟨h2.1,h2.2,(W.ok _ h1).2.2⟩
     .have k1:∀{a b:Str},a∈zB ss bar->b∈zB ss bar->((a,b)∈qae (zB ss bar) tps↔(a,b)∈tps):=fun u hb=>by
       unfold qae;rw[yp,yX,yI,yI];show⟨fun z=>z.1,fun z=>⟨z,u,hb⟩⟩
      unfold tA;rw[k1 u A,k1 A u,I,I,s];constructor
      .rintro (z | z)
       .show((zn hw W.adj).mp z.1).1
       .show((zn hw W.adj).mp z.1).1.symm
      .intro z;obtain⟨ia,ga⟩:=yf (mem_out.mp u).1;obtain⟨ib,gb⟩:=yf (mem_out.mp A).1;rcases Xp ia ib with k | k | k
       .show .inl ⟨(zn hw W.adj).mpr ⟨z,ia,ib,k,ga,gb⟩,u,A⟩
       .subst k;rw[ga] at gb;show absurd (ym gb) (W.ir _ _ z)
       .show .inr ⟨(zn hw W.adj).mpr ⟨z.symm,ib,ia,k,gb,ga⟩,A,u⟩
noncomputable def qek(ks:LS):Bool:=decide (ks.length % 2=1)
theorem weak(E:ss.Nodup)(g:PGo ss tps qs){bar:LS}{ps:List (LS)}(h1:∀ p∈ps,p.Nodup/\(∀ a∈p,a∈ss/\a∉bar)/\∀ a∈p,∀ b,tA tps a b->b∈bar\/b∈p)(D:ps.Pairwise fun p q=>∀ a∈p,a∉q):(ps.filter qek).length+2*qs.length<=ss.length+bar.length:=by
 have u:∀ p∈ps,qek p=true->∃ t,(t∈p/\pt qs t=none)\/(t∈bar/\∃ a∈p,pt qs a=some t):=fun p c s=>Yj fun hc=>by
  obtain⟨j,A,H⟩:=h1 p c
  have:=qfn (g:=pt qs) p.length (yh _) j fun x h=>by
   cases e:pt qs x with
   | none=>show absurd ⟨x,.inl ⟨h,e⟩⟩ hc
   | some y =>
    have G:=g.fn.tie x y e;rcases H x h y G with z | z
    .show absurd ⟨y,.inr ⟨z,x,h,e⟩⟩ hc
    .show⟨y,z,rfl,fun eq=>?_,g.fn.sym x y e⟩;rcases qc3 e with m | m
     .show(g.inn _ m).2.2.2 eq.symm
     .show(g.inn _ m).2.2.2 eq
  have:=yk s;lk
 have T:∃ T:LS->Str,∀ p∈ps,qek p=true->(T p∈p/\pt qs (T p)=none)\/(T p∈bar/\∃ a∈p,pt qs a=some (T p)):=
  haveI:Nonempty Str:=⟨""⟩
  ⟨fun p=>Classical.epsilon fun t=>(t∈p/\pt qs t=none)\/(t∈bar/\∃ a∈p,pt qs a=some t),fun p c s=>Classical.epsilon_spec (u p c s)⟩
 obtain⟨T,o⟩:=T;have r:∀ p∈ps.filter qek,p∈ps/\qek p=true:=fun p c=>yp.mp c
 have nd:((ps.filter qek).map T).Nodup:=by
  show YX.mpr ((D.filter qek).imp_of_mem fun{p q} c F w e=>?_);obtain⟨i,v⟩:=r p c;obtain⟨B,I⟩:=r q F;rcases o p i v with⟨d,l⟩ | ⟨d,a,l,J⟩<;>rcases o q B I with⟨n,C⟩ | ⟨n,b,C,K⟩
  .show w _ d (by rw[e];show n)
  .show((h1 p i).2.1 _ d).2 (by rw[e];show n)
  .show((h1 q B).2.1 _ n).2 (by rw[<- e];show d)
  .have j:=g.fn.sym _ _ J;have A:=g.fn.sym _ _ K;rw[e,A] at j;cases j;show w _ l C
 have:=qcw nd (m:=snL (pt qs) ss++bar) fun x h=>by
  obtain⟨p,c,rfl⟩:=yE.mp h;obtain⟨i,v⟩:=r p c;rcases o p i v with⟨d,l⟩ | ⟨d,_⟩
  .show yU _ (mem_sn.mpr ⟨((h1 p i).2.1 _ d).1,l⟩)
  .show yT _ d
 rw[ya,yt] at this;have L:=qa5 (f:=pt qs) (ss:=ss);have M:=g.cnt E;lk
structure BarJ(ss:LS)(TI:List (Nat×Nat))(bs gs:LN):Prop where
 ok:NOk ss
 tj:TJ ss.length TI
 bt:BtJ ss.length TI bs
 nd:gs.Nodup
 lt:∀ k∈gs,k<ss.length
noncomputable abbrev rmJ(gs:LN)(n:Nat):Nat:=(zC gs n).sum
noncomputable def pcJ(bs gs:LN)(n:Nat):List (LN):=(qad bs (rmJ gs n) n).map (qbf bs (rmJ gs n) n)
noncomputable def odJ(bs gs:LN)(n:Nat):Nat:=((pcJ bs gs n).filter fun c=>decide (c.length % 2=1)).length
theorem BtJ.sym{TI:List (Nat×Nat)}{bs:LN}(h:BtJ n TI bs):∀ a b,qaA bs a b=true->qaA bs b a=true:=fun a b z=>(h.2.2 b a).mpr ((h.2.2 a b).mp z).symm
section
variable{ss:LS}{TI:List (Nat×Nat)}{bs gs:LN}
theorem qd2(B:BarJ ss TI bs gs){k:Nat}(c:k<ss.length):tn ss k∈gs.map (tn ss)↔k∈gs:=by
 rw[yE];constructor
 .rintro ⟨j,a,b⟩;rw[<- qaa B.ok.nd (B.lt j a) c b];show a
 .show fun z=>⟨k,z,rfl⟩
theorem qd3(B:BarJ ss TI bs gs):zB ss (gs.map (tn ss))=(qM (rmJ gs ss.length) ss.length).map (tn ss):=by
 unfold zB
 have e:ss=(List.range ss.length).map (tn ss):=by
  show kM (by simp) fun i h1 d=>?_;rw[List.getElem_map,List.getElem_range];have:=zX h1;rw[yb h1] at this;show ym this
 generalize b:gs.map (tn ss)=M
 conv=>lhs;rw[e]
 rw[XC]
 congr 1
 unfold qM;apply YB;intro k c;have a:=Ym.mp c;show(!decide (tn ss k∈M))=(rmJ gs ss.length).testBit k;rw[Yr,(qcp gs ss.length).2 k,xq,Xe,<- b,qd2 B a];show⟨fun z=>⟨a,z⟩,fun z=>z.2⟩
theorem qf2(B:BarJ ss TI bs gs)(a:i<ss.length)(b:j<ss.length):tA (TI.map (nmP ss)) (tn ss i) (tn ss j)↔qaA bs i j=true:=by
 have f:∀ i j,i<ss.length->j<ss.length->((tn ss i,tn ss j)∈TI.map (nmP ss)↔(i,j)∈TI):=fun i j a b=>by
  rw[yE];constructor
  .rintro ⟨q,d,e⟩;have c:=B.tj.2.1 q d;have g:=qaa B.ok.nd (by lk) a (congrArg Prod.fst e);have h:=qaa B.ok.nd c.2 b (congrArg Prod.snd e);have:q=(i,j):=Xb g h;rw[<- this];show d
  .show fun z=>⟨(i,j),z,rfl⟩
 unfold tA;rw[f i j a b,f j i b a,B.bt.2.2 i j]
theorem sub_wt(B:BarJ ss TI bs gs)(e:Adj (zB ss (gs.map (tn ss))) ms (qae (zB ss (gs.map (tn ss))) (TI.map (nmP ss)))):Sub bs ms (rmJ gs ss.length) ss.length:=by
 intro p q a b c d;rw[qd3 B] at e;have l:=(kept_mem.mp (ye c)).1;have m:=(kept_mem.mp (ye d)).1;have h1:=e p q (tn ss a) (tn ss b) (by rw[yd,c];rfl) (by rw[yd,d];rfl);have g:tn ss a∈(qM (rmJ gs ss.length) ss.length).map (tn ss):=yE.mpr ⟨a,ye c,rfl⟩;have h:tn ss b∈(qM (rmJ gs ss.length) ss.length).map (tn ss):=yE.mpr ⟨b,ye d,rfl⟩
 have f:∀ s t,s∈(qM (rmJ gs ss.length) ss.length).map (tn ss)->t∈(qM (rmJ gs ss.length) ss.length).map (tn ss)->((s,t)∈qae ((qM (rmJ gs ss.length) ss.length).map (tn ss)) (TI.map (nmP ss))↔(s,t)∈TI.map (nmP ss)):=fun s t i j=>by
  unfold qae;rw[yp];show⟨fun z=>z.1,fun z=>⟨z,by simp only[yB i,yB j];rfl⟩⟩
 rw[h1,f _ _ g h,f _ _ h g];show qf2 B l m
theorem pcs_J(B:BarJ ss TI bs gs)(hw:WOk (zB ss (gs.map (tn ss))) ms)(e:Adj (zB ss (gs.map (tn ss))) ms (qae (zB ss (gs.map (tn ss))) (TI.map (nmP ss)))):(qff ms (zB ss (gs.map (tn ss))).length).map (qc1 (zB ss (gs.map (tn ss))) ms)=(pcJ bs gs ss.length).map fun c=>c.map (tn ss):=by
 have f:=sub_wt B e;obtain⟨h1,_,_,d,_⟩:=hw;rw[qd3 B] at h1 d ⊢;rw[ya] at h1
 show pieces_eq B.ok.nd f h1 (by rw[h1];rw[ya] at d;show d) fun a b z=>by
  rcases(B.bt.2.2 a b).mp z with y | y
  .show(B.tj.2.1 _ y).2
  .have:=B.tj.2.1 _ y;show XM this.1 this.2
structure PcsOk(ss:LS)(tps:LP)(bar:LS)(ps:List (LS)):Prop where
 h1:∀ p∈ps,p.Nodup/\(∀ a∈p,a∈ss/\a∉bar)/\∀ a∈p,∀ b,tA tps a b->b∈bar\/b∈p
 h2:ps.Pairwise fun p q=>∀ a∈p,a∉q
 cov:∀ a∈ss,a∉bar->∃ p∈ps,a∈p
 con:∀ p∈ps,∀ X:Str->Prop,(∀ a∈p,∀ b∈p,tA tps a b->X a->X b)->∀ a∈p,∀ b∈p,X a->X b
theorem rep_of{bs:LN}:∀ d,r.testBit d=true->∃ k,k<=d/\Lft bs r k k/\Rr bs r k d:=by
 intro d
 induction d using Nat.strongRecOn with
 | ind d ih =>
  intro e;by_cases h:Lft bs r d d
  .show⟨d,yh _,h,.zero⟩
  .obtain⟨j,h1,a,b⟩:∃ j,j<d/\r.testBit j=true/\Rr bs r j d:=Yj fun c=>h ⟨e,fun j f m g=>c ⟨j,f,m,g⟩⟩;obtain⟨k,n,i,l⟩:=ih j h1 a;show⟨k,by lk,i,l.trans b⟩
theorem qfJ(B:BarJ ss TI bs gs):PcsOk ss (TI.map (nmP ss)) (gs.map (tn ss)) ((pcJ bs gs ss.length).map fun c=>c.map (tn ss)):=by
 have s:=(qcp gs ss.length).2;have j:∀ k c,c∈qbf bs (rmJ gs ss.length) ss.length k↔c<ss.length/\Rr bs (rmJ gs ss.length) k c:=fun k c=>by unfold qbf;rw[yp,Ym];simp
 have w:∀ k,k∈qad bs (rmJ gs ss.length) ss.length↔k<ss.length/\Lft bs (rmJ gs ss.length) k k:=fun k=>by unfold qad;rw[yp,Ym];simp
 show⟨fun p J=>?_,?_,fun a m n=>?_,fun p J X W a m b n K=>?_⟩
 .obtain⟨T,o,rfl⟩:=yE.mp J;obtain⟨k,r,rfl⟩:=yE.mp o;have g:=(w k).mp r;have inn:∀ c,c∈qbf bs (rmJ gs ss.length) ss.length k->c<ss.length/\c∉gs:=fun c hc=>(s c).mp (((j k c).mp hc).2.in_ g.2.1);show⟨?_,fun a m=>?_,fun a m b n=>?_⟩
  .have nd:(qbf bs (rmJ gs ss.length) ss.length k).Nodup:=by unfold qbf;show List.nodup_range.filter _
   show YX.mpr (nd.imp_of_mem fun{x y} K Y I e=>I (qaa B.ok.nd (inn x K).1 (inn y Y).1 e))
  .obtain⟨c,hc,rfl⟩:=yE.mp m;have:=inn c hc;show⟨qbV this.1,fun z=>this.2 ((qd2 B this.1).mp z)⟩
  .obtain⟨c,hc,rfl⟩:=yE.mp m;have G:=(inn c hc).1;have E:b∈ss:=n.elim (fun z=>(qfp B.ok.nd B.tj _ z).2.1) fun z=>(qfp B.ok.nd B.tj _ z).1;obtain⟨d,l⟩:=yf E;have f:=(yc.mp l).1;have C:b=tn ss d:=by rw[zX f] at l;show(ym l).symm
   subst C;by_cases N:d∈gs
   .show .inl ((qd2 B f).mpr N)
   .show .inr (yE.mpr ⟨d,(j k d).mpr ⟨f,.step ((j k c).mp hc).2 ((qf2 B G f).mp n) ((s d).mpr ⟨f,N⟩)⟩,rfl⟩)
 .unfold pcJ;rw[ki];have L:(qad bs (rmJ gs ss.length) ss.length).Pairwise (· < ·):=by unfold qad;show List.pairwise_lt_range.filter _
  show YX.mpr (L.imp_of_mem fun{k k'} r g H a m D=>?_);obtain⟨c,hc,rfl⟩:=yE.mp m;obtain⟨c',F,e⟩:=yE.mp D;have h1:=(j _ _).mp hc;have M:=(j _ _).mp F;have:=qaa B.ok.nd M.1 h1.1 e;subst this;have O:=(w k).mp r;have A:=(w k').mp g;show A.2.2 k H O.2.1 (h1.2.trans (M.2.symm B.bt.sym A.2.1))
 .obtain⟨d,l⟩:=yf m;have f:=(yc.mp l).1;have C:a=tn ss d:=by rw[zX f] at l;show(ym l).symm
  subst C;obtain⟨k,O,A,Z⟩:=rep_of (bs:=bs) d ((s d).mpr ⟨f,fun z=>n ((qd2 B f).mpr z)⟩);show⟨_,yE.mpr ⟨_,yE.mpr ⟨k,(w k).mpr ⟨by lk,A⟩,rfl⟩,rfl⟩,yE.mpr ⟨d,(j k d).mpr ⟨f,Z⟩,rfl⟩⟩
 .obtain⟨T,o,rfl⟩:=yE.mp J;obtain⟨k,r,rfl⟩:=yE.mp o;have g:=(w k).mp r;obtain⟨c,hc,rfl⟩:=yE.mp m;obtain⟨d,l,rfl⟩:=yE.mp n;have q:=(j _ _).mp hc;have U:=(q.2.symm B.bt.sym g.2.1).trans ((j _ _).mp l).2;clear l n
  induction U with
  | zero=>show K
  | @step u v h t i ih =>
   have kv:=q.2.trans (.step h t i);have P:=q.2.trans h;have R:=((s u).mp (P.in_ g.2.1)).1;have S:=((s v).mp i).1;show W _ (yE.mpr ⟨u,(j k u).mpr ⟨R,P⟩,rfl⟩) _ (yE.mpr ⟨v,(j k v).mpr ⟨S,kv⟩,rfl⟩) ((qf2 B R S).mpr t) ih
theorem qgz{bs:LN}:(((pcJ bs gs ss.length).map fun c=>c.map (tn ss)).filter qek).length=odJ bs gs ss.length:=by
 rw[XC,ya]
 have e:(qek ∘ fun c:LN=>c.map (tn ss))=fun c=>decide (c.length % 2=1):=by
  funext c;show decide ((c.map (tn ss)).length % 2=1)=_;rw[ya]
 rw[e];rfl
theorem weakJ(B:BarJ ss TI bs gs)(g:PGo ss (TI.map (nmP ss)) qs):odJ bs gs ss.length+2*qs.length<=ss.length+gs.length:=by
 have C:=qfJ B;have:=weak B.ok.nd g C.h1 C.h2
 rwa[qgz,ya] at this
end
theorem uz:FnScope ["web","pairs","partners"] ["web","pairs"] (qh qal):=fS
theorem uo:FnScope ["web","bar"] ["web","bar"] (qh jK):=fS
theorem uM:FnScope ["web","bar"] ["web","bar"] (qh j4):=fS
theorem Ua:FnScope ["web","bar"] ["web","bar"] (qh qa9):=fS
theorem PGo.grt(c:∀ a b,tA tps a b->a≠b)(g:PGo ss tps qs):Gr (tA tps) (pt qs):=⟨fun z=>Or.symm z,fun z=>c _ _ z,fun{a b} e=>g.fn.sym a b e,fun{a b} e=>g.fn.tie a b e⟩
theorem mx_le{rs:LP}(d:∀ a b,tA tps a b->a≠b)(c:ss.Nodup)(g:PGo ss tps qs)(m:MxF ss tps qs)(g':PGo ss tps rs):rs.length<=qs.length:=by
 obtain⟨S,F⟩:=m;have h1:=F.most (g'.grt d)
 have n:(ss.filter fun u=>!(pt rs u).isSome&&(S.rows u).isSome).length<=(snL (pt rs) ss).length:=by
  unfold snL
  show qcw (c.filter _) fun x e=>by
   obtain⟨a,b⟩:=yp.mp e;rw[yX] at b;show yp.mpr ⟨a,b.1⟩
 have h:=qa5 (f:=pt qs) (ss:=ss);have i:=qa5 (f:=pt rs) (ss:=ss);have j:=g.cnt c;have l:=g'.cnt c;lk
section
variable{ss:LS}{TI:List (Nat×Nat)}{bs gs:LN}
theorem BarJ.bnd(B:BarJ ss TI bs gs):(gs.map (tn ss)).Nodup:=YX.mpr (B.nd.imp_of_mem fun{x y} b c a e=>a (qaa B.ok.nd (B.lt x b) (B.lt y c) e))
theorem BarJ.inn(B:BarJ ss TI bs gs):∀ s∈gs.map (tn ss),s∈ss:=fun s h=>by obtain⟨k,a,rfl⟩:=yE.mp h;show qbV (B.lt k a)
theorem BarJ.few(B:BarJ ss TI bs gs):gs.length<=14:=by
 have:=qcw B.bnd B.inn;rw[ya] at this;show yi this B.ok.few
end
theorem qe6(bs gs:LN)(n:Nat):(pcJ bs gs n).length<=n:=by
 unfold pcJ qad;rw[ya];show yi (yN _ _) (by rw[YW];show yh _)
def WBar(cw:Addr)(H:Hp)(x a:Addr)(ss:LS)(ns:LN)(TI:List (Nat×Nat))(bs gs:LN):Prop:=Wt cw H x ss ns (TI.map (nmP ss))/\BarJ ss TI bs gs/\H a=some (.lst ((gs.map (tn ss)).map V.str))
theorem WBar.same{a:Addr}{TI:List (Nat×Nat)}{bs:LN}(h:WBar cw H x a ss ns TI bs gs)(s:L2.Same H H'):WBar cw H' x a ss ns TI bs gs:=⟨h.1.same s,h.2.1,s _ _ h.2.2⟩
inductive spPb(cw:Addr)(vs:List V)(H:Hp)(Q:VK)(E:XK):Prop|mk (x a:Addr) (ss:LS) (ns:LN) (TI:List (Nat×Nat)) (bs gs:LN) (_:vs=[.ref x,.ref a]) (_:WBar cw H x a ss ns TI bs gs) (_:∀(l:Addr) (ls:LX) (H':Hp),L2.Same H H'->H' l=some (.lst (ls.map V.ref))->All2 (fun c ks=>H' c=some (.lst (ks.map V.str))) ls ((pcJ bs gs ss.length).map fun c=>c.map (tn ss))->Q (.ref l) H')
inductive spOd(cw:Addr)(vs:List V)(H:Hp)(Q:VK)(E:XK):Prop|mk (x a:Addr) (ss:LS) (ns:LN) (TI:List (Nat×Nat)) (bs gs:LN) (_:vs=[.ref x,.ref a]) (_:WBar cw H x a ss ns TI bs gs) (_:∀(l:Addr) (us:LX) (H':Hp),L2.Same H H'->H' l=some (.lst (us.map V.ref))->us.length=odJ bs gs ss.length->Q (.ref l) H')
inductive spLk(cw:Addr)(vs:List V)(H:Hp)(Q:VK)(E:XK):Prop|mk (x a:Addr) (ss:LS) (ns:LN) (TI:List (Nat×Nat)) (bs gs:LN) (_:vs=[.ref x,.ref a]) (_:WBar cw H x a ss ns TI bs gs) (_:∀(H':Hp),L2.Same H H'->Q (.int ((odJ bs gs ss.length:Nat)-(gs.length:Nat))) H')
inductive spSi(cw:Addr)(vs:List V)(H:Hp)(Q:VK)(E:XK):Prop|mk (x l:Addr) (ss:LS) (ns:LN) (us:LX) (tps qs:LP) (_:vs=[.ref x,.ref l]) (_:Wt cw H x ss ns tps) (_:PL H l us qs) (_:PGo ss tps qs) (_:∀(r:Addr) (H':Hp),L2.Same H H'->H' r=some (.lst ((snL (pt qs) ss).map V.str))->Q (.ref r) H')
theorem ok_pb(F:Fun K "pieces_beside" "pieces_beside" jK f fd)(T:Txt K mg cc cw)(p:DefOk P w K mg base CX0 4 "are_unlike_places" ["web","thing"] (spUl cw))(G:MethOk P w K mg base CX0 8 cw "without" ["self","places"] (spWo cw))(I:MethOk P w K mg base CX0 3 cw "pieces" ["self"] (spPcs cw)):FnOk P w K mg base CX0 9 f fd ["web","bar"] (spPb cw):=by
 show F.ok uo fun _ _ _ _ H vs Q E i h=>?_
 .obtain⟨x,a,ss,ns,TI,bs,gs,rfl,⟨W,B,n⟩,q⟩:=h;show⟨_,(qc (qP (qZ (qU (qp p (hmR i) qB (qa (pv 0) (qa (pv 1) qd))))) (qe jo) qy)
 (qe (qm (jd I (hmR i) (qF G (hmR i) (pv 0) (qa (pv 1) qd)))))),?_⟩
  have t:=B.few;apply⟨x,a,ss,ns,_,rfl,W.web,n,B.bnd,by rw[ya];lk,B.inn,fun H1 d=>?_⟩;obtain⟨J,L,ol,M,s,_⟩:=id W.web;apply yq ?_;apply⟨x,J,_,rfl,d _ _ s,j0 (by room),?_⟩;apply⟨x,a,ss,ns,_,_,rfl,W.same d,tj_few W.wok W.adj B.tj,d _ _ n,B.inn,by rw[ya];show t,fun y ms H2 C b=>?_⟩;obtain⟨j,r,A,v,e,_⟩:=id b.web;apply⟨y,j,_,rfl,e,j0 (by room),?_⟩;apply⟨y,_,ms,rfl,b.web,fun l u o D hl g m=>?_⟩;rw[pcs_J B b.wok b.adj] at m;show q l u o ((d.trans C).trans D) g (m.mono fun c ks z=>z.2.2)
theorem ok_od(F:Fun K "odd_pieces" "odd_pieces" j4 f fd)(T:Txt K mg cc cw)(I:DefOk P w K mg base CX0 9 "pieces_beside" ["web","bar"] (spPb cw)):FnOk P w K mg base CX0 10 f fd ["web","bar"] (spOd cw):=by
 show F.ok uM fun _ _ _ _ H vs Q E v h=>?_
 .obtain⟨x,a,ss,ns,TI,bs,gs,rfl,u,q⟩:=h;have D:=jV v;show⟨_,(qe (qm (q9 (sc:=qh j4) (XN:=["web","bar"]) ["piece"] 1 [] rfl rfl rfl (by room) rfl (by room)
  (qS (K:=K) rfl (qp I (hmR v) qB (qa (pv 0) (qa (pv 1) qd)))) (fun _ _ _ _=>(qo (i:=0) (show(["piece"]:LS).Nodup by room) rfl (yJ rfl))) qR
  (fun _ _ _ _=>(qV (qj (j6 (K:=K) rfl D) (qw zr (qr (jY (K:=K) rfl) rfl T.b_len YQ (qa (pv 0) qd)) qg) qg (qA _))))
  (fun _ _ _ _=>(pv 0))))),?_⟩
  apply⟨x,a,ss,ns,TI,bs,gs,rfl,u,fun l t H1 G j n=>?_⟩;have few:=yi (qe6 bs gs ss.length) u.2.1.ok.few;have q:∀(l:Addr) (us:LX) (H':Hp),L2.Same H H'->H' l=some (.lst (us.map V.ref))->us.length=((pcJ bs gs ss.length).filter fun c=>decide (c.length % 2=1)).length->Q (.ref l) H':=q;generalize pcJ bs gs ss.length=PS at n few q;have m:t.length=PS.length:=by rw[n.len,ya]
  show .inl ⟨⟨_,.of j⟩,qH (xs:=t.map V.ref) (fun i ys J=>J=H1/\∃ us:LX,ys=us.map V.ref/\us.length=((PS.take i).filter fun c=>decide (c.length % 2=1)).length) ⟨rfl,[],rfl,rfl⟩ (fun i ys J _ b=>by rw[b.1];show .of j) (fun i y ys J z b=>?_) fun ys J b=>?_⟩
  .obtain⟨rfl,us,rfl,d⟩:=b;rw[yd] at z;obtain⟨c,hc,rfl⟩:=yn.mp z;have C:i<PS.length:=by rw[<- m];show(yc.mp hc).1
   obtain⟨ks,e⟩:∃ ks,PS[i]?=some ks:=⟨_,yb C⟩;have o:=n.at_ i c _ hc (by rw[yd,e];rfl)
   have s:us.length<=14:=by
    rw[d];show yi (yN _ _) (by rw[yR];lk)
   apply qac o ?_;rw[ya,ya];apply vI (by decide) ?_;apply qbl ?_;have A:decide ((ks.length:Int) % 2=1)=decide (ks.length % 2=1):=Yq.mpr (by lk);rw[A];ext
   have r:((PS.take (i+1)).filter fun c=>decide (c.length % 2=1)).length=us.length+if decide (ks.length % 2=1)=true then 1 else 0:=by
    rw[yM,e,yV,yt,d];show _+([ks].filter fun c=>decide (c.length % 2=1)).length=_;rw[yK,Yx];cases decide (ks.length % 2=1)<;>rfl
   rw[r];show qL (fun p=>?_) (fun p=>?_)
   .ext;rw[yG p];show⟨by rw[ya];show qi (by lk),rfl,us++[c],by rw[yu];rfl,by rw[yt];rfl⟩
   .rw [yA p];show⟨rfl,us,rfl,rfl⟩
  .obtain⟨rfl,us,rfl,d⟩:=b;rw[show(t.map V.ref).length=PS.length by rw[ya,m],yS] at d
   have s:us.length<=14:=by
    rw[d];show yi (yN _ _) few
   show⟨by rw[ya];show yW (qi (by lk)),fun g B=>?_⟩;show q g us _ (qG G B) qb d
theorem ok_lk(F:Fun K "lack_of" "lack_of" qa9 f fd)(T:Txt K mg cc cw)(i:DefOk P w K mg base CX0 10 "odd_pieces" ["web","bar"] (spOd cw)):FnOk P w K mg base CX0 11 f fd ["web","bar"] (spLk cw):=by
 show F.ok Ua fun _ _ _ _ H vs Q E g h=>?_
 .obtain⟨x,a,ss,ns,TI,bs,gs,rfl,d,q⟩:=h;show⟨_,(qe (qm (qw qbG (qr (jY (K:=K) rfl) rfl T.b_len YQ (qa (qp i (hmR g) qB (qa (pv 0) (qa (pv 1) qd))) qd)) (qr (jY (K:=K) rfl) rfl T.b_len YQ (qa (pv 1) qd))))),?_⟩;apply⟨x,a,ss,ns,TI,bs,gs,rfl,d,fun l us H1 e b c=>?_⟩;apply qac b ?_;rw[ya,c];apply qac (e _ _ d.2.2) ?_;rw[ya,ya];apply q H1 e
theorem ok_si(F:Fun K "singles" "singles" qal f fd)(T:Txt K mg cc cw)(t:DefOk P w K mg base CX0 9 "partners_in" ["web","pairs"] (spPn cw))(u:MethOk P w K mg base CX0 1 cw "places" ["self"] (spPls cw)):FnOk P w K mg base CX0 10 f fd ["web","pairs"] (spSi cw):=by
 show F.ok uz fun _ _ _ _ H vs Q E j h=>?_
 .obtain⟨x,l,ss,ns,us,tps,qs,rfl,W,z,v,q⟩:=h;have I:=jV j;show⟨_,(qc (qk (i:=2) uz.nd rfl (Xm rfl) (qp t (hmR j) qB (qa (pv 0) (qa (pv 1) qd))))
 (qe (qm (q9 (sc:=qh qal) (XN:=["web","pairs","partners"]) ["place","partners"] 1 [2] rfl rfl rfl (by room) rfl (by room)
  (qS (K:=K) rfl (jd u (hmR j) (pv 0))) (fun _ _ _ _=>(qo (i:=0) (show(["place","partners"]:LS).Nodup by room) rfl (yJ rfl))) qR
  (fun _ _ _ _=>(qV (qj (j9 (K:=K) rfl I) (pv 0) (pv 1) (by with_unfolding_all rfl))))
  (fun _ _ _ _=>(pv 0)))))),?_⟩
  have few:=W.wok.few;apply⟨x,l,ss,ns,us,tps,qs,rfl,W.web,W.adj,z,v,fun d H1 p _ B=>?_⟩;obtain⟨M,N,ol,O,A,_⟩:=id (W.web.same p);apply⟨x,M,_,rfl,A,j0 (by room),?_⟩;apply⟨x,ss,ns,rfl,W.web.same p,fun m G=>?_⟩;have r:=qG (Sr H1) (o:=.lst (ss.map V.str)) G;have c:upd H1 m (.lst (ss.map V.str)) m=some (.lst (ss.map V.str)):=qb;generalize upd H1 m (.lst (ss.map V.str))=H2 at r c;show .inl ⟨⟨_,.of c⟩,qH (fun i ys J=>J=H2/\ys=(snL (pt qs) (ss.take i)).map V.str) ⟨rfl,rfl⟩ (fun i ys J _ a=>by rw[a.1];show .of c) (fun i y ys J L a=>?_) fun ys J a=>?_⟩
  .obtain⟨rfl,rfl⟩:=a;obtain⟨b,s,rfl⟩:=jT L;have D:=(yc.mp s).1
   have n:snL (pt qs) (ss.take (i+1))=snL (pt qs) (ss.take i)++(if (!(pt qs b).isSome)=true then [b] else []):=by
    unfold snL;rw[yM,s,yV];show _++[b].filter _=_;rw[yK,Yx]
   have e:(snL (pt qs) (ss.take i)).length<=i:=yi (yN _ _) (by rw[yR];lk);apply .inr (.inl ⟨d,_,rfl,DGet.k (k:=Sum.inr b) (r _ _ B),?_⟩);rw[jH,yG rfl,xM];rw[n];show⟨_,rfl,?_⟩
   cases (!(pt qs b).isSome) with
   | true =>
    show zZ ?_;apply⟨by rw[ya];show qi (by lk),rfl,by rw[yG rfl,yu];rfl⟩
   | false=>show qL (fun h=>by cases h) fun _=>⟨rfl,by rw[yA (by decide),Yh]⟩
  .obtain⟨rfl,rfl⟩:=a;rw[show(ss.map V.str).length=ss.length from ya _,yS];have e:(snL (pt qs) ss).length<=ss.length:=yN _ _;show⟨by rw[ya];show yW (qi (by lk)),fun g C=>?_⟩;show q g _ ((p.trans r).trans (qG (Sr J) C)) qb
theorem K7:FnScope ["web","free","words","place"] ["web"] (qh qcs):=fS
theorem uZ:FnScope ["web","place","free"] ["web","place","free"] (qh zH):=fS
theorem Us:FnScope ["web"] ["web"] (qh qct):=fS
theorem UA:FnScope ["web"] ["web"] (qh qd4):=fS
theorem K4:FnScope ["web","word","words"] ["web","word"] (qh jL):=fS
theorem u3:FnScope ["web"] ["web"] (qh qaB):=fS
noncomputable def fnK(g:Str->V)(l:LS):List (Key×V):=l.map fun s=>(.inr s,g s)
theorem qd5{g:Str->V}:∀{l:LS},y∉l->jR (fnK g l) (.inr y:Key)=none
 | [],_=>rfl
 | s::r,h=>by
  show jR ((.inr s,g s)::fnK g r) _=none;rw[qY (p:=((.inr s:Key),g s)) (fun e=>h (by rw[xk e];show yO))];show qd5 fun z=>h (yz _ z)
theorem qd6{g:Str->V}:∀{l:LS},y∈l->jR (fnK g l) (.inr y:Key)=some (g y)
 | s::r,h=>by
  show jR ((.inr s,g s)::fnK g r) _=_;by_cases e:s=y
  .subst e;show jh (p:=((.inr s:Key),g s)) rfl
  .rw [qY (p:=((.inr s:Key),g s)) (fun z=>e (xk z))];show qd6 ((yy.mp h).resolve_left (Yo e))
theorem fnK_put{g:Str->V}(h:y∉l):zI (fnK g l) (.inr y:Key) (g y)=fnK g (l++[y]):=by
 rw[qaR _ (qd5 h)];unfold fnK;rw[yu];rfl
theorem fnK_len(g:Str->V)(l:LS):(fnK g l).length=l.length:=ya _
noncomputable def loQ(tps:LP)(ss:LS):LS:=ss.filter fun s=>decide (mo tps (del ss s).length (del ss s)=mo tps ss.length ss)
theorem qgA(c:∀ a b,tA tps a b->a≠b)(d:ss.Nodup)(g:PGo ss tps qs)(F:Fn (tA tps) (pt qs) S ss):(ss.filter fun s=>(S.rows s).isSome)=loQ tps ss:=
 YB fun s e=>by
  rw[Yr,yI,mx_loose c d g F e];show Option.isSome_iff_ne_none
noncomputable def wdF(ss:LS)(ns:LN)(a:LS)(v:Str):Str:=if v∈a then "loose" else if (inB ss 0 (ns.getD (ss.idxOf v) 0)).any (fun o=>decide (o∈a))=true then "held" else "fast"
noncomputable def wdS(tps:LP)(ss:LS)(ns:LN)(v:Str):V:=.str (wdF ss ns (loQ tps ss) v)
inductive spLo(cw:Addr)(vs:List V)(H:Hp)(Q:VK)(E:XK):Prop|mk (x:Addr) (ss:LS) (ns:LN) (tps:LP) (_:vs=[.ref x]) (_:Wt cw H x ss ns tps) (_:∀(l:Addr) (H':Hp),L2.Same H H'->H l=none->H' l=some (.lst ((loQ tps ss).map V.str))->Q (.ref l) H')
inductive spWf(cw:Addr)(vs:List V)(H:Hp)(Q:VK)(E:XK):Prop|mk (x l:Addr) (v:Str) (ss:LS) (ns:LN) (fr:LS) (_:vs=[.ref x,.str v,.ref l]) (_:WebAt cw H x ss ns) (_:v∈ss) (_:H l=some (.lst (fr.map V.str))) (_:∀(H':Hp),L2.Same H H'->Q (.str (wdF ss ns fr v)) H')
inductive spSo(cw:Addr)(vs:List V)(H:Hp)(Q:VK)(E:XK):Prop|mk (x:Addr) (ss:LS) (ns:LN) (tps:LP) (_:vs=[.ref x]) (_:Wt cw H x ss ns tps) (_:∀(d:Addr) (H':Hp),L2.Same H H'->H d=none->H' d=some (.dK (fnK (wdS tps ss ns) ss))->Q (.ref d) H')
inductive spPw(cw:Addr)(vs:List V)(H:Hp)(Q:VK)(E:XK):Prop|mk (x:Addr) (wd:Str) (ss:LS) (ns:LN) (tps:LP) (_:vs=[.ref x,.str wd]) (_:Wt cw H x ss ns tps) (_:∀(l:Addr) (H':Hp),L2.Same H H'->H l=none->H' l=some (.lst ((ss.filter fun s=>decide (wdF ss ns (loQ tps ss) s=wd)).map V.str))->Q (.ref l) H')
inductive spHe(cw:Addr)(wd:Str)(vs:List V)(H:Hp)(Q:VK)(E:XK):Prop|mk (x:Addr) (ss:LS) (ns:LN) (tps:LP) (_:vs=[.ref x]) (_:Wt cw H x ss ns tps) (_:∀(l:Addr) (H':Hp),L2.Same H H'->H l=none->H' l=some (.lst ((ss.filter fun s=>decide (wdF ss ns (loQ tps ss) s=wd)).map V.str))->Q (.ref l) H')
noncomputable def heQ(tps:LP)(ss:LS)(ns:LN):LS:=ss.filter fun s=>decide (wdF ss ns (loQ tps ss) s="held")
inductive spPa(cw:Addr)(vs:List V)(H:Hp)(Q:VK)(E:XK):Prop|mk (x:Addr) (ss:LS) (ns:LN) (tps:LP) (_:vs=[.ref x]) (_:Wt cw H x ss ns tps) (_:∀(t l a:Addr) (ls:LX) (rs:LP) (H':Hp),L2.Same H H'->H' t=some (.tup [.ref l,.ref a])->H l=none->H a=none->l≠a->PL H' l ls rs->PGo ss tps rs->MxF ss tps rs->GrR ss ns rs->H' a=some (.lst ((heQ tps ss ns).map V.str))->Q (.ref t) H')
theorem ok_lo(F:Fun K "loose" "loose" qct f fd)(T:Txt K mg cc cw)(z:DefOk P w K mg base CX0 14 "greatest" ["web"] (spGr cw))(v:MakeOk P w K mg base CX0 10 (cc 9) "Forest" ["self","web","pairs"] (spFi cc cw))(U:MethOk P w K mg base CX0 2 (cc 9) "reached" ["self"] (spFd2 cc cw)):FnOk P w K mg base CX0 15 f fd ["web"] (spLo cw):=by
 show F.ok Us fun _ _ _ _ H vs Q E o h=>?_
 .obtain⟨x,ss,ns,tps,rfl,W,q⟩:=h;show⟨_,(qe (qm (jd U (hmR o) (qaY v (hmR o) (qa (pv 0) (qa (qp z (hmR o) qB (qa (pv 0) qd)) qd)))))),?_⟩;apply⟨x,ss,ns,tps,rfl,W,fun l Z rs H1 s _ L b J _=>?_⟩;have p:=W.same s;apply fun y dx N m n=>qfY p L b N m n fun H0 X a S dn wt lo A g O=>?_;subst A;show⟨rfl,?_⟩;obtain⟨C,B,i,_,_,_,j⟩:=id g.fo.obj;have d:=s.trans O;apply⟨a.x,C,B,rfl,i,j _ (by room),?_⟩;apply⟨H0,a,ss,ns,rs,S,dn,wt,lo,_,rfl,g,W.wok.few,fun hl=>?_,fun hl l' u R G c=>?_⟩
  .rcases g.en with⟨e,_⟩ | ⟨t,r,e,_,_,I,M⟩
   .show absurd e hl
   .obtain⟨D,Y⟩:=qeZ W.wok W.adj W.ok b I (by lk);have:=mx_le W.ir W.wok.nd b J D;lk
  .subst hl;rw[qgA W.ir W.wok.nd b (qgx g (p.wb b))] at c;show q l' u (d.trans R) (d.free G) c
theorem ok_wf(F:Fun K "word_for" "word_for" zH f fd)(T:Txt K mg cc cw)(B:MethOk P w K mg base CX0 6 cw "beside" ["self","place"] (spBs cw)):FnOk P w K mg base CX0 7 f fd ["web","place","free"] (spWf cw):=by
 show F.ok uZ fun _ _ _ _ H vs Q E t h=>?_
 .obtain⟨x,l,v,ss,ns,c,rfl,W,hv,hl,q⟩:=h;have u:=jV t;show⟨_,(qc (qP (qj (zQ (K:=K) rfl u) (pv 1) (pv 2) (by with_unfolding_all rfl)) (qe (qm qaM)) qy)
 (qe (qm (qdB (qU (qr (k_any (K:=K) rfl rfl) rfl T.b_any boot_any (qa (q9 (sc:=qh zH) (XN:=["web","place","free"]) ["other","free"] 1 [2] rfl rfl rfl (by room) rfl (by room)
  (qS (K:=K) rfl (qF B (hmR t) (pv 0) (qa (pv 1) qd))) (fun _ _ _ _=>(qo (i:=0) (show(["other","free"]:LS).Nodup by room) rfl (yJ rfl))) qR
  (fun _ _ _ _=>jU)
  (fun _ _ _ _=>(jD (zQ (K:=K) rfl u) (pv 0) (pv 1) (by with_unfolding_all rfl)))) qd))) qaM qaM)))),?_⟩
  obtain⟨O,R,ol,S,D,_,_,_,hw⟩:=id W;have few:=hw.few;apply qco hl ?_;ext;unfold wdF at q;show qL (fun h1=>?_) fun h1=>?_
  .rw [yG (yk h1)] at q;apply q H (Sr H)
  .rw [yA (fun z=>h1 (yB z))] at q;apply⟨x,O,_,rfl,D,j0 (by room),?_⟩;ext;obtain⟨j,s⟩:=yf hv;rw[qa2 hw.nd s] at q;show⟨x,ss,ns,v,j,rfl,W,s,fun H1 N m L=>?_⟩;generalize n:inB ss 0 (ns.getD j 0)=a at q ⊢;have C:a.length<=14:=by rw[<- n];show yi (qbc _ _ _) few
   have p:=qG N (o:=.lst (a.map V.str)) L;have d:upd H1 m (.lst (a.map V.str)) m=some (.lst (a.map V.str)):=qb;generalize upd H1 m (.lst (a.map V.str))=H2 at p d;show .inl ⟨⟨_,.of d⟩,qH (fun i ys J=>J=H2/\ys=((a.take i).map fun o=>decide (o∈c)).map V.bl) ⟨rfl,rfl⟩ (fun i ys J _ b=>by rw[b.1];show .of d) (fun i y ys J M b=>?_) fun ys J b=>?_⟩
   .obtain⟨rfl,rfl⟩:=b;obtain⟨U,r,rfl⟩:=jT M;have I:=(yc.mp r).1;apply zZ ?_;apply qco (p _ _ hl) ?_;show⟨by rw[ya,ya,yR];show qi (by lk),rfl,by rw[yM,r,yu,yu];rfl⟩
   .obtain⟨rfl,rfl⟩:=b;rw[show(a.map V.str).length=a.length from ya _,yS];show⟨by rw[ya,ya];show yW (qi (by lk)),fun g G=>?_⟩;apply⟨g,_,rfl,.of qb,?_⟩;rw[Kc];have eq:(a.any (id ∘ fun o=>decide (o∈c)))=a.any fun o=>decide (o∈c):=rfl;rw[eq];have A:=qG p (o:=.lst ((a.map fun o=>decide (o∈c)).map V.bl)) G;apply qL (fun e=>?_) fun e=>?_
    .rw [yG e] at q;show q _ A
    .rw [yA e] at q;show q _ A
theorem ok_so(F:Fun K "sorts" "sorts" qcs f fd)(T:Txt K mg cc cw)(Y:DefOk P w K mg base CX0 15 "loose" ["web"] (spLo cw))(Z:DefOk P w K mg base CX0 7 "word_for" ["web","place","free"] (spWf cw))(X:MethOk P w K mg base CX0 1 cw "places" ["self"] (spPls cw)):FnOk P w K mg base CX0 16 f fd ["web"] (spSo cw):=by
 show F.ok K7 fun _ _ _ _ H vs Q E p h=>?_
 .obtain⟨x,ss,ns,tps,rfl,W,q⟩:=h;have hu:=jV p;show⟨_,(qc (qk (i:=1) K7.nd rfl (yJ rfl) (qp Y (hmR p) qB (qa (pv 0) qd)))
 (qc (qk (i:=2) K7.nd rfl (yJ rfl) j7)
 (qc (jj yY rfl (qS (K:=K) rfl (jd X (hmR p) (pv 0))) (qo (i:=3) K7.nd rfl (yJ rfl))
 (qe (jC (qp Z (hmR p) qB (qa (pv 0) (qa (pv 3) (qa (pv 1) qd)))) (jN (pv 2) (pv 3) (jP hu)))))
 (qe (qm (pv 2)))))),?_⟩
  have few:=W.wok.few;apply⟨x,ss,ns,tps,rfl,W,fun l H1 S _ hl=>?_⟩;ext;intro d v;have s:=qG S (o:=.dK []) v;have O:upd H1 d (.dK []) d=some (.dK []):=qb;have c:H d=none:=S.free v;have l2:=(qG (Sr H1) (o:=.dK []) v) _ _ hl;generalize upd H1 d (.dK [])=H2 at s O l2;obtain⟨wx,dd,ol,nn,hb,_⟩:=id W.web;apply⟨x,wx,_,rfl,s _ _ hb,j0 (by room),?_⟩;apply⟨x,ss,ns,rfl,W.web.same s,fun m C=>?_⟩;have U:=qG s (o:=.lst (ss.map V.str)) C;have b:upd H2 m (.lst (ss.map V.str)) m=some (.lst (ss.map V.str)):=qb;have a:=(qG (Sr H2) (o:=.lst (ss.map V.str)) C) _ _ O;have r:=(qG (Sr H2) (o:=.lst (ss.map V.str)) C) _ _ l2;generalize upd H2 m (.lst (ss.map V.str))=H3 at U b a r;have L:m≠d:=fun z=>by rw[z,a] at b;cases b
  have I:l≠d:=fun z=>by rw[z,a] at r;cases r
  show .inl ⟨⟨_,.of b⟩,jc (xs:=ss.map V.str) (fun i σ J=>L2.Same H J/\J m=some (.lst (ss.map V.str))/\J l=some (.lst ((loQ tps ss).map V.str))/\∃(N:Option V),σ=[some (.ref x),some (.ref l),some (.ref d),N]/\J d=some (.dK (fnK (wdS tps ss ns) (ss.take i)))) ⟨U,b,r,_,rfl,a⟩ (fun i σ J _ e=>.of e.2.1) (fun i y σ J hy e=>?_) fun σ J e=>?_⟩
  .obtain⟨u,R,G,N,rfl,j⟩:=e;obtain⟨M,n,rfl⟩:=jT hy;have aa:=(yc.mp n).1;apply⟨x,l,M,ss,ns,_,rfl,W.web.same u,ye n,G,fun J2 t=>?_⟩;ext
   have D:M∉ss.take i:=fun z=>by
    obtain⟨k,A⟩:=yf z;have B:k<i:=by have:=(yc.mp A).1;rw[yR] at this;lk
    rw[List.getElem?_take_of_lt B] at A;have:=qz W.wok.nd A n;lk
   show .inr ⟨d,_,rfl,DPut.k (k:=Sum.inr M) (t _ _ j) (by rw[fnK_len,yR];show qi (by lk)),?_⟩;show⟨qaE (u.trans t) c,by rw[qf L];show t _ _ R,by rw[qf I];show t _ _ G,_,rfl,?_⟩;rw[qb,yM,n];show congrArg (fun z=>some (HO.dK z)) (fnK_put (g:=wdS tps ss ns) D)
  .obtain⟨u,R,G,N,rfl,j⟩:=e;rw[show(ss.map V.str).length=ss.length from ya _,yS] at j;apply q d J u c j
theorem ok_pw(F:Fun K "places_with" "places_with" jL f fd)(T:Txt K mg cc cw)(B:DefOk P w K mg base CX0 16 "sorts" ["web"] (spSo cw))(A:MethOk P w K mg base CX0 1 cw "places" ["self"] (spPls cw)):FnOk P w K mg base CX0 17 f fd ["web","word"] (spPw cw):=by
 show F.ok K4 fun _ _ _ s H vs Q E t h=>?_
 .obtain⟨x,c,ss,ns,tps,rfl,W,q⟩:=h;have z:=jV t;show⟨_,(qc (qk (i:=2) K4.nd rfl (Xm rfl) (qp B (hmR t) qB (qa (pv 0) qd)))
 (qe (qm (q9 (sc:=qh jL) (XN:=["web","word","words"]) ["place","word","words"] 1 [1,2] rfl rfl rfl (by room) rfl (by room)
  (qS (K:=K) rfl (jd A (hmR t) (pv 0))) (fun _ _ _ _=>(qo (i:=0) (show(["place","word","words"]:LS).Nodup by room) rfl (yJ rfl))) qR
  (fun _ _ _ _=>(qV (qj (j6 (K:=K) rfl z) (qu (qv (K:=K) rfl z) (pv 2) (pv 0) (fun _ _=>rfl)) (pv 1) (qA _))))
  (fun _ _ _ _=>(pv 0)))))),?_⟩
  have few:=W.wok.few;apply⟨x,ss,ns,tps,rfl,W,fun d H1 j _ G=>?_⟩;have v:∀ s∈ss,jR (fnK (wdS tps ss ns) ss) (.inr s:Key)=some (.str (wdF ss ns (loQ tps ss) s)):=fun s M=>qd6 M;generalize loQ tps ss=a at v q;obtain⟨O,R,ol,S,D,_⟩:=id (W.web.same j);apply⟨x,O,_,rfl,D,j0 (by room),?_⟩;apply⟨x,ss,ns,rfl,W.web.same j,fun m L=>?_⟩;have l:=qG (Sr H1) (o:=.lst (ss.map V.str)) L;have n:upd H1 m (.lst (ss.map V.str)) m=some (.lst (ss.map V.str)):=qb;generalize upd H1 m (.lst (ss.map V.str))=H2 at l n;show .inl ⟨⟨_,.of n⟩,qH (fun i ys J=>J=H2/\ys=((ss.take i).filter fun s=>decide (wdF ss ns a s=c)).map V.str) ⟨rfl,rfl⟩ (fun i ys J _ e=>by rw[e.1];show .of n) (fun i y ys J N e=>?_) fun ys J e=>?_⟩
  .obtain⟨rfl,rfl⟩:=e;obtain⟨b,p,rfl⟩:=jT N;have I:=(yc.mp p).1;have r:((ss.take i).filter fun s=>decide (wdF ss ns a s=c)).length<=i:=yi (yN _ _) (by rw[yR];lk);apply qeR (l _ _ G) (v b (ye p)) ?_;apply .inl (.inl (.inl ⟨rfl,rfl,?_⟩))
   have C:(if (false:Bool)=true then !eqV (.str (wdF ss ns a b)) (.str c) else eqV (.str (wdF ss ns a b)) (.str c))=decide (wdF ss ns a b=c):=by
    rw[yA (by decide)];show(wdF ss ns a b==c)=_;rw[Yr];simp
   rw[C];rw[yM,p,yV];show⟨_,rfl,?_⟩;show if decide (wdF ss ns a b=c)=true then _ else _;show qL (fun h1=>?_) fun h1=>?_
   .ext;show⟨by rw[ya];show qi (by lk),rfl,?_⟩;show _=List.map V.str (_++[b].filter _);rw[yK,yG h1,yu];rfl
   .show⟨rfl,?_⟩;show _=List.map V.str (_++[b].filter _);rw[yK,yA h1,Yx,Yh]
  .obtain⟨rfl,rfl⟩:=e;rw[show(ss.map V.str).length=ss.length from ya _,yS];have r:(ss.filter fun s=>decide (wdF ss ns a s=c)).length<=ss.length:=yN _ _;show⟨by rw[ya];show yW (qi (by lk)),fun g u=>?_⟩;show q g _ ((j.trans l).trans (qG (Sr J) u)) ((j.trans l).free u) qb
theorem ok_he(F:Fun K "held" "held" qd4 f fd)(T:Txt K mg cc cw)(b:DefOk P w K mg base CX0 17 "places_with" ["web","word"] (spPw cw)):FnOk P w K mg base CX0 18 f fd ["web"] (spHe cw "held"):=by
 show F.ok UA fun _ _ _ _ H vs Q E a h=>?_
 .obtain⟨x,ss,ns,tps,rfl,W,q⟩:=h;show⟨_,(qe (qm (qp b (hmR a) qB (qa (pv 0) (qa qaM qd))))),?_⟩;apply⟨x,_,ss,ns,tps,rfl,W,q⟩
theorem ok_pa6(F:Fun K "paper_of" "paper_of" qaB f fd)(T:Txt K mg cc cw)(m:DefOk P w K mg base CX0 14 "greatest" ["web"] (spGr cw))(n:DefOk P w K mg base CX0 18 "held" ["web"] (spHe cw "held")):FnOk P w K mg base CX0 19 f fd ["web"] (spPa cw):=by
 show F.ok u3 fun _ _ _ _ H vs Q E i h=>?_
 .obtain⟨x,ss,ns,tps,rfl,W,q⟩:=h;show⟨_,(qe (qm (jO (qa (qp m (hmR i) qB (qa (pv 0) qd)) (qa (qp n (hmR i) qB (qa (pv 0) qd)) qd))))),?_⟩;apply⟨x,ss,ns,tps,rfl,W,fun l y rs H1 d c g p r s=>?_⟩;apply⟨x,ss,ns,tps,rfl,W.same d,fun a H2 j b u=>?_⟩;apply⟨by show 2<=sizeLine;decide,fun t v=>?_⟩;have e:=qG (Sr H2) (o:=.tup [.ref l,.ref a]) v;show q t l a y rs _ ((d.trans j).trans e) qb c (d.free b) (fun z=>by rw[<- z,g.1] at b;cases b) (g.same (j.trans e)) p r s (e _ _ u)
theorem Ut:FnScope ["web","thing"] ["web","thing"] (qh qcu):=fS
theorem Ui:FnScope ["web","thing"] ["web","thing"] (qh qbB):=fS
noncomputable def qc7(bs gs:LN)(n k:Nat):Bool:=decide ((n:Int)-2*(k:Int)=(odJ bs gs n:Int)-(gs.length:Int))
inductive spSh(cw:Addr)(vs:List V)(H:Hp)(Q:VK)(E:XK):Prop|mk (x t l a:Addr) (ss:LS) (ns:LN) (TI:List (Nat×Nat)) (bs gs:LN) (us:LX) (qs:LP) (_:vs=[.ref x,.ref t]) (_:WBar cw H x a ss ns TI bs gs) (_:H t=some (.tup [.ref l,.ref a])) (_:PL H l us qs) (_:PGo ss (TI.map (nmP ss)) qs) (_:∀(H':Hp),L2.Same H H'->Q (.bl (qc7 bs gs ss.length qs.length)) H')
inductive spIb(cw:Addr)(vs:List V)(H:Hp)(Q:VK)(E:XK):Prop|mk (x a:Addr) (ss:LS) (ns:LN) (TI:List (Nat×Nat)) (bs gs:LN) (_:vs=[.ref x,.ref a]) (_:WBar cw H x a ss ns TI bs gs) (_:∀(rs:LP) (H':Hp),L2.Same H H'->PGo ss (TI.map (nmP ss)) rs->MxF ss (TI.map (nmP ss)) rs->Q (.bl (qc7 bs gs ss.length rs.length)) H')
theorem ok_shw(F:Fun K "shows" "shows" qcu f fd)(T:Txt K mg cc cw)(u:DefOk P w K mg base CX0 8 "are_pairs" ["web","thing"] (spAp cw))(y:DefOk P w K mg base CX0 4 "are_unlike_places" ["web","thing"] (spUl cw))(z:DefOk P w K mg base CX0 10 "singles" ["web","pairs"] (spSi cw))(A:DefOk P w K mg base CX0 11 "lack_of" ["web","bar"] (spLk cw)):FnOk P w K mg base CX0 12 f fd ["web","thing"] (spSh cw):=by
 show F.ok Ut fun _ _ _ _ H vs Q E i h=>?_
 .obtain⟨x,t,l,a,ss,ns,TI,bs,gs,us,qs,rfl,j,d,p,n,q⟩:=h;have g:=jV i;have W:=j.1;have B:=j.2.1;have M:=B.few;show⟨_,(qc (qP (PW.pt (zK (qZ (qU (qr (qaX (K:=K) rfl) rfl T.b_isinstance YO (qa (pv 1) (qa (jz (v:=.ty "tuple") rfl T.b_tuple XY rfl) qd))))) (zE (qj (qaJ (K:=K) rfl g) (qr (jY (K:=K) rfl) rfl T.b_len YQ (qa (pv 1) qd)) qg (qA _))))) (qe (qm js)) qy)
 (qc (qP (PW.pt (zK (qZ (qU (qp u (hmR i) qB (qa (pv 0) (qa (qu (qv (K:=K) rfl g) (pv 1) qg (fun _ _=>rfl)) qd))))) (zE (qZ (qU (qp y (hmR i) qB (qa (pv 0) (qa (qu (qv (K:=K) rfl g) (pv 1) qg (fun _ _=>rfl)) qd)))))))) (qe (qm js)) qy)
 (qe (qm (jD (j6 (K:=K) rfl g) (qr (jY (K:=K) rfl) rfl T.b_len YQ (qa (qp z (hmR i) qB (qa (pv 0) (qa (qu (qv (K:=K) rfl g) (pv 1) qg (fun _ _=>rfl)) qd))) qd)) (qp A (hmR i) qB (qa (pv 0) (qa (qu (qv (K:=K) rfl g) (pv 1) qg (fun _ _=>rfl)) qd))) (qA _)))))),?_⟩
  apply qch (.inl (.tup d)) rfl (zP K "tuple" (by simp) "tuple" (by simp)) ?_;apply yq ?_;apply qfk d ?_;apply .inl ⟨rfl,rfl,?_⟩;apply yq ?_;apply .inl (zO d rfl ?_);apply⟨x,l,ss,ns,us,_,qs,rfl,W.web,W.adj,p,n,fun H1 m=>?_⟩;apply yq ?_;apply .inl (zO (m _ _ d) rfl ?_);apply⟨x,a,ss,ns,_,rfl,W.web.same m,m _ _ j.2.2,B.bnd,by rw[ya];lk,B.inn,fun H2 C=>?_⟩;have b:=m.trans C;apply yq ?_;apply .inl (zO (b _ _ d) rfl ?_);apply⟨x,l,ss,ns,us,_,qs,rfl,W.same b,p.same b,n,fun r I D o=>?_⟩;have c:=b.trans D;apply qac o ?_;rw[ya];apply .inl (zO (c _ _ d) rfl ?_);apply⟨x,a,ss,ns,TI,bs,gs,rfl,j.same c,fun s G=>?_⟩;have J:=qa5 (f:=pt qs) (ss:=ss);have L:=n.cnt W.wok.nd;show qbl ?_
  have e:decide (((snL (pt qs) ss).length:Int)=(odJ bs gs ss.length:Int)-(gs.length:Int))=qc7 bs gs ss.length qs.length:=by
   unfold qc7;show Yq.mpr (by lk)
  rw[e];show q s (c.trans G)
theorem ok_ib(F:Fun K "is_bar" "is_bar" qbB f fd)(T:Txt K mg cc cw)(j:DefOk P w K mg base CX0 14 "greatest" ["web"] (spGr cw))(u:DefOk P w K mg base CX0 12 "shows" ["web","thing"] (spSh cw)):FnOk P w K mg base CX0 15 f fd ["web","thing"] (spIb cw):=by
 show F.ok Ui fun _ _ _ _ H vs Q E e h=>?_
 .obtain⟨x,a,ss,ns,TI,bs,gs,rfl,c,q⟩:=h;show⟨_,(qe (qm (qp u (hmR e) qB (qa (pv 0) (qa (jO (qa (qp j (hmR e) qB (qa (pv 0) qd)) (qa (pv 1) qd))) qd))))),?_⟩;apply⟨x,ss,ns,_,rfl,c.1,fun l r rs H1 g _ n d m _=>?_⟩;apply⟨by show 2<=sizeLine;decide,fun t p=>?_⟩;have b:=qG (Sr H1) (o:=.tup [.ref l,.ref a]) p;apply⟨x,t,l,a,ss,ns,TI,bs,gs,r,rs,rfl,(c.same g).same b,qb,n.same b,d,fun i s=>q rs i ((g.trans b).trans s) d m⟩
noncomputable def rmN(ss:LS)(m:Nat):LS:=ss.filter fun s=>m.testBit (ss.idxOf s)
theorem rmN_len(ss:LS)(m:Nat):(rmN ss m).length<=ss.length:=yN _ _
theorem qdw(b:ss.Nodup){k:Nat}(a:ss[k]?=some y):y∈rmN ss m↔m.testBit k=true:=by
 unfold rmN;rw[yp,qa2 b a];show⟨fun z=>z.2,fun z=>⟨ye a,z⟩⟩
theorem qdx(c:ss.Nodup){k:Nat}(b:ss[k]?=some y):rmN ss (jM m (2 ^ k))=del (rmN ss m) y:=by
 unfold rmN del;rw[List.filter_filter];show YB fun s d=>?_;rw[qbz,YH];have a:ss[ss.idxOf s]?=some s:=by rw[yb (Yc d),Yt]
 have e:decide (k=ss.idxOf s)=decide (s=y):=Yq.mpr ⟨fun z=>by rw[<- z,b] at a;show(ym a).symm,fun z=>by rw[z] at a;rw[z];show qz c b a⟩;rw[e,Bool.and_comm]
theorem rmN_perm(b:ss.Nodup){k:Nat}(d:ss[k]?=some y)(f:m.testBit k=true):(rmN ss m).Perm (y::rmN ss (jM m (2 ^ k))):=by
 rw[qdx b d];have c:(rmN ss m).Nodup:=b.filter _;show(List.perm_ext_iff_of_nodup c (yo.mpr ⟨fun z=>(mem_del.mp z).2 rfl,c.filter _⟩)).mpr fun a=>?_;rw[yy,mem_del];constructor
 .intro h;by_cases e:a=y
  .show .inl e
  .show .inr ⟨h,e⟩
 .rintro (e | e)
  .rw [e];show(qdw b d).mpr f
  .show e.1
section
variable{tps:LP}
theorem mo_perm(j:∀ a b,tA tps a b->a≠b)(g:l.Nodup)(p:l.Perm l')(h1:l.length<=n)(h:l'.length<=m):mo tps n l=mo tps m l':=by
 have d:∀{l l':LS} {n m:Nat},l.Nodup->l.Perm l'->l.length<=n->l'.length<=m->mo tps n l<=mo tps m l':=fun{l l' n m} g p h1 h=>by
  obtain⟨f,i,c⟩:=qcm j n h1 g;have:=qbZ j m h (p.nodup_iff.mp g) (f:=f) ⟨i.sym,i.tie,fun a b e=>p.mem_iff.mp (i.inn a b e)⟩;have e:qbk f l=qbk f l':=by unfold qbk;show(p.filter _).length_eq
  lk
 show xH (d g p h1 h) (d (p.nodup_iff.mp g) p.symm h h1)
noncomputable def tbQ(tps:LP)(ss:LS)(m:Nat):Nat:=mo tps ss.length (rmN ss m)
structure IsM(tps:LP)(ss:LS)(nb:Nat->Bool)(r top:Nat)(v:Nat):Prop where
 lo:tbQ tps ss r<=v
 up:∀ o,o<top->nb o=true->1+tbQ tps ss (jM r (2 ^ o))<=v
 at_:v=tbQ tps ss r\/∃ o,o<top/\nb o=true/\v=1+tbQ tps ss (jM r (2 ^ o))
theorem tb_most(n:∀ a b,tA tps a b->a≠b)(d:ss.Nodup){k v:Nat}{x:Str}(G:ss[k]?=some x)(F:m.testBit k=true)(A:Nat->Bool)(i:∀ o y,ss[o]?=some y->(A o=true↔((jM m (2 ^ k)).testBit o=true/\tA tps x y)))(h:IsM tps ss A (jM m (2 ^ k)) ss.length v):v=tbQ tps ss m:=by
 have E:(rmN ss m).Nodup:=d.filter _;have g:(rmN ss (jM m (2 ^ k))).Nodup:=d.filter _;have w:=rmN_perm d G F;have hl:=rmN_len ss m;have p:(x::rmN ss (jM m (2 ^ k))).length<=ss.length:=by rw[<- w.length_eq];show hl
 have e:tbQ tps ss m=mo tps (ss.length-1+1) (x::rmN ss (jM m (2 ^ k))):=by
  unfold tbQ;show mo_perm n E w hl (by lk)
 have j:(rmN ss (jM m (2 ^ k))).length<=ss.length-1:=by rw[yF] at p;lk
 have C:mo tps (ss.length-1) (rmN ss (jM m (2 ^ k)))=tbQ tps ss (jM m (2 ^ k)):=qfZ n j (by lk) g;obtain⟨t,u,l⟩:=qbs (fun y=>1+mo tps (ss.length-1) (del (rmN ss (jM m (2 ^ k))) y)) ((rmN ss (jM m (2 ^ k))).filter (tB tps x)) (mo tps (ss.length-1) (rmN ss (jM m (2 ^ k))))
 have s:∀{o:Nat} {y:Str},ss[o]?=some y->mo tps (ss.length-1) (del (rmN ss (jM m (2 ^ k))) y)=tbQ tps ss (jM (jM m (2 ^ k)) (2 ^ o)):=fun{o y} c=>by
  unfold tbQ;rw[qdx d c];show qfZ n (yi (qbU _ _) j) (yi (qbU _ _) (by lk)) (g.filter _)
 have D:mo tps (ss.length-1+1) (x::rmN ss (jM m (2 ^ k)))=((rmN ss (jM m (2 ^ k))).filter (tB tps x)).foldl (fun r y=>max r (1+mo tps (ss.length-1) (del (rmN ss (jM m (2 ^ k))) y))) (mo tps (ss.length-1) (rmN ss (jM m (2 ^ k)))):=rfl;rw[e,D];generalize ((rmN ss (jM m (2 ^ k))).filter (tB tps x)).foldl (fun r y=>max r (1+mo tps (ss.length-1) (del (rmN ss (jM m (2 ^ k))) y))) (mo tps (ss.length-1) (rmN ss (jM m (2 ^ k))))=W at t u l;rw[C] at t l;apply xH
 .rcases h.at_ with z | ⟨o,f,no,z⟩
  .omega
  .have c:ss[o]?=some ss[o]:=yb f;generalize ss[o]=y at c;obtain⟨I,J⟩:=(i o y c).mp no;have:=u y (yp.mpr ⟨(qdw d c).mpr I,tB_iff.mpr J⟩)
   (try dsimp only at this)
   rw[s c] at this;lk
 .rcases l with z | ⟨y,c,z⟩
  .have:=h.lo;lk
  .obtain⟨B,H⟩:=yp.mp c;have q:y∈ss:=(yp.mp B).1;obtain⟨o,f⟩:=yf q
   (try dsimp only at z)
   rw[s f] at z;have:=h.up o (yc.mp f).1 ((i o y f).mpr ⟨(qdw d f).mp B,tB_iff.mp H⟩);lk
end
theorem Km:FnScope ["_law_many_here","_law_bits_here","_law_found","_law_room_here","_law_low","_law_rest","_law_most","_law_near","_law_other"] ["_law_many_here","_law_bits_here"] (qh qba):=fS
theorem qbj(h:n<=5000):n<sizeLine:=Yp h (by decide)
theorem qfq(m:ss.Nodup){TI:List (Nat×Nat)}(g:TJ ss.length TI){x:Str}(a:ss[i]?=some x)(b:ss[j]?=some y):tA (TI.map (nmP ss)) x y↔((i,j)∈TI\/(j,i)∈TI):=by
 have c:∀{i j:Nat} {x y:Str},ss[i]?=some x->ss[j]?=some y->((x,y)∈TI.map (nmP ss)↔(i,j)∈TI):=fun{i j x y} a b=>by
  constructor
  .intro h;obtain⟨q,n,e⟩:=yE.mp h;unfold nmP at e
   injection e with e1 e2
   have l:=g.2.1 q n;have d:=zX (ss:=ss) (i:=q.1) (by lk);have f:=zX (ss:=ss) (i:=q.2) (by lk);rw[e1] at d;rw[e2] at f;have:=qz m d a;have:=qz m f b;have:q=(i,j):=Xb (by assumption) (by assumption);rw[<- this];show n
  .intro h;show yE.mpr ⟨(i,j),h,?_⟩;have l:=g.2.1 _ h;dsimp only at l;have d:=zX (ss:=ss) (i:=i) (by lk);have f:=zX (ss:=ss) (i:=j) (by lk);rw[a] at d;rw[b] at f;unfold nmP;rw[<- ym d,<- ym f]
 unfold tA;rw[c a b,c b a]
theorem offN_lt{k:Nat}(h:m.testBit k=true):jM m (2 ^ k)<m:=by
 unfold jM
 have h1:m &&& 2 ^ k=2 ^ k:=by
  apply X0;intro i;rw[xI,YH];by_cases e:k=i
  .subst e;rw[h];simp
  .simp [e]
 have a:m &&& 2 ^ k<=m:=k8;have b:=Xk k;lk
theorem tb_zero(tps:LP)(ss:LS):tbQ tps ss 0=0:=by
 unfold tbQ rmN;have:(ss.filter fun s=>(0:Nat).testBit (ss.idxOf s))=[]:=List.filter_eq_nil_iff.mpr fun s _=>by rw[Nat.zero_testBit];decide
 rw[this];cases ss.length<;>rfl
section
variable{tps:LP}{ss:LS}{nb:Nat->Bool}{r top v:Nat}
theorem IsM.skip(h:IsM tps ss nb r top v)(e:¬ nb top=true):IsM tps ss nb r (top+1) v:=
 ⟨h.lo,fun o f d=>by
  by_cases z:o=top
  .rw [z] at d;show absurd d e
  .show h.up o (by lk) d,by
  rcases h.at_ with z | ⟨o,a,b,c⟩
  .show .inl z
  .show .inr ⟨o,by lk,b,c⟩⟩
theorem IsM.take(h:IsM tps ss nb r top v)(e:nb top=true):IsM tps ss nb r (top+1) (max v (1+tbQ tps ss (jM r (2 ^ top)))):=
 ⟨yi h.lo (kZ _ _),fun o f d=>by
  by_cases z:o=top
  .rw [z];show Nat.le_max_right _ _
  .show yi (h.up o (by lk) d) (kZ _ _),by
  by_cases z:v<=1+tbQ tps ss (jM r (2 ^ top))
  .show .inr ⟨top,by lk,e,Nat.max_eq_right z⟩
  .rw [Nat.max_eq_left (by lk)];rcases h.at_ with z | ⟨o,a,b,c⟩
   .show .inl z
   .show .inr ⟨o,by lk,b,c⟩⟩
end
noncomputable def tbL(tps:LP)(ss:LS)(m:Nat):LN:=(List.range m).map (tbQ tps ss)
theorem qe7(h:i<m):(tbL tps ss m).getD i 0=tbQ tps ss i:=by
 unfold tbL;rw[Yi,yd,List.getElem?_range h];rfl
theorem qbW(tps:LP)(ss:LS)(m:Nat):(tbL tps ss m).length=m:=by unfold tbL;rw[ya,YW]
theorem tbL_succ(tps:LP)(ss:LS)(m:Nat):tbL tps ss (m+1)=tbL tps ss m++[tbQ tps ss m]:=by unfold tbL;rw[YA,yu];rfl
inductive spTbQ(vs:List V)(H:Hp)(Q:VK)(E:XK):Prop|mk (lb:Addr) (ss:LS) (TI:List (Nat×Nat)) (bs:LN) (_:vs=[.int (ss.length:Int),.ref lb]) (_:ss.length<=12) (_:ss.Nodup) (_:TJ ss.length TI) (_:H lb=some (.lst (zq bs))) (_:BtJ ss.length TI bs) (_:∀(l:Addr) (H':Hp),L2.Same H H'->H l=none->H' l=some (.lst (zq (tbL (TI.map (nmP ss)) ss (2 ^ ss.length))))->Q (.ref l) H')
theorem ok_tbQ(F:Fun K "_law_table" "_law_table" qba f fd)(T:Txt K mg cc cw):FnOk P w K mg base CX0 1 f fd ["_law_many_here","_law_bits_here"] spTbQ:=by
 show F.ok Km fun _ _ _ _ H vs Q E hr h=>?_
 .obtain⟨lb,ss,TI,bs,rfl,ah,hn,hj,ae,N,q⟩:=h;have X:=jV hr;obtain⟨tps,s⟩:∃ tps,tps=TI.map (nmP ss):=⟨_,rfl⟩;rw[<- s] at q;have ao:2 ^ ss.length<=4096:=xP (by decide) ah;have p0:0<2 ^ ss.length:=Xk _;have ag:∀{i j:Nat} {x y:Str},ss[i]?=some x->ss[j]?=some y->(tA tps x y↔qaA bs i j=true):=fun hx Y=>by rw[s,qfq hn hj hx Y];show(N.2.2 _ _).symm
  have hi:∀ a b,tA tps a b->a≠b:=fun a b h e=>by
   subst e;rw[s] at h;rcases h with h | h <;>
   .obtain⟨q,hq,e⟩:=yE.mp h;unfold nmP at e
    injection e with e1 e2
    have l:=hj.2.1 q hq;have z1:=zX (ss:=ss) (i:=q.1) (by lk);have z2:=zX (ss:=ss) (i:=q.2) (by lk);rw[e1] at z1;rw[e2] at z2;have:=qz hn z1 z2;lk
  show⟨_,(qc (qk (i:=2) Km.nd rfl (yJ rfl) (qW (qa qg qd)))
 (qc (jj yY rfl (qbF rfl T.b_range (qa qg (qa (qw zY qg (pv 0)) qd))) (qo (i:=3) Km.nd rfl (yJ rfl))
 (qc (qk (i:=4) Km.nd rfl (yJ rfl) qg)
 (qc (qan yY (qj (j6 (K:=K) rfl X) (qw zk (qw qbh (pv 3) (pv 4)) qg) qg (qA _))
 (qe (qk (i:=4) Km.nd rfl (yJ rfl) (qw (j8 (K:=K) rfl) (pv 4) qg))))
 (qc (qk (i:=5) Km.nd rfl (yJ rfl) (qw zk (pv 3) (qaO qcA (qw zY qg (pv 4)))))
 (qc (qk (i:=6) Km.nd rfl (yJ rfl) (qu (qv (K:=K) rfl X) (pv 2) (pv 5) (fun _ _=>rfl)))
 (qc (qk (i:=7) Km.nd rfl (yJ rfl) (qw zk (pv 5) (qu (qv (K:=K) rfl X) (pv 1) (pv 4) (fun _ _=>rfl))))
 (qc (jj yY rfl (qbF rfl T.b_range (qa (qw (j8 (K:=K) rfl) (pv 4) qg) (qa (pv 0) qd))) (qo (i:=8) Km.nd rfl (yJ rfl))
 (qe (qP (qj (j6 (K:=K) rfl X) (qw zk (qw qbh (pv 7) (pv 8)) qg) qg (qA _)) (qe (qk (i:=6) Km.nd rfl (yJ rfl) (qr (qcB rfl) rfl T.b_max boot_max (qa (pv 6) (qa (qw (j8 (K:=K) rfl) qg (qu (qv (K:=K) rfl X) (pv 2) (qw zk (pv 5) (qaO qcA (qw zY qg (pv 8)))) (fun _ _=>rfl))) qd))))) qy)))
 (qe (qN (qaW (K:=K) rfl yD Yd Ye qO (pv 2) (qa (pv 6) qd)))))))))))
 (qe (qm (pv 2))))),?_⟩
  apply⟨by show 1<=sizeLine;decide,fun l hl=>?_⟩;have s0:=qG (Sr H) (o:=.lst [.int 0]) hl
  have e0:upd H l (.lst [.int 0]) l=some (.lst (zq (tbL tps ss 1))):=by
   rw[qb];unfold tbL zq;rw[YA];simp[tb_zero]
  generalize upd H l (.lst [.int 0])=H0 at s0 e0;apply qf1 ?_;apply vI ⟨by lk,by lk,by decide⟩ ?_;ext;have aa:(1*2 ^ ((ss.length:Int)).toNat:Int)=((2 ^ ss.length:Nat):Int):=by rw[y0,kA,xG];rfl
  rw[aa];show⟨1,_,rfl,⟨by decide,by decide,by lk,by lk⟩,zj (fun i σ J=>∃ x3 x4 x5 x6 x7 L,σ=[some (.int (ss.length:Int)),some (.ref lb),some (.ref l),x3,x4,x5,x6,x7,L]/\L2.Same H J/\J l=some (.lst (zq (tbL tps ss (i+1))))) ⟨none,none,none,none,none,none,rfl,s0,e0⟩ (fun i σ J ak D=>?_) fun σ J D=>?_⟩
  .obtain⟨x3,x4,x5,x6,x7,L,rfl,sJ,t⟩:=D;obtain⟨m,hm⟩:∃ m,m=i+1:=⟨_,rfl⟩;have em:(1:Int)+(i:Int)=(m:Int):=by lk
   rw[em];rw[<- hm] at t ⊢;have al:0<m:=by lk
   have am:m<2 ^ ss.length:=by lk
   have O:=sJ _ _ ae;ext;obtain⟨Z,u⟩:∃ Z:Nat->L2.St->Hp->Prop,Z=fun d σ J'=>J'=J/\∃ g:Nat,σ=[some (.int (ss.length:Int)),some (.ref lb),some (.ref l),some (.int (m:Int)),some (.int (g:Int)),x5,x6,x7,L]/\d=ss.length-g/\∀ j,j<g->m.testBit j=false:=⟨_,rfl⟩;show⟨Z,⟨_,by rw[u];show⟨rfl,0,rfl,rfl,fun j h=>by lk⟩⟩,fun d σ J' M=>?_⟩;rw[u] at M;obtain⟨rfl,g,rfl,hd,n⟩:=M
   have R:g<ss.length:=by
    apply Yj;intro h;obtain⟨j,B⟩:=Nat.exists_testBit_of_ne_zero (x:=m) (by lk);by_cases ad:j<g
    .rw [n j ad] at B;cases B
    .have:2 ^ ss.length<=m:=yi (xP (by decide) (show ss.length<=j by lk)) (Nat.ge_two_pow_of_testBit B);lk
   apply vI (by lk) ?_;apply qbl ?_;rw[qdP];show⟨_,rfl,?_⟩
   cases hb:m.testBit g with
   | false =>
    show zZ ⟨fun ai H'=>∃ m',m'<d/\Z m' ai H',fun _ _ z=>z,?_⟩;apply⟨ss.length-(g+1),by lk,?_⟩;rw[u];show⟨rfl,g+1,by simp,rfl,fun j h=>?_⟩;by_cases e:j=g
    .rw [e];show hb
    .show n j (by lk)
   | true =>
    show yq ?_;obtain⟨x,hx⟩:∃ x,ss[g]?=some x:=⟨_,yb R⟩;obtain⟨r,p⟩:∃ r,r=jM m (2 ^ g):=⟨_,rfl⟩;have W:r<m:=by rw[p];show offN_lt hb
    have pw:∀ k:Nat,(1*2 ^ ((k:Int)).toNat:Int)=((2 ^ k:Nat):Int):=fun k=>by rw[y0,kA,xG];rfl
    apply vI ⟨by lk,by lk,by decide⟩ ?_;apply vU ?_;ext;rw[pw,zo,<- p];ext
    have tg:∀ k,k<m->(zq (tbL tps ss m))[k]?=some (.int (tbQ tps ss k:Nat)):=fun k hk=>by
     rw[jm (by rw[qbW];show hk),qe7 hk]
    show .inl (zN t (qt (tg r W)) ?_);apply .inl (zN O (qt (jm (by rw[N.1];show R))) ?_);ext;rw[qe3];obtain⟨I,C⟩:∃ I,I=r &&& bs.getD g 0:=⟨_,rfl⟩;rw[<- C]
    have af:∀ o y,ss[o]?=some y->(I.testBit o=true↔(r.testBit o=true/\tA tps x y)):=fun o y Y=>by
     rw[C,xI,yX,ag hx Y];rfl
    have S:∀ o,o<=g->I.testBit o=false:=fun o ho=>by
     rw[C,xI,p,qbz,YH];by_cases e:o=g
     .subst e;simp
     .rw [n o (by lk)];rfl
    apply qf1 ?_;apply⟨_,_,rfl,⟨by lk,by lk,by lk,by lk⟩,zj (fun i σ G=>G=J'/\∃(v:Nat) (L:Option V),σ=[some (.int (ss.length:Int)),some (.ref lb),some (.ref l),some (.int (m:Int)),some (.int (g:Int)),some (.int (r:Int)),some (.int (v:Int)),some (.int (I:Int)),L]/\IsM tps ss (fun o=>I.testBit o) r (g+1+i) v) ⟨rfl,_,_,rfl,yh _,(fun o ho h=>by rw[S o (by lk)] at h;cases h),.inl rfl⟩ (fun i σ G aj D=>?_) fun σ G D=>?_⟩
    .obtain⟨rfl,v,y8,rfl,hv⟩:=D;obtain⟨o,ho⟩:∃ o,o=g+1+i:=⟨_,rfl⟩;have eo:(g:Int)+1+(i:Int)=(o:Int):=by lk
     have an:o<ss.length:=by lk
     rw[eo];rw[<- ho] at hv;have ac:g+1+(i+1)=o+1:=by lk
     rw[ac];apply vI (by lk) ?_;apply qbl ?_;rw[qai];apply qL (fun A=>?_) fun A=>⟨rfl,v,_,rfl,hv.skip A⟩;apply vI ⟨by lk,by lk,by decide⟩ ?_;apply vU ?_;ext;rw[pw,zo];have U:jM r (2 ^ o)<m:=Yp (by unfold jM;lk) W;show .inl (zN t (qt (tg _ U)) ?_);apply⟨_,_,rfl,?_⟩;show⟨rfl,max v (1+tbQ tps ss (jM r (2 ^ o))),some (.int (o:Int)),?_,hv.take A⟩;have e:((max v (1+tbQ tps ss (jM r (2 ^ o))):Nat):Int)=if 1+(tbQ tps ss (jM r (2 ^ o)):Int)>(v:Int) then 1+(tbQ tps ss (jM r (2 ^ o)):Int) else(v:Int):=by split<;>lk
     rw[e];rfl
    .obtain⟨rfl,v,y8,rfl,hv⟩:=D;have et:g+1+((ss.length:Int)-((g:Int)+1)).toNat=ss.length:=by lk
     rw[et,p] at hv;have ev:=tb_most hi hn hx hb (fun o=>I.testBit o) (fun o y Y=>by rw[<- p];show af o y Y) hv;apply⟨.inl ⟨rfl,_,.of t⟩,?_⟩;apply⟨l,_,_,rfl,rfl,t,by unfold zq;rw[ya,qbW];show qbj (by lk),?_⟩;show⟨_,_,_,_,_,_,rfl,fun c o z=>?_,?_⟩
     .rw [qf (fun z'=>by rw[z',hl] at z;cases z)];show sJ c o z
     .rw [qb,tbL_succ,ev];unfold zq;rw[yu];rfl
  .obtain⟨x3,x4,x5,x6,x7,L,rfl,sJ,t⟩:=D;ext;have e:((2 ^ ss.length:Nat)-1:Int).toNat+1=2 ^ ss.length:=by lk
   rw[e] at t;show q l J sJ hl t
theorem K8:FnScope ["_law_many_here","_law_bits_here","_law_table_here","_law_room_here","_law_free","_law_near"] ["_law_many_here","_law_bits_here","_law_table_here"] (qh qbg):=fS
noncomputable def frI(tps:LP)(ss:LS)(n:Nat):LN:=(List.range n).filter fun k=>decide (tbQ tps ss (jM (2 ^ ss.length-1) (2 ^ k))=tbQ tps ss (2 ^ ss.length-1))
noncomputable def nrI(bs a:LN)(k:Nat):Bool:=!decide (k∈a)&&!(a.filter fun j=>qaA bs k j).isEmpty
noncomputable def brI(tps:LP)(ss:LS)(bs:LN):LN:=(List.range ss.length).filter (nrI bs (frI tps ss ss.length))
theorem qd7(p:Nat->Bool)(i:Nat):(List.range (i+1)).filter p=(List.range i).filter p++(if p i=true then [i] else []):=by
 rw[YA,yV,yK,Yx]
theorem qcv(p:Nat->Bool)(i:Nat):((List.range i).filter p).length<=i:=yi (yN _ _) (by rw[YW];show yh _)
theorem ne_nilI{l z:Addr}{xs:LN}{Q:VK}(hl:H l=some (.lst (xs.map iV)))(hz:H z=some (.lst []))(q:Q (.bl (!xs.isEmpty)) H):qf6 K true (.ref l) (.ref z) H Q:=by
 cases xs with
 | nil=>show .inr (.inl ⟨l,z,true,1,rfl,rfl,by decide,EqT.lst (n:=0) (e:=fun _=>true) (SqL.of hl) (SqL.of hz) rfl fun j x y h=>by(simp at h),q⟩)
 | cons x r=>show .inr (.inl ⟨l,z,false,1,rfl,rfl,by decide,EqT.lstL (SqL.of hl) (SqL.of hz) (by simp),q⟩)
inductive spBrQ(vs:List V)(H:Hp)(Q:VK)(E:XK):Prop|mk (lb lt:Addr) (ss:LS) (tps:LP) (bs:LN) (_:vs=[.int (ss.length:Int),.ref lb,.ref lt]) (_:ss.length<=12) (_:bs.length=ss.length) (_:H lb=some (.lst (zq bs))) (_:H lt=some (.lst (zq (tbL tps ss (2 ^ ss.length))))) (_:∀(l:Addr) (H':Hp),L2.Same H H'->H l=none->H' l=some (.lst ((brI tps ss bs).map iV))->Q (.ref l) H')
theorem ok_brQ(F:Fun K "_law_bar" "_law_bar" qbg f fd)(T:Txt K mg cc cw):FnOk P w K mg base CX0 1 f fd ["_law_many_here","_law_bits_here","_law_table_here"] spBrQ:=by
 show F.ok K8 fun _ _ _ _ H vs Q E hr h=>?_
 .obtain⟨lb,lt,ss,tps,bs,rfl,X,L,N,t,q⟩:=h;have l:=jV hr;have ae:2 ^ ss.length<=4096:=xP (by decide) X;have p0:0<2 ^ ss.length:=Xk _;have pw:∀ k:Nat,(1*2 ^ ((k:Int)).toNat:Int)=((2 ^ k:Nat):Int):=fun k=>by rw[y0,kA,xG];rfl
  have tg:∀ k,k<2 ^ ss.length->(zq (tbL tps ss (2 ^ ss.length)))[k]?=some (.int (tbQ tps ss k:Nat)):=fun k hk=>by
   rw[jm (by rw[qbW];show hk),qe7 hk]
  show⟨_,(qc (qk (i:=3) K8.nd rfl (Xm rfl) (qw qbG (qw zY qg (pv 0)) qg))
 (qc (qk (i:=4) K8.nd rfl (Xm rfl) (q9 (sc:=qh qbg) (XN:=["_law_many_here","_law_bits_here","_law_table_here","_law_room_here","_law_free","_law_near"]) ["_law_k","_law_table_here","_law_room_here"] 1 [2,3] rfl rfl rfl (by room) rfl (by room)
  (jt rfl T.b_range (qa (pv 0) qd)) (fun _ _ _ _=>(qo (i:=0) (show(["_law_k","_law_table_here","_law_room_here"]:LS).Nodup by room) rfl (yJ rfl))) qR
  (fun _ _ _ _=>(qV (qj (j6 (K:=K) rfl l) (qu (qv (K:=K) rfl l) (pv 1) (qw zk (pv 2) (qaO qcA (qw zY qg (pv 0)))) (fun _ _=>rfl)) (qu (qv (K:=K) rfl l) (pv 1) (pv 2) (fun _ _=>rfl)) (qA _))))
  (fun _ _ _ _=>(pv 0))))
 (qc (qaI (sc:=qh qbg) (XN:=["_law_many_here","_law_bits_here","_law_table_here","_law_room_here","_law_free","_law_near"]) ["_law_k","_law_free","_law_bits_here"] 1 [4,1] rfl rfl rfl (by room) rfl (by room) (i:=5) K8.nd rfl rfl
  (jt rfl T.b_range (qa (pv 0) qd)) (fun _ _ _ _=>(qo (i:=0) (show(["_law_k","_law_free","_law_bits_here"]:LS).Nodup by room) rfl (Xm rfl))) qR
  (fun _ _ _ _=>(qV (PW.pt (qbD (qj (j9 (K:=K) rfl l) (pv 0) (pv 1) (by with_unfolding_all rfl)) (qbC (qj (qaJ (K:=K) rfl l) (pe_compIn ["_law_j","_law_bits_here","_law_k"] 1 [2,0] rfl (by room) rfl (by room)
  (qS (K:=K) rfl (pv 1)) (fun _ _ _ _=>(qo (i:=0) (show(["_law_j","_law_bits_here","_law_k"]:LS).Nodup by room) rfl (yJ rfl))) qR
  (fun _ _ _ _=>(qV (qj (j6 (K:=K) rfl l) (qw zk (qw qbh (qu (qv (K:=K) rfl l) (pv 1) (pv 2) (fun _ _=>rfl)) (pv 0)) qg) qg (qA _))))
  (fun _ _ _ _=>(pv 0))) (qW qd) (qA _)))))))
  (fun _ _ _ _=>(pv 0)))
 (qe (qm (pv 5)))))),?_⟩
  apply vI ⟨by lk,by lk,by decide⟩ ?_;ext;rw[pw];have eF:((2 ^ ss.length:Nat):Int)-1=((2 ^ ss.length-1:Nat):Int):=by lk
  rw[eF];obtain⟨b,p⟩:∃ b,b=2 ^ ss.length-1:=⟨_,rfl⟩;rw[<- p];apply⟨_,rfl,by lk,by lk,?_⟩;rw[y0];show zg (lo:=0) (fun i ys J=>J=H/\ys=(frI tps ss i).map iV) ⟨rfl,rfl⟩ (fun i ys J hi g=>?_) fun ys J g=>?_
  .obtain⟨rfl,rfl⟩:=g;rw[xQ];apply vI ⟨by lk,by lk,by decide⟩ ?_;apply vU ?_;ext;rw[pw,zo];have u:jM b (2 ^ i)<2 ^ ss.length:=Yp (by unfold jM;lk) (show b<2 ^ ss.length by lk);show .inl (zN t (qt (tg _ u)) ?_);apply .inl (zN t (qt (tg b (by lk))) ?_);apply qbl ?_;ext
   have B:frI tps ss (i+1)=frI tps ss i++(if decide (tbQ tps ss (jM b (2 ^ i))=tbQ tps ss b)=true then [i] else []):=by
    unfold frI;rw[qd7,<- p]
   have C:decide ((tbQ tps ss (jM b (2 ^ i)):Int)=(tbQ tps ss b:Int))=decide (tbQ tps ss (jM b (2 ^ i))=tbQ tps ss b):=Yq.mpr (by lk);rw[B,C];have l1:(frI tps ss i).length<=i:=qcv _ i;show qL (fun h=>?_) fun h=>?_
   .rw [yG h];apply⟨by rw[ya];show qbj (by lk),rfl,by rw[yu];rfl⟩
   .rw [yA h,Yh];show⟨rfl,rfl⟩
  .obtain⟨rfl,rfl⟩:=g;have l1:(frI tps ss ss.length).length<=ss.length:=qcv _ _;have M:∀ j∈frI tps ss ss.length,j<ss.length:=fun j hj=>Ym.mp (yp.mp hj).1;obtain⟨a,n⟩:∃ a,a=frI tps ss ss.length:=⟨_,rfl⟩;have I:brI tps ss bs=(List.range ss.length).filter (nrI bs a):=by rw[n];rfl
   rw[I] at q;rw[<- n] at l1 M ⊢;show⟨by rw[ya];show yW (qbj (by lk)),fun U O=>?_⟩;have Y:=qG (Sr J) (o:=.lst (a.map iV)) O;have ef:upd J U (.lst (a.map iV)) U=some (.lst (a.map iV)):=qb;generalize upd J U (.lst (a.map iV))=J2 at Y ef;apply⟨_,rfl,by lk,by lk,?_⟩;rw[y0];show zg (lo:=0) (fun i ys G=>L2.Same J2 G/\ys=((List.range i).filter (nrI bs a)).map iV) ⟨L2.Same.refl _,rfl⟩ (fun i ys G hi g=>?_) fun ys G g=>?_
   .obtain⟨m,rfl⟩:=g;rw[xQ];have e:=m _ _ ef;have r:=m _ _ (Y _ _ N);apply qe2 e ?_;ext;have B:(List.range (i+1)).filter (nrI bs a)=(List.range i).filter (nrI bs a)++(if nrI bs a i=true then [i] else []):=qd7 _ i;have l2:((List.range i).filter (nrI bs a)).length<=i:=qcv _ i;rw[B];show qL (fun hc=>?_) fun hc=>?_
    .have en:nrI bs a i=!(a.filter fun j=>qaA bs i j).isEmpty:=by unfold nrI;rw[hc,Bool.true_and]
     rw[en];apply .inl ⟨⟨_,.of e⟩,qH (xs:=a.map iV) (fun k ys d=>d=G/\ys=((a.take k).filter fun j=>qaA bs i j).map iV) ⟨rfl,rfl⟩ (fun k ys d _ c=>by rw[c.1];show .of e) (fun k y ys d hy c=>?_) fun ys d c=>?_⟩
     .obtain⟨rfl,rfl⟩:=c;rw[yd] at hy;obtain⟨v,hv,rfl⟩:=yn.mp hy;have ac:k<a.length:=(yc.mp hv).1
      have S:(a.take (k+1)).filter (fun j=>qaA bs i j)=(a.take k).filter (fun j=>qaA bs i j)++(if qaA bs i v=true then [v] else []):=by
       rw[yM,hv,yV];show _++[v].filter _=_;rw[yK,Yx]
      have aa:((a.take k).filter (fun j=>qaA bs i j)).length<=k:=yi (yN _ _) (by rw[yR];lk);apply .inl (zN r (qt (jm (by rw[L];show hi))) ?_);apply vI (by show(0:Int)<=(v:Int);lk) ?_;apply qbl ?_;rw[qai,S];apply qL (fun h=>?_) fun h=>?_
      .rw [yG (show qaA bs i v=true from h)];apply⟨by rw[ya];show qbj (by lk),rfl,by rw[yu];rfl⟩
      .rw [yA (show ¬ qaA bs i v=true from h),Yh];show⟨rfl,rfl⟩
     .obtain⟨rfl,rfl⟩:=c;have C:(a.map iV).length=a.length:=ya _;rw[C,yS];generalize D:a.filter (fun j=>qaA bs i j)=xs;have ad:xs.length<=12:=by rw[<- D];show yi (yN _ _) (by lk)
      show⟨by rw[ya];show yW (qbj (by lk)),fun W R=>?_⟩;have s3:=qG (Sr d) (o:=.lst (xs.map iV)) R;have ex:upd d W (.lst (xs.map iV)) W=some (.lst (xs.map iV)):=qb;generalize upd d W (.lst (xs.map iV))=A at s3 ex;apply⟨by show 0<=sizeLine;decide,fun z hz=>?_⟩;have Z:=qG (Sr A) (o:=.lst []) hz;have ez:upd A z (.lst []) z=some (.lst []):=qb;generalize upd A z (.lst [])=G3 at Z ez;show ne_nilI (Z _ _ ex) ez ?_;ext;have x:=(m.trans s3).trans Z;show qL (fun h=>?_) fun h=>?_
      .rw [yG h];apply⟨by rw[ya];show qbj (by lk),x,by rw[yu];rfl⟩
      .rw [yA h,Yh];show⟨x,rfl⟩
    .have en:¬ nrI bs a i=true:=by unfold nrI;rw[yX];show fun z=>hc z.1
     rw[yA en,Yh];show qL (fun h=>by cases h) fun _=>⟨m,rfl⟩
   .obtain⟨m,rfl⟩:=g;have l2:((List.range ss.length).filter (nrI bs a)).length<=ss.length:=qcv _ _;show⟨by rw[ya];show yW (qbj (by lk)),fun ln s=>?_⟩;have s5:=qG (Sr G) (o:=.lst (((List.range ss.length).filter (nrI bs a)).map iV)) s;have sN:=Y.trans m;apply q ln _ (sN.trans s5) (sN.free s) qb
theorem K1:FnScope ["_law_names_here","_law_bits_here","_law_bar_here","_law_many_here","_law_gone","_law_pieces_here"] ["_law_names_here","_law_bits_here","_law_bar_here"] (qh qaC):=fS
inductive spLkJ(vs:List V)(H:Hp)(Q:VK)(E:XK):Prop|mk (n bb a:Addr) (ss:LS) (TI:List (Nat×Nat)) (bs gs:LN) (_:vs=[.ref n,.ref bb,.ref a]) (_:H n=some (.lst (ss.map V.str))) (_:H bb=some (.lst (zq bs))) (_:BarJ ss TI bs gs) (_:H a=some (.lst ((gs.map (tn ss)).map V.str))) (_:∀(H':Hp),L2.Same H H'->Q (.int ((odJ bs gs ss.length:Nat)-(gs.length:Nat))) H')
theorem ok_lkJ(F:Fun K "_law_lack" "_law_lack" qaC f fd)(T:Txt K mg cc cw)(Uu:DefOk P w K mg base CX0 1 "_law_room" ["_law_many_here","_law_gone"] spRmJ)(Z:DefOk P w K mg base CX0 1 "_law_pieces" ["_law_many_here","_law_bits_here","_law_room_here"] spPjJ):FnOk P w K mg base CX0 2 f fd ["_law_names_here","_law_bits_here","_law_bar_here"] spLkJ:=by
 show F.ok K1 fun _ _ _ _ H vs Q E M h=>?_
 .obtain⟨n,bb,a,ss,TI,bs,gs,rfl,I,z,B,x,q⟩:=h;have hu:=jV M;have hf:=B.few;have d:=B.ok.few;show⟨_,(qc (qk (i:=3) K1.nd rfl (yJ rfl) (qr (jY (K:=K) rfl) rfl T.b_len YQ (qa (pv 0) qd)))
 (qc (qaI (sc:=qh qaC) (XN:=["_law_names_here","_law_bits_here","_law_bar_here","_law_many_here","_law_gone","_law_pieces_here"]) ["_law_place","_law_names_here"] 1 [0] rfl rfl rfl (by room) rfl (by room) (i:=4) K1.nd rfl rfl
  (qS (K:=K) rfl (pv 2)) (fun _ _ _ _=>(qo (i:=0) (show(["_law_place","_law_names_here"]:LS).Nodup by room) rfl (yJ rfl))) qR
  (fun _ _ _ _=>jU)
  (fun _ _ _ _=>(qaW (K:=K) rfl yD Yz YK (qag (K:=K) rfl) (pv 1) (qa (pv 0) qd))))
 (qc (qk (i:=5) K1.nd rfl (yJ rfl) (qp Z (hmR M) qB (qa (pv 3) (qa (pv 1) (qa (qp Uu (hmR M) qB (qa (pv 3) (qa (pv 4) qd))) qd)))))
 (qe (qm (qw qbG (qr (jY (K:=K) rfl) rfl T.b_len YQ (qa (q9 (sc:=qh qaC) (XN:=["_law_names_here","_law_bits_here","_law_bar_here","_law_many_here","_law_gone","_law_pieces_here"]) ["_law_piece"] 1 [] rfl rfl rfl (by room) rfl (by room)
  (qS (K:=K) rfl (pv 5)) (fun _ _ _ _=>(qo (i:=0) (show(["_law_piece"]:LS).Nodup by room) rfl (yJ rfl))) qR
  (fun _ _ _ _=>(qV (qj (j6 (K:=K) rfl hu) (qw zr (qr (jY (K:=K) rfl) rfl T.b_len YQ (qa (pv 0) qd)) qg) qg (qA _))))
  (fun _ _ _ _=>(pv 0))) qd)) (qr (jY (K:=K) rfl) rfl T.b_len YQ (qa (pv 2) qd)))))))),?_⟩
  apply qac I ?_;rw[ya];apply .inl ⟨⟨_,.of x⟩,qH (fun i ys J=>J=H/\ys=(gs.take i).map iV) ⟨rfl,rfl⟩ (fun i ys J _ r=>by rw[r.1];show .of x) (fun i y ys J v r=>?_) fun ys J r=>?_⟩
  .obtain⟨rfl,rfl⟩:=r;obtain⟨sy,W,rfl⟩:=jT v;rw[yd] at W;obtain⟨k,D,rfl⟩:=yn.mp W;have m:=B.lt k (ye D);have aa:=(yc.mp D).1;apply zZ ?_;apply⟨.inl ⟨rfl,_,.of I⟩,?_⟩;apply⟨n,ss,_,rfl,rfl,.of I,qbV m,?_⟩;rw[qa2 B.ok.nd (zX m)];show⟨by rw[ya,yR];show qi (by lk),rfl,by rw[yM,D,yu];rfl⟩
  .obtain⟨rfl,rfl⟩:=r;rw[show((gs.map (tn ss)).map V.str).length=gs.length by rw[ya,ya],yS];show⟨by rw[ya];show yW (qi (by lk)),fun g hg=>?_⟩;have X:=qG (Sr J) (o:=.lst (gs.map iV)) hg;have U:upd J g (.lst (gs.map iV)) g=some (.lst (gs.map iV)):=qb;generalize upd J g (.lst (gs.map iV))=H1 at X U;apply⟨g,ss.length,gs,rfl,d,U,fun H2 s2=>?_⟩;have t:=X.trans s2;apply⟨bb,ss.length,rmJ gs ss.length,bs,rfl,d,t _ _ z,B.bt.1,B.bt.2.1,B.bt.sym,(qcp gs ss.length).1,fun l R S s3 _ hl j=>?_⟩;have u:=t.trans s3;have j:All2 (fun a ks=>S a=some (.lst (ks.map iV))) R (pcJ bs gs ss.length):=j;have few:=yi (qe6 bs gs ss.length) d;have q:∀(H':Hp),L2.Same J H'->Q (.int ((((pcJ bs gs ss.length).filter fun c=>decide (c.length % 2=1)).length:Nat)-(gs.length:Nat))) H':=q;generalize pcJ bs gs ss.length=PS at j few q;have s:=j.len;apply .inl ⟨⟨_,.of hl⟩,qH (xs:=R.map V.ref) (fun i ys G=>G=S/\∃ us:LX,ys=us.map V.ref/\us.length=((PS.take i).filter fun c=>decide (c.length % 2=1)).length) ⟨rfl,[],rfl,rfl⟩ (fun i ys G _ b=>by rw[b.1];show .of hl) (fun i y ys G v b=>?_) fun ys G b=>?_⟩
   .obtain⟨rfl,us,rfl,e⟩:=b;rw[yd] at v;obtain⟨c,hc,rfl⟩:=yn.mp v;have hi:i<PS.length:=by rw[<- s];show(yc.mp hc).1
    obtain⟨ks,p⟩:∃ ks,PS[i]?=some ks:=⟨_,yb hi⟩;have A:=j.at_ i c _ hc p
    have O:us.length<=14:=by
     rw[e];show yi (yN _ _) (by rw[yR];lk)
    apply qac A ?_;rw[ya];apply vI (by decide) ?_;apply qbl ?_;have eo:decide ((ks.length:Int) % 2=1)=decide (ks.length % 2=1):=Yq.mpr (by lk);rw[eo];ext
    have N:((PS.take (i+1)).filter fun c=>decide (c.length % 2=1)).length=us.length+if decide (ks.length % 2=1)=true then 1 else 0:=by
     rw[yM,p,yV,yt,e];show _+([ks].filter fun c=>decide (c.length % 2=1)).length=_;rw[yK,Yx];cases decide (ks.length % 2=1)<;>rfl
    rw[N];show qL (fun L=>?_) (fun L=>?_)
    .ext;rw[yG L];show⟨by rw[ya];show qi (by lk),rfl,us++[c],by rw[yu];rfl,by rw[yt];rfl⟩
    .rw [yA L];show⟨rfl,us,rfl,rfl⟩
   .obtain⟨rfl,us,rfl,e⟩:=b;rw[show(R.map V.ref).length=PS.length by rw[ya,s],yS] at e
    have O:us.length<=14:=by
     rw[e];show yi (yN _ _) few
    show⟨by rw[ya];show yW (qi (by lk)),fun g9 C=>?_⟩;have Y:=qG (Sr G) (o:=.lst (us.map V.ref)) C;apply qac qb ?_;rw[ya,e];apply qac (Y _ _ (u _ _ x)) ?_;rw[ya,ya];apply q _ (u.trans Y)
theorem Kw:FnScope ["_law_names_here","_law_bits_here","_law_thing","_law_seen","_law_pair","_law_one","_law_other"] ["_law_names_here","_law_bits_here","_law_thing"] (qh zf):=fS
noncomputable def nuQ(ss:LS)(qs:LP):LN:=(qx qs).map fun s=>ss.idxOf s
theorem qe8{g:Addr}{k:Nat}{Q:VK}(h:H g=some (.lst (gs.map iV)))(q:Q (.bl (decide (k∈gs))) H):qem K false (iV k) (.ref g) H Q:=by
 classical
 show .inr (.inr ⟨g,gs.map iV,fun z=>eqV z (iV k),1,rfl,SqL.of h,by decide,fun z hz=>?_,?_⟩)
 .obtain⟨j,b,rfl⟩:=yE.mp hz;show .flat rfl rfl
 .have e:(gs.map iV).any (fun z=>eqV z (iV k))=decide (k∈gs):=by
   rw[Yr,YJ,yI];constructor
   .rintro ⟨z,hz,e⟩;obtain⟨j,b,rfl⟩:=yE.mp hz;have a:=jy (j:Int) (k:Int);rw[yA (by decide)] at a;rw[a,yI] at e;have:j=k:=by lk
    show this ▸ b
   .intro c;show⟨iV k,yE.mpr ⟨k,c,rfl⟩,?_⟩;have a:=jy (k:Int) (k:Int);rw[yA (by decide)] at a;rw[a];show yB rfl
  rw[yA (by decide),e];show q
theorem qd8{m:Addr}{Q:VK}(e:H m=some (.lst (l.map V.str)))(q:Q (.bl (!decide (s∈l))) H):qem K true (.str s) (.ref m) H Q:=
 .inl ⟨m,_,rfl,.inl (SqL.of e),rfl,YI.mpr fun x a=>by(obtain⟨s,_,rfl⟩:=yE.mp a;rfl),by rw[yG rfl,qdq];show q⟩
theorem qe9(b:s∈ss)(c:t∈ss)(e:ss.idxOf s=ss.idxOf t):s=t:=by
 have h1:ss[ss.idxOf s]?=some s:=by rw[yb (Yc b),Yt]
 have a:ss[ss.idxOf t]?=some t:=by rw[yb (Yc c),Yt]
 rw[e,a] at h1;show(ym h1).symm
inductive spArQ(vs:List V)(H:Hp)(Q:VK)(E:XK):Prop|mk (n bb l:Addr) (ss:LS) (TI:List (Nat×Nat)) (bs:LN) (us:LX) (qs:LP) (_:vs=[.ref n,.ref bb,.ref l]) (_:H n=some (.lst (ss.map V.str))) (_:ss.Nodup) (_:TJ ss.length TI) (_:H bb=some (.lst (zq bs))) (_:BtJ ss.length TI bs) (_:PL H l us qs) (_:PGo ss (TI.map (nmP ss)) qs) (_:∀ H',L2.Same H H'->Q (.bl true) H')
theorem ok_arQ(F:Fun K "_law_are_pairs" "_law_are_pairs" zf f fd)(T:Txt K mg cc cw):FnOk P w K mg base CX0 1 f fd ["_law_names_here","_law_bits_here","_law_thing"] spArQ:=by
 show F.ok Kw fun _ _ _ s H vs Q E hr h=>?_
 .obtain⟨n,bb,l,ss,TI,bs,us,qs,rfl,hn,hN,hj,N,G,⟨hl,A⟩,g,q⟩:=h;have r:=jV hr;have few:=g.few;have S:=A.len;show⟨_,(qc (qP (qZ (qU (qr (qaX (K:=K) rfl) rfl T.b_isinstance YO (qa (pv 2) (qa (jz (v:=.ty "list") rfl T.b_list xp rfl) qd))))) (qe (qm js)) qy)
 (qc (qk (i:=3) Kw.nd rfl (yJ rfl) (qW qd))
 (qc (jj yY rfl (qS (K:=K) rfl (pv 2)) (qo (i:=4) Kw.nd rfl (yJ rfl))
 (qc (qP (PW.pt (zK (qZ (qU (qr (qaX (K:=K) rfl) rfl T.b_isinstance YO (qa (pv 4) (qa (jz (v:=.ty "tuple") rfl T.b_tuple XY rfl) qd))))) (zK (qj (qaJ (K:=K) rfl r) (qr (jY (K:=K) rfl) rfl T.b_len YQ (qa (pv 4) qd)) qg (qA _)) (zK (qj (j9 (K:=K) rfl r) (qu (qv (K:=K) rfl r) (pv 4) qg (fun _ _=>rfl)) (pv 0) (by with_unfolding_all rfl)) (zE (qj (j9 (K:=K) rfl r) (qu (qv (K:=K) rfl r) (pv 4) qg (fun _ _=>rfl)) (pv 0) (by with_unfolding_all rfl))))))) (qe (qm js)) qy)
 (qc (qk (i:=5) Kw.nd rfl (yJ rfl) (qaW (K:=K) rfl yD Yz YK (qag (K:=K) rfl) (pv 0) (qa (qu (qv (K:=K) rfl r) (pv 4) qg (fun _ _=>rfl)) qd)))
 (qc (qk (i:=6) Kw.nd rfl (yJ rfl) (qaW (K:=K) rfl yD Yz YK (qag (K:=K) rfl) (pv 0) (qa (qu (qv (K:=K) rfl r) (pv 4) qg (fun _ _=>rfl)) qd)))
 (qc (qP (PW.pt (zK (qj (zQ (K:=K) rfl r) (pv 5) (pv 3) (by with_unfolding_all rfl)) (zK (qj (zQ (K:=K) rfl r) (pv 6) (pv 3) (by with_unfolding_all rfl)) (zE (qj (j6 (K:=K) rfl r) (qw zk (qw qbh (qu (qv (K:=K) rfl r) (pv 1) (pv 5) (fun _ _=>rfl)) (pv 6)) qg) qg (qA _)))))) (qe (qm js)) qy)
 (qe (qN (qaW (K:=K) rfl yD xR xS qas (pv 3) (qa (qW (qa (pv 5) (qa (pv 6) qd))) qd)))))))))
 (qe (qm js))))),?_⟩
  apply qch (.inl (.lst hl)) rfl (zP K "list" (by simp) "list" (by simp)) ?_;apply yq ?_;apply⟨by show 0<=sizeLine;decide,fun d hd=>?_⟩;have U:=qG (Sr H) (o:=.lst []) hd;have ed:upd H d (.lst []) d=some (.lst ((nuQ ss []).map iV)):=qb;generalize upd H d (.lst [])=H1 at U ed;apply .inl ⟨⟨_,.of (U _ _ hl)⟩,jc (xs:=us.map V.ref) (fun i σ J=>L2.Same H J/\∃ X Y Z,σ=[some (.ref n),some (.ref bb),some (.ref l),some (.ref d),X,Y,Z]/\J d=some (.lst ((nuQ ss (qs.take i)).map iV))) ⟨U,_,_,_,rfl,ed⟩ (fun i σ J _ I=>.of (I.1 _ _ hl)) (fun i y σ J hy I=>?_) fun σ J I=>?_⟩
  .obtain⟨x,X,Y,Z,rfl,p⟩:=I;rw[yd] at hy;obtain⟨b,B,rfl⟩:=yn.mp hy;have hi:i<us.length:=(yc.mp B).1;obtain⟨ab,u⟩:∃ ab,qs[i]?=some ab:=⟨_,yb (by rw[<- S];show hi)⟩;have eb:=A.at_ i b ab B u;obtain⟨M,m1,m2,ac⟩:=g.inn ab (ye u);obtain⟨O,aa,n1,n2⟩:=g.new u;have ad:(qx (qs.take i)).length<=60:=by rw[zU,yR];lk
   have a:=x _ _ eb;have m:=x _ _ hn;have C:=x _ _ N;apply qch (.inl (.tup a)) rfl (zP K "tuple" (by simp) "tuple" (by simp)) ?_;apply yq ?_;apply qfk a ?_;apply .inl ⟨rfl,rfl,?_⟩;apply yq ?_;apply .inl (zO a (v:=.str ab.1) (qt (j:=0) rfl) ?_);apply qd8 m ?_;rw[yB m1];apply yq ?_;apply .inl (zO a (v:=.str ab.2) (qt (j:=1) rfl) ?_);apply qd8 m ?_;rw[yB m2];apply yq ?_;apply⟨.inl ⟨rfl,_,.of m⟩,?_⟩;apply .inl (zO a (v:=.str ab.1) (qt (j:=0) rfl) ?_);apply⟨n,ss,_,rfl,rfl,.of m,m1,?_⟩;apply⟨.inl ⟨rfl,_,.of m⟩,?_⟩;apply .inl (zO a (v:=.str ab.2) (qt (j:=1) rfl) ?_);apply⟨n,ss,_,rfl,rfl,.of m,m2,?_⟩
   have L:∀{s:Str},s∈ss->s∉qx (qs.take i)->ss.idxOf s∉nuQ ss (qs.take i):=fun{s} hs h z=>by
    obtain⟨t,M,e⟩:=yE.mp z
    have R:t∈ss:=by
     obtain⟨qq,hq,hm⟩:=Y9.mp M;have:=g.inn qq (List.mem_of_mem_take hq);rcases yy.mp hm with z | z
     .rw [z];show this.2.1
     .rw [yH.mp z];show this.2.2.1
    have:t=s:=qe9 R hs e;show h (this ▸ M)
   apply qe8 p ?_;rw[yl (L m1 n1)];apply yq ?_;apply qe8 p ?_;rw[yl (L m2 n2)];apply yq ?_;ext;have i1:ss[ss.idxOf ab.1]?=some ab.1:=by rw[yb (Yc m1),Yt]
   have i2:ss[ss.idxOf ab.2]?=some ab.2:=by rw[yb (Yc m2),Yt]
   have l1:ss.idxOf ab.1<ss.length:=Yc m1;have D:(bs.getD (ss.idxOf ab.1) 0).testBit (ss.idxOf ab.2)=true:=(G.2.2 _ _).mpr ((qfq hN hj i1 i2).mp M);show .inl (zN C (qt (jm (by rw[G.1];show l1))) ?_);apply vI (by lk) ?_;apply qbl ?_;rw[qdP,D];apply yq ?_;apply⟨.inl ⟨rfl,_,.of p⟩,?_⟩;apply⟨by show 2<=sizeLine;decide,fun e he=>?_⟩;have W:=qG (Sr J) (o:=.lst [iV (ss.idxOf ab.1),iV (ss.idxOf ab.2)]) he;have ee:upd J e (.lst [iV (ss.idxOf ab.1),iV (ss.idxOf ab.2)]) e=some (.lst [iV (ss.idxOf ab.1),iV (ss.idxOf ab.2)]):=qb;generalize upd J e (.lst [iV (ss.idxOf ab.1),iV (ss.idxOf ab.2)])=J3 at W ee;apply⟨d,e,_,_,rfl,rfl,W _ _ p,ee,?_,?_⟩
   .unfold nuQ;rw[ya,ya];show yW (qbj (by show _+2<=5000;lk))
   .show⟨fun c o z=>?_,_,_,_,rfl,?_⟩
    .rw [qf (fun z'=>by rw[z',hd] at z;cases z)];show W _ _ (x c o z)
    .rw [qb,O];unfold nuQ;rw[zz,yu,yu];rfl
  .obtain⟨x,X,Y,Z,rfl,p⟩:=I;apply q J x
def LvR(ss:LS)(tps:LP)(gs:LS)(rs:LP):Prop:=∃ ms,WOk (zB ss gs) ms/\Adj (zB ss gs) ms (qae (zB ss gs) tps)/\GrR (zB ss gs) ms rs
theorem ties_rise{g:Str->Nat}(y:l.Nodup)(h:l.Pairwise fun a b=>g a<g b):∀ n,n<=l.length->(∀ q∈qE l ms n,g q.1<g q.2)/\(qE l ms n).Pairwise fun a b=>g a.1<=g b.1:=by
 have at_:∀{i j:Nat} {a b:Str},l[i]?=some a->l[j]?=some b->i<j->g a<g b:=fun{i j a b} d m p=>by
  obtain⟨h1,v⟩:=yc.mp d;obtain⟨c,w⟩:=yc.mp m;rw[<- v,<- w];show Yy.mp h i j h1 c p
 have row:∀{i:Nat},i<l.length->∀ q∈qfm l ms i,l[i]?=some q.1/\g q.1<g q.2:=fun{i} x q f=>by
  obtain⟨o,A,rfl⟩:=yE.mp f;obtain⟨h1,c⟩:=yp.mp A;have s:=(qdp y h1).1;have t:l[i]?=some (l.getD i ""):=by rw[Yi,yb x];rfl
  show⟨t,at_ t (by rw[yb (Yc s),Yt]) (yk c)⟩
 intro n
 induction n with
 | zero=>show fun _=>⟨(fun q f=>by cases f),.nil⟩
 | succ n ih =>
  intro hl;obtain⟨B,C⟩:=ih (by lk);have e:qE l ms (n+1)=qE l ms n++qfm l ms n:=by unfold qE;rw[YA,xY,List.flatMap_singleton]
  rw[e];show⟨fun q f=>?_,List.pairwise_append.mpr ⟨C,?_,fun a d b m=>?_⟩⟩
  .rcases yC.mp f with z | z
   .show B q z
   .show(row hl q z).2
  .show Yy.mpr fun i j h1 c _=>?_;have D:=(row hl _ (Y2 h1)).1;have u:=(row hl _ (Y2 c)).1;rw[D] at u;rw[ym u];show yh _
  .obtain⟨k,r,d⟩:=Y9.mp d;have r:=Ym.mp r;show yW (at_ (row (by lk) a d).1 (row hl b m).1 r)
theorem idx_rise(d:l.Nodup):l.Pairwise fun a b=>l.idxOf a<l.idxOf b:=Yy.mpr fun i j h1 e c=>by
 rw[qa2 d (yb h1),qa2 d (yb e)];show c
def RsQ(ss:LS)(qs:LP):Prop:=(∀ q∈qs,ss.idxOf q.1<ss.idxOf q.2)/\∀(j:Nat) a b,qs[j]?=some a->qs[j+1]?=some b->ss.idxOf a.1<ss.idxOf b.1
theorem names_two(g:(qx qs).Nodup):qs.Pairwise fun a b=>a.1≠b.1:=by
 induction qs with
 | nil=>show .nil
 | cons q r ih =>
  have h:(q.1::q.2::qx r).Nodup:=g;obtain⟨h1,c⟩:=yo.mp h;obtain⟨i,d⟩:=yo.mp c;show ko.mpr ⟨fun b f e=>h1 ?_,ih d⟩;rw[e];show yz _ ?_;clear ih c i h1 h g d
  induction r with
  | nil=>cases f
  | cons x r ih =>
   show b.1∈x.1::x.2::qx r;rcases yy.mp f with z | z
   .rw [z];show yO
   .show yz _ (yz _ (ih z))
theorem rise_of{rs:LP}(h:ss.Nodup)(hl:l.Sublist ss)(v:∃ p,rs=(qE l ms l.length).filter p)(w:(qx rs).Nodup)(f:∀ q∈rs,q.1∈ss):RsQ ss rs:=by
 obtain⟨h1,t⟩:=ties_rise (ms:=ms) (h.sublist hl) ((idx_rise h).sublist hl) _ (yh _);obtain⟨p,e⟩:=v;show⟨fun q g=>h1 q (by rw[e] at g;show(yp.mp g).1),fun j a b c d=>?_⟩;have u:rs.Pairwise fun a b=>ss.idxOf a.1<=ss.idxOf b.1:=by rw[e];show t.filter _
 obtain⟨i,r⟩:=yc.mp c;obtain⟨m,s⟩:=yc.mp d;have n:=Yy.mp u j (j+1) i m (by lk);have o:=Yy.mp (names_two w) j (j+1) i m (by lk);rw[r,s] at n o;show Nat.lt_of_le_of_ne n fun z=>o ?_;show qe9 (f a (ye c)) (f b (ye d)) z
theorem qd9:rmN ss (2 ^ ss.length-1)=ss:=by
 unfold rmN;show ke.mpr fun s a=>by rw[Nat.testBit_two_pow_sub_one];show yB (Yc a)
theorem qea:∀{ps:List (LS)},(∀ p∈ps,p.length % 2=0)->ps.flatten.length % 2=0
 | [],_=>rfl
 | p::r,h=>by
  rw[xo,yt];have h1:=h p yO;have b:=qea (ps:=r) fun q a=>h q (yz _ a);lk
theorem qfa:∀{ps:List (LS)},(∀ p∈ps,p.Nodup)->(ps.Pairwise fun p q=>∀ a∈p,a∉q)->ps.flatten.Nodup
 | [],_,_=>.nil
 | p::r,h,g=>by
  obtain⟨f,i⟩:=ko.mp g;rw[xo];show Yk.mpr ⟨h p yO,qfa (fun q d=>h q (yz _ d)) i,fun a j b l e=>?_⟩;obtain⟨q,d,c⟩:=kQ.mp l;show f q d a j (e ▸ c)
section
variable{ss:LS}{tps qs:LP}{S:FS}{bar:LS}{ps:List (LS)}
theorem strong(F:Fn (tA tps) (pt qs) S ss)(y:∀ s,s∈bar↔s∈qds S ss)(C:PcsOk ss tps bar ps):(snL (pt qs) ss).length+(qds S ss).length<=(ps.filter qek).length:=by
 rw[<- F.count]
 have cls:∀{p:LS} {b:Str},p∈ps->∀{a c:Str},a∈p->c∈p->a∈qdr S ss b->c∈qdr S ss b:=fun{p b} d {a c} o hc h=>by
  show C.con p d (fun x=>x∈qdr S ss b) (fun u E v hv t h=>?_) a o c hc h;obtain⟨_,j,n⟩:=mem_cls.mp h;rcases F.cl u v j t with e | ⟨e1,e2⟩
  .show mem_cls.mpr ⟨((C.h1 p d).2.1 v hv).1,F.fi.evE j e,e.trans n⟩
  .show absurd ((y v).mpr (mem_bar.mpr ⟨((C.h1 p d).2.1 v hv).1,e1,e2⟩)) ((C.h1 p d).2.1 v hv).2
 have w:∀ b∈qbS S ss,∃ p∈ps.filter qek,S.bas (p.headD "")=b:=fun b q=>Yj fun hc=>by
  have B:=F.cls_odd q;obtain⟨rs,i⟩:∃ rs,rs=ps.filter fun p=>p.any fun a=>decide (a∈qdr S ss b):=⟨_,rfl⟩
  have g:∀ p∈rs,p∈ps/\∀ a∈p,a∈qdr S ss b:=fun p d=>by
   rw[i] at d;obtain⟨h1,j⟩:=yp.mp d;obtain⟨a,o,n⟩:=YJ.mp j;show⟨h1,fun c hc=>cls h1 o hc (yk n)⟩
  have A:(qdr S ss b).length=rs.flatten.length:=by
   show((List.perm_ext_iff_of_nodup (F.nd.filter _) (qfa (fun p d=>(C.h1 p (g p d).1).1) ?_)).mpr fun a=>⟨fun h=>?_,fun h=>?_⟩).length_eq
   .rw [i];show C.h2.filter _
   .obtain⟨h1,j,_⟩:=mem_cls.mp h;obtain⟨p,d,f⟩:=C.cov a h1 fun z=>j (mem_bar.mp ((y a).mp z)).2.2;show kQ.mpr ⟨p,by rw[i];show yp.mpr ⟨d,YJ.mpr ⟨a,f,yB h⟩⟩,f⟩
   .obtain⟨p,d,f⟩:=kQ.mp h;show(g p d).2 a f
  have D:=qea (ps:=rs) fun p d=>by
   cases e:qek p with
   | false=>have:=of_decide_eq_false e;lk
   | true =>
    show absurd ⟨p,yp.mpr ⟨(g p d).1,e⟩,?_⟩ hc
    cases p with
    | nil=>cases e
    | cons a r=>show(mem_cls.mp ((g _ d).2 a yO)).2.2
  lk
 have:=qcw (l:=qbS S ss) (m:=(ps.filter qek).map fun p=>S.bas (p.headD "")) (F.nd.filter _) fun b h=>by
  obtain⟨p,d,e⟩:=w b h;show yE.mpr ⟨p,d,e⟩
 rwa[ya] at this
end
theorem uk:FnScope ["_law_names_here","_law_pairs","_law_numbers"] ["_law_names_here","_law_pairs"] (qh zi):=fS
noncomputable def ixP(ss:LS)(q:Str×Str):Nat×Nat:=(ss.idxOf q.1,ss.idxOf q.2)
theorem eqT_ipl{l r:Addr}{TI:List (Nat×Nat)}(h:IPL H l ts TI)(g:H r=some (.lst (ts.map V.ref))):EqT K H 2 l r true:=qeM h.1 g rfl fun j x y a c=>by
 rw[a] at c;cases c;rw[yd] at a;obtain⟨t,b,rfl⟩:=yn.mp a;have d:j<TI.length:=by rw[<- h.2.len];show(yc.mp b).1
 have e:=h.2.at_ j t _ b (yb d);have z:=qc6 (K:=K) e e
 rwa[yB rfl] at z
theorem eqT_nil{l z:Addr}(hl:H l=some (.lst []))(hz:H z=some (.lst [])):EqT K H 1 l z true:=EqT.lst (n:=0) (e:=fun _=>true) (SqL.of hl) (SqL.of hz) rfl fun j x y h=>by(simp at h)
inductive spRsQ(vs:List V)(H:Hp)(Q:VK)(E:XK):Prop|mk (n l:Addr) (ss:LS) (us:LX) (qs:LP) (_:vs=[.ref n,.ref l]) (_:H n=some (.lst (ss.map V.str))) (_:PL H l us qs) (_:qs.length<=30) (_:(∀ q∈qs,q.1∈ss/\q.2∈ss)) (_:RsQ ss qs) (_:∀ H',L2.Same H H'->Q (.bl true) H')
theorem ok_rsQ(F:Fun K "_law_rising" "_law_rising" zi f fd)(T:Txt K mg cc cw):FnOk P w K mg base CX0 1 f fd ["_law_names_here","_law_pairs"] spRsQ:=by
 show F.ok uk fun _ _ _ _ H vs Q E hr h=>?_
 .obtain⟨n,l,ss,us,rs,rfl,hn,p,aj,ad,hR,q⟩:=h;have hu:=jV hr;have ag:=p.2.len;show⟨_,(qc (qaI (sc:=qh zi) (XN:=["_law_names_here","_law_pairs","_law_numbers"]) ["_law_one","_law_other","_law_names_here"] 2 [0] rfl rfl rfl (by room) rfl (by room) (i:=2) uk.nd rfl rfl
  (qdM (K:=K) rfl (pv 1)) (fun _ _ _ _=>(qbE (n:=2) rfl (jl (qo (i:=0) (show(["_law_one","_law_other","_law_names_here"]:LS).Nodup by room) rfl (yJ rfl)) (jl (qo (i:=1) (show(["_law_one","_law_other","_law_names_here"]:LS).Nodup by room) rfl (yJ rfl)) qaG)))) qeH
  (fun _ _ _ _=>jU)
  (fun _ _ _ _=>(jO (qa (qaW (K:=K) rfl yD Yz YK (qag (K:=K) rfl) (pv 2) (qa (pv 0) qd)) (qa (qaW (K:=K) rfl yD Yz YK (qag (K:=K) rfl) (pv 2) (qa (pv 1) qd)) qd)))))
 (qe (qm (qb1 (jD (j6 (K:=K) rfl hu) (pv 2) (qr (k_sortR) rfl T.b_sorted boot_sorted (qa (pv 2) qd)) (qA _)) (qb0 (jD (j6 (K:=K) rfl hu) (q9 (sc:=qh zi) (XN:=["_law_names_here","_law_pairs","_law_numbers"]) ["_law_one","_law_other"] 2 [] rfl rfl rfl (by room) rfl (by room)
  (qdM (K:=K) rfl (pv 2)) (fun _ _ _ _=>(qbE (n:=2) rfl (jl (qo (i:=0) (show(["_law_one","_law_other"]:LS).Nodup by room) rfl (yJ rfl)) (jl (qo (i:=1) (show(["_law_one","_law_other"]:LS).Nodup by room) rfl (yJ rfl)) qaG)))) qeH
  (fun _ _ _ _=>(qV (qj op_ge (pv 0) (pv 1) (qA _))))
  (fun _ _ _ _=>(pv 0))) (qW qd) (qA _))))))),?_⟩
  apply qfl ?_;apply⟨l,_,rfl,.of p.1,qH (xs:=us.map V.ref) (fun i ys G=>L2.Same H G/\∃ ts:LX,ys=ts.map V.ref/\All2 (fun t q=>G t=some (iT q)) ts ((rs.take i).map (ixP ss))) ⟨L2.Same.refl _,[],rfl,.nil⟩ (fun i ys G _ m=>.of (m.1 _ _ p.1)) (fun i y ys G J m=>?_) fun ys G m=>?_⟩
  .obtain⟨L,ts,rfl,A⟩:=m;rw[yd] at J;obtain⟨u,I,rfl⟩:=yn.mp J;have ac:=(yc.mp I).1;obtain⟨⟨c,d⟩,x⟩:∃ q,rs[i]?=some q:=⟨_,yb (by lk)⟩;have eu:=L _ _ (p.2.at_ i u _ I x);obtain⟨mc,md⟩:=ad _ (ye x);dsimp only at eu mc md;have r:=L _ _ hn;show⟨u,_,rfl,.of eu,rfl,_,_,rfl,_,_,rfl,rfl,?_⟩;apply zZ ?_;apply⟨.inl ⟨rfl,_,.of r⟩,?_⟩;apply⟨n,ss,c,rfl,rfl,.of r,mc,?_⟩;apply⟨.inl ⟨rfl,_,.of r⟩,?_⟩;apply⟨n,ss,d,rfl,rfl,.of r,md,?_⟩;apply⟨by show 2<=sizeLine;decide,fun t B=>?_⟩;have C:=qG (Sr G) (o:=.tup [.int (ss.idxOf c:Nat),.int (ss.idxOf d:Nat)]) B;have v:=A.len;rw[ya,yR] at v;show⟨by rw[ya];show qi (by lk),L.trans C,ts++[t],by rw[yu];rfl,?_⟩;rw[yM,x,yu];show(A.mono fun _ _ z=>C _ _ z).snoc qb
  .obtain⟨L,ts,rfl,A⟩:=m;rw[show(us.map V.ref).length=rs.length by rw[ya,ag],yS] at A;have v:=A.len;rw[ya] at v;show⟨by rw[ya];show yW (qi (by lk)),fun g hg=>?_⟩;have C:=qG (Sr G) (o:=.lst (ts.map V.ref)) hg;have R:upd G g (.lst (ts.map V.ref)) g=some (.lst (ts.map V.ref)):=qb;have s:=A.mono fun _ _ z=>C _ _ z;generalize upd G g (.lst (ts.map V.ref))=M at C R s;have ah:=L.trans C;ext;have S:IPL M g ts (rs.map (ixP ss)):=⟨R,s⟩;show⟨g,ts,(rs.map (ixP ss)).map fun q=>((q.1:Int),(q.2:Int)),rfl,R,by lk,by rw[ya,ya];lk,fun j t q B hq=>?_,fun j a b ha hb=>?_,fun l2 ae=>?_⟩
   .rw [yd] at hq;obtain⟨q',af,rfl⟩:=yn.mp hq;show s.at_ j t q' B af
   .rw [yd,yd] at ha hb;obtain⟨a',U,rfl⟩:=yn.mp ha;obtain⟨b',X,rfl⟩:=yn.mp hb;obtain⟨a2,W,rfl⟩:=yn.mp U;obtain⟨b2,Y,rfl⟩:=yn.mp X;have:=hR.2 j a2 b2 W Y;show((ss.idxOf a2.1:Nat):Int)<((ss.idxOf b2.1:Nat):Int);lk
   have s6:=qG (Sr M) (o:=.lst (ts.map V.ref)) ae;have e6:upd M l2 (.lst (ts.map V.ref)) l2=some (.lst (ts.map V.ref)):=qb;generalize upd M l2 (.lst (ts.map V.ref))=G2 at s6 e6;have e:=S.same s6;show .inl (.inl (.inr (.inl ⟨g,l2,true,2,rfl,rfl,by decide,eqT_ipl e e6,?_⟩)));apply zZ ?_;apply qfl ?_;apply⟨g,_,rfl,.of e.1,qH (xs:=ts.map V.ref) (fun i ys G=>G=G2/\ys=[]) ⟨rfl,rfl⟩ (fun i ys G _ m=>by rw[m.1];show .of e.1) (fun i y ys G J m=>?_) fun ys G m=>?_⟩
   .obtain⟨rfl,rfl⟩:=m;rw[yd] at J;obtain⟨t,B,rfl⟩:=yn.mp J;have ac:=(yc.mp B).1;obtain⟨O,D⟩:∃ q,rs[i]?=some q:=⟨_,yb (by lk)⟩;have et:=e.2.at_ i t (ixP ss O) B (by rw[yd,D];rfl);have ai:=hR.1 O (ye D);show⟨t,_,rfl,.of et,rfl,_,_,rfl,_,_,rfl,rfl,?_⟩;apply qL (fun h=>absurd (yk h) (by show ¬ ((ss.idxOf O.2:Nat):Int)<=((ss.idxOf O.1:Nat):Int);lk)) fun _=>⟨rfl,rfl⟩
   .obtain⟨rfl,rfl⟩:=m;show⟨by show 0<=sizeLine;decide,fun N Z=>?_⟩;have s7:=qG (Sr G) (o:=.lst []) Z;have e7:upd G N (.lst []) N=some (.lst []):=qb;generalize upd G N (.lst [])=G3 at s7 e7;apply⟨by show 0<=sizeLine;decide,fun c2 aa=>?_⟩;have s8:=qG (Sr G3) (o:=.lst []) aa;show .inl (.inl (.inr (.inl ⟨N,c2,true,1,rfl,rfl,by decide,eqT_nil (s8 _ _ e7) qb,q _ (ah.trans (s6.trans (s7.trans s8)))⟩)))
theorem fr_lo(e:∀ a b,tA tps a b->a≠b)(d:ss.Nodup){k:Nat}(c:ss[k]?=some s):k∈frI tps ss ss.length↔s∈loQ tps ss:=by
 unfold frI loQ;rw[yp,yp,Ym,yI,yI];unfold tbQ;rw[qdx d c,qd9,qfZ e (qbU ss s) (yh _) (d.filter _)];show⟨fun z=>⟨ye c,z.2⟩,fun z=>⟨(yc.mp c).1,z.2⟩⟩
section
variable{cw x:Addr}{H:Hp}{ss:LS}{ns bs:LN}
theorem qeb(W:Wt cw H x ss ns tps)(g:PGo ss tps qs)(F:Fn (tA tps) (pt qs) S ss):s∈loQ tps ss↔s∈ss/\S.rows s≠none:=by
 rw[<- qgA W.ir W.wok.nd g F,yp,isS]
theorem qfK(W:Wt cw H x ss ns tps):s∈heQ tps ss ns↔s∈ss/\s∉loQ tps ss/\∃ o∈loQ tps ss,tA tps s o:=by
 unfold heQ wdF;rw[yp,yI];show and_congr_right fun c=>?_;by_cases h:s∈loQ tps ss
 .rw [yG h];show⟨(fun z=>by cases z),fun z=>absurd h z.1⟩
 .rw [yA h]
  have e:(inB ss 0 (ns.getD (ss.idxOf s) 0)).any (fun o=>decide (o∈loQ tps ss))=true↔∃ o∈loQ tps ss,tA tps s o:=by
   have b:ss[ss.idxOf s]?=some s:=by rw[yb (Yc c),Yt]
   rw[YJ];show⟨fun⟨o,h1,a⟩=>⟨o,yk a,(W.bes _ s o b).mp h1⟩,fun⟨o,h1,a⟩=>⟨o,(W.bes _ s o b).mpr a,yB h1⟩⟩
  split
  .rename_i z;show⟨fun _=>⟨h,e.mp z⟩,fun _=>rfl⟩
  .rename_i z;show⟨(fun y=>by cases y),fun y=>absurd (e.mpr y.2) z⟩
theorem qfL(W:Wt cw H x ss ns tps)(g:PGo ss tps qs)(F:Fn (tA tps) (pt qs) S ss)(s:Str):s∈heQ tps ss ns↔s∈qds S ss:=by
 rw[qfK W,mem_bar];constructor
 .rintro ⟨h1,b,o,c,e⟩;have d:=((qeb W g F).mp c).2;have f:S.rows s=none:=Yj fun z=>b ((qeb W g F).mpr ⟨h1,z⟩);rcases F.cl o s d e.symm with z | z
  .show absurd f (F.fi.evE d z)
  .show⟨h1,z⟩
 .rintro ⟨h1,b,c⟩;obtain⟨z,hz⟩:=some_of b;obtain⟨h,⟨r,i⟩,_⟩:=F.fi.odd s z hz;have a:S.rows z≠none:=by rw[i];show fun y=>by cases y
  show⟨h1,fun y=>((qeb W g F).mp y).2 c,z,(qeb W g F).mpr ⟨F.es z a,a⟩,h.symm⟩
variable{TI:List (Nat×Nat)}
theorem qfb(W:Wt cw H x ss ns (TI.map (nmP ss)))(o:TJ ss.length TI)(n:BtJ ss.length TI bs):(brI (TI.map (nmP ss)) ss bs).map (tn ss)=heQ (TI.map (nmP ss)) ss ns:=by
 have l:=W.wok.nd
 have p:ss=(List.range ss.length).map (tn ss):=by
  apply List.ext_getElem?;intro k;rw[yd];by_cases h:k<ss.length
  .rw [List.getElem?_range h,zX h];rfl
  .rw [List.getElem?_eq_none (by lk),List.getElem?_eq_none (by rw[YW];lk)];rfl
 have e:heQ (TI.map (nmP ss)) ss ns=((List.range ss.length).map (tn ss)).filter fun s=>decide (wdF ss ns (loQ (TI.map (nmP ss)) ss) s="held"):=by unfold heQ;rw[<- p]
 rw[e,XC];unfold brI
 congr 1
 show YB fun k i=>?_;have a:=Ym.mp i;have d:=zX (ss:=ss) a;rw[Yr]
 have r:((fun s=>decide (wdF ss ns (loQ (TI.map (nmP ss)) ss) s="held")) ∘ tn ss) k=true↔tn ss k∈heQ (TI.map (nmP ss)) ss ns:=by
  unfold heQ;rw[yp];show⟨fun z=>⟨qbV a,z⟩,fun z=>z.2⟩
 rw[r,qfK W];have c:=fun{k:Nat} {s:Str} (i:ss[k]?=some s)=>fr_lo W.ir l i;unfold nrI;rw[yX,xq,Xe,xq,List.isEmpty_eq_false_iff_exists_mem];constructor
 .rintro ⟨h1,j,g⟩;obtain⟨m1,m2⟩:=yp.mp g;have f:j<ss.length:=Ym.mp (yp.mp m1).1;have b:=zX (ss:=ss) f;show⟨qbV a,fun z=>h1 ((c d).mpr z),_,(c b).mp m1,(qfq l o d b).mpr ((n.2.2 k j).mp m2)⟩
 .rintro ⟨_,h1,u,m,q⟩;obtain⟨j,b⟩:=yf (yp.mp m).1;show⟨fun z=>h1 ((c d).mp z),j,yp.mpr ⟨(c b).mpr m,(n.2.2 k j).mpr ((qfq l o d b).mp q)⟩⟩
theorem qcb(a:NOk ss)(c:TJ ss.length TI)(b:BtJ ss.length TI bs):BarJ ss TI bs (brI (TI.map (nmP ss)) ss bs):=⟨a,c,b,List.nodup_range.filter _,fun k d=>Ym.mp (yp.mp d).1⟩
theorem qfc(W:Wt cw H x ss ns (TI.map (nmP ss)))(c:NOk ss)(b:TJ ss.length TI)(a:BtJ ss.length TI bs){rs:LP}(g:PGo ss (TI.map (nmP ss)) rs)(d:MxF ss (TI.map (nmP ss)) rs):(ss.length:Int)-2*(rs.length:Int)=(odJ bs (brI (TI.map (nmP ss)) ss bs) ss.length:Int)-((brI (TI.map (nmP ss)) ss bs).length:Int):=by
 have B:=qcb c b a;have n:=weakJ B g;obtain⟨S,F⟩:=d;have e:=strong F (fun s=>by rw[qfb W b a];show qfL W g F s) (qfJ B);rw[qgz] at e
 have hl:(brI (TI.map (nmP ss)) ss bs).length<=(qds S ss).length:=by
  have:=qcw (l:=(brI (TI.map (nmP ss)) ss bs).map (tn ss)) (m:=qds S ss) (by rw[qfb W b a];show c.nd.filter _) fun s h=>by rw[qfb W b a] at h;show(qfL W g F s).mp h
  rwa[ya] at this
 have i:=qa5 (f:=pt rs) (ss:=ss);have j:=g.cnt c.nd;lk
end
theorem K9:FnScope ["_law_names_here","_law_bits_here","_law_table_here","_law_paper","_law_pairs","_law_bar_here"] ["_law_names_here","_law_bits_here","_law_table_here","_law_paper"] (qh qam):=fS
theorem atI_lastV{c:V}(h:xs≠[])(e:xs[xs.length-1]?=some c):atI xs (-1)=some c:=by
 have:0<xs.length:=List.length_pos_iff.mpr h;unfold atI
 have a:ixN xs.length (-1)=some (xs.length-1):=by
  unfold ixN;rw[yA (by decide),yG (by lk)]
  congr 1
  lk
 rw[a];show e
theorem qho{i j:Int}{Q:VK}(q:Q (.bl (!decide (i=j))) H):qf6 K true (.int i) (.int j) H Q:=.inl ⟨rfl,rfl,by
 have:=jy i j;rw[yA (by decide)] at this;rw[yG rfl,this];show q⟩
structure DwQ(H:Hp)(n bb lt:Addr)(ss:LS)(TI:List (Nat×Nat))(bs:LN):Prop where
 n:H n=some (.lst (ss.map V.str))
 nd:ss.Nodup
 few:ss.length<=12
 tj:TJ ss.length TI
 b:H bb=some (.lst (zq bs))
 bt:BtJ ss.length TI bs
 t:H lt=some (.lst (zq (tbL (TI.map (nmP ss)) ss (2 ^ ss.length))))
theorem DwQ.same{n a lt:Addr}{TI:List (Nat×Nat)}{bs:LN}(h:DwQ H n a lt ss TI bs)(s:L2.Same H H'):DwQ H' n a lt ss TI bs:=⟨s _ _ h.n,h.nd,h.few,h.tj,s _ _ h.b,h.bt,s _ _ h.t⟩
theorem vAsgT{a:TE}{gs:TGs}{D:Ends}(h:a σ H fun x H1=>qgB K n gs x σ H1 D.nx):qf3 a (qgB K n gs) D σ H:=h
theorem qec{a b:Addr}{ks:LS}(d:H a=some (.lst (ks.map V.str)))(f:H b=some (.lst (ks.map V.str))):EqT K H (m+1) a b true:=by
 have z:=EqT.lst (K:=K) (H:=H) (n:=m) (e:=fun _=>true) (SqL.of d) (SqL.of f) rfl fun j x y h1 c=>by
  rw[h1] at c;cases c;obtain⟨k,_,rfl⟩:=yE.mp (ye h1);have e:eqV (V.str k) (V.str k)=true:=by simp[eqV]
  have:=EqD.flat (K:=K) (H:=H) (n:=m) (x:=V.str k) (y:=V.str k) rfl rfl
  rwa[e] at this
 have e:∀ m:Nat,((List.range m).all fun _=>true)=true:=fun m=>YI.mpr fun _ _=>rfl;rw[e] at z;show z
structure PpQ(H:Hp)(t l a:Addr)(ss:LS)(tps:LP)(bs:LN)(us:LX)(rs:LP):Prop where
 t:H t=some (.tup [.ref l,.ref a])
 l:PL H l us rs
 g:PGo ss tps rs
 a:H a=some (.lst (((brI tps ss bs).map (tn ss)).map V.str))
theorem PpQ.same{t l a:Addr}{bs:LN}{rs:LP}(h:PpQ H t l a ss tps bs us rs)(s:L2.Same H H'):PpQ H' t l a ss tps bs us rs:=⟨s _ _ h.t,h.l.same s,h.g,s _ _ h.a⟩
structure GtQ(ss:LS)(tps:LP)(bs:LN)(rs:LP):Prop where
 up:RsQ ss rs
 n:rs.length=mo tps ss.length ss
 k:(ss.length:Int)-2*(rs.length:Int)=(odJ bs (brI tps ss bs) ss.length:Int)-((brI tps ss bs).length:Int)
inductive spRtP(vs:List V)(H:Hp)(Q:VK)(E:XK):Prop|mk (n bb lt t l a:Addr) (ss:LS) (TI:List (Nat×Nat)) (bs:LN) (us:LX) (rs:LP) (_:vs=[.ref n,.ref bb,.ref lt,.ref t]) (_:DwQ H n bb lt ss TI bs) (_:NOk ss) (_:PpQ H t l a ss (TI.map (nmP ss)) bs us rs) (_:GtQ ss (TI.map (nmP ss)) bs rs) (_:∀ H',L2.Same H H'->Q (.bl true) H')
theorem ok_rtP(F:Fun K "_law_right" "_law_right" qam f fd)(T:Txt K mg cc cw)(uP:DefOk P w K mg base CX0 1 "_law_are_pairs" ["_law_names_here","_law_bits_here","_law_thing"] spArQ)(Ud:DefOk P w K mg base CX0 1 "_law_rising" ["_law_names_here","_law_pairs"] spRsQ)(uF:DefOk P w K mg base CX0 1 "_law_bar" ["_law_many_here","_law_bits_here","_law_table_here"] spBrQ)(Uv:DefOk P w K mg base CX0 2 "_law_lack" ["_law_names_here","_law_bits_here","_law_bar_here"] spLkJ):FnOk P w K mg base CX0 3 f fd ["_law_names_here","_law_bits_here","_law_table_here","_law_paper"] spRtP:=by
 show F.ok K9 fun _ _ _ _ H vs Q E L h=>?_
 .obtain⟨n,O,lt,t,l,a,ss,TI,bs,us,rs,rfl,D,hO,c,R,q⟩:=h;have r:=jV L;have X:=D.few;have p0:0<2 ^ ss.length:=Xk _
  have u:atI (zq (tbL (TI.map (nmP ss)) ss (2 ^ ss.length))) (-1)=some (.int (mo (TI.map (nmP ss)) ss.length ss:Nat)):=by
   have tl:(zq (tbL (TI.map (nmP ss)) ss (2 ^ ss.length))).length=2 ^ ss.length:=by unfold zq;rw[ya,qbW]
   have:=jm (ns:=tbL (TI.map (nmP ss)) ss (2 ^ ss.length)) (i:=2 ^ ss.length-1) (by rw[qbW];lk);rw[qe7 (by lk)] at this;unfold tbQ at this;rw[qd9] at this;show atI_lastV (fun z=>by rw[z] at tl;simp at tl;lk) (by rw[tl];show this)
  have B:=qcb hO D.tj D.bt;have U:=B.few;show⟨_,(qc (qP (PW.pt (zK (qZ (qU (qr (qaX (K:=K) rfl) rfl T.b_isinstance YO (qa (pv 3) (qa (jz (v:=.ty "tuple") rfl T.b_tuple XY rfl) qd))))) (zK (qj (qaJ (K:=K) rfl r) (qr (jY (K:=K) rfl) rfl T.b_len YQ (qa (pv 3) qd)) qg (qA _)) (zE (qZ (qU (qr (qaX (K:=K) rfl) rfl T.b_isinstance YO (qa (qu (qv (K:=K) rfl r) (pv 3) qg (fun _ _=>rfl)) (qa (jz (v:=.ty "list") rfl T.b_list xp rfl) qd))))))))) (qe (qm js)) qy)
 (qc (jC (pv 3) (qbE rfl (jl (qo (i:=4) K9.nd rfl (yJ rfl)) (jl (qo (i:=5) K9.nd rfl (yJ rfl)) qaG))))
 (qc (qP (PW.pt (zK (qZ (qU (qp uP (hmR L) qB (qa (pv 0) (qa (pv 1) (qa (pv 4) qd)))))) (zK (qZ (qU (qp Ud (hmR L) qB (qa (pv 0) (qa (pv 4) qd))))) (zE (qj (qaJ (K:=K) rfl r) (qr (jY (K:=K) rfl) rfl T.b_len YQ (qa (pv 4) qd)) (qu (qv (K:=K) rfl r) (pv 2) (qaO qaP qg) (fun _ _=>rfl)) (qA _)))))) (qe (qm js)) qy)
 (qc (qP (qj (qaJ (K:=K) rfl r) (pv 5) (q9 (sc:=qh qam) (XN:=["_law_names_here","_law_bits_here","_law_table_here","_law_paper","_law_pairs","_law_bar_here"]) ["_law_k","_law_names_here"] 1 [0] rfl rfl rfl (by room) rfl (by room)
  (qS (K:=K) rfl (qp uF (hmR L) qB (qa (qr (jY (K:=K) rfl) rfl T.b_len YQ (qa (pv 0) qd)) (qa (pv 1) (qa (pv 2) qd))))) (fun _ _ _ _=>(qo (i:=0) (show(["_law_k","_law_names_here"]:LS).Nodup by room) rfl (yJ rfl))) qR
  (fun _ _ _ _=>jU)
  (fun _ _ _ _=>(qu (qv (K:=K) rfl r) (pv 1) (pv 0) (fun _ _=>rfl)))) (qA _)) (qe (qm js)) qy)
 (qe (qm (jD (j6 (K:=K) rfl r) (qp Uv (hmR L) qB (qa (pv 0) (qa (pv 1) (qa (pv 5) qd)))) (qw qbG (qr (jY (K:=K) rfl) rfl T.b_len YQ (qa (pv 0) qd)) (qw qce qg (qr (jY (K:=K) rfl) rfl T.b_len YQ (qa (pv 4) qd)))) (qA _)))))))),?_⟩
  apply qch (.inl (.tup c.t)) rfl (zP K "tuple" (by simp) "tuple" (by simp)) ?_;apply yq ?_;apply qfk c.t ?_;apply qho ?_;apply yq ?_;apply .inl (zO c.t (v:=.ref a) (qt (j:=1) rfl) ?_);apply qch (.inl (.lst c.a)) rfl (zP K "list" (by simp) "list" (by simp)) ?_;apply yq ?_;apply vAsgT ?_;apply⟨t,_,rfl,.of c.t,rfl,_,_,rfl,_,_,rfl,rfl,?_⟩;apply⟨n,O,l,ss,TI,bs,us,rs,rfl,D.n,D.nd,D.tj,D.b,D.bt,c.l,c.g,fun H1 Y=>?_⟩;apply yq ?_;apply⟨n,l,ss,us,rs,rfl,Y _ _ D.n,c.l.same Y,c.g.few,fun q hq=>⟨(c.g.inn q hq).2.1,(c.g.inn q hq).2.2.1⟩,R.up,fun H2 s2=>?_⟩;have s:=Y.trans s2;apply yq ?_;ext;have d:=c.same s;have x:=D.same s;show qac d.l.1 ?_;rw[ya,d.l.2.len];apply⟨1,rfl,?_⟩;show .inl (zN x.t u ?_);show qho ?_;rw[yB (by rw[R.n])];apply yq ?_;apply qac x.n ?_;rw[ya];apply⟨O,lt,ss,TI.map (nmP ss),bs,rfl,X,D.bt.1,x.b,x.t,fun lr H3 s3 _ p=>?_⟩;obtain⟨gs,W⟩:∃ gs,gs=brI (TI.map (nmP ss)) ss bs:=⟨_,rfl⟩;have C:=d.a;have A:=R.k;rw[<- W] at p B U C A;have D3:=x.same s3;show .inl ⟨⟨_,.of p⟩,qH (xs:=gs.map iV) (fun i ys J=>J=H3/\ys=((gs.take i).map (tn ss)).map V.str) ⟨rfl,rfl⟩ (fun i ys J _ c=>by rw[c.1];show .of p) (fun i y ys J hy c=>?_) fun ys J c=>?_⟩
  .obtain⟨rfl,rfl⟩:=c;rw[yd] at hy;obtain⟨k,A,rfl⟩:=yn.mp hy;apply zZ ?_;apply qej D3.n (B.lt k (ye A)) ?_;show⟨by rw[ya,ya,yR];show qi (by lk),rfl,by rw[yM,A,yu,yu];rfl⟩
  .obtain⟨rfl,rfl⟩:=c;rw[show(gs.map iV).length=gs.length from ya _,yS];show⟨by rw[ya,ya];show yW (qi (by lk)),fun M S=>?_⟩;have s4:=qG (Sr J) (o:=.lst ((gs.map (tn ss)).map V.str)) S;have ea:upd J M (.lst ((gs.map (tn ss)).map V.str)) M=some (.lst ((gs.map (tn ss)).map V.str)):=qb;generalize upd J M (.lst ((gs.map (tn ss)).map V.str))=G at s4 ea;have e:=s3.trans s4;have m:=e _ _ C;have N:=x.same e;show .inr (.inl ⟨a,M,true,1,rfl,rfl,by decide,qec m ea,?_⟩);apply yq ?_;apply⟨n,O,a,ss,TI,bs,gs,rfl,N.n,N.b,B,m,fun G2 Z=>?_⟩;have I:=(d.l.same e).same Z;apply qac (N.same Z).n ?_;rw[ya];apply qac I.1 ?_;rw[ya,I.2.len];show qcf (.inl ⟨by decide,by decide⟩) ?_;apply qbl ?_;rw[yB A.symm];show q G2 (s.trans (e.trans Z))
theorem Kz:FnScope ["_law_script","_law_cell_here","_law_purse_here","_law_many_here","_law_names_here","_law_ties_here","_law_bits_here","_law_table_here","_law_web","_law_bar_here","_law_paper","_law_kept"] ["_law_script"] (qh qc8):=fS
inductive spLaw(K:W.Frag)(vs:List V)(H:Hp)(Q:VK)(E:XK):Prop|mk (a:Addr) (ns:LY) (_:vs=[.ref a]) (_:SqL K H a (ns.map V.int)) (_:ns.length<=63) (_:∀ H',Q (.bl true) H')
theorem Pu.same(h:Pu H p)(s:L2.Same H H'):Pu H' p:=by
 obtain⟨a,b,c,e,r⟩:=h;show⟨a,b,c,s _ _ e,r⟩
structure LQ(cw x n t bb lt:Addr)(ss:LS)(ns bs:LN)(ts:LX)(TI:List (Nat×Nat))(J:Hp):Prop where
 wt:Wt cw J x ss ns (TI.map (nmP ss))
 d:DwQ J n bb lt ss TI bs
 o:NOk ss
 t:IPL J t ts TI
section
variable{cw x n t bb lt:Addr}{ss:LS}{ns bs:LN}{ts:LX}{TI:List (Nat×Nat)}{J J':Hp}
theorem LQ.same(h:LQ cw x n t bb lt ss ns bs ts TI J)(s:L2.Same J J'):LQ cw x n t bb lt ss ns bs ts TI J':=⟨h.wt.same s,h.d.same s,h.o,h.t.same s⟩
theorem LQ.gt(h:LQ cw x n t bb lt ss ns bs ts TI J){rs:LP}(a:PGo ss (TI.map (nmP ss)) rs)(b:MxF ss (TI.map (nmP ss)) rs)(c:GrR ss ns rs):GtQ ss (TI.map (nmP ss)) bs rs:=⟨rise_of h.o.nd (List.Sublist.refl _) (c.fil ⟨_,rfl⟩) a.nd fun q e=>(a.inn q e).2.1,qf0 h.wt.ir h.o.nd a b,qfc h.wt h.o h.d.tj h.d.bt a b⟩
theorem LQ.bar(h:LQ cw x n t bb lt ss ns bs ts TI J){a:Addr}(b:J a=some (.lst (((brI (TI.map (nmP ss)) ss bs).map (tn ss)).map V.str))):WBar cw J x a ss ns TI bs (brI (TI.map (nmP ss)) ss bs):=⟨h.wt,qcb h.o h.d.tj h.d.bt,b⟩
end
theorem qfd{a b:Addr}(h:EqT K H n a b true):EqD K H n (.ref a) (.ref b) true:=by
 by_cases e:a=b
 .subst e;show .self
 .show .deep h e
theorem eqT_tup2{t u a b c d:Addr}(i:H t=some (.tup [.ref a,.ref b]))(l:H u=some (.tup [.ref c,.ref d]))(h1:EqT K H 2 a c true)(h:EqT K H 2 b d true):EqT K H 3 t u true:=by
 have z:=EqT.tup (K:=K) (H:=H) (n:=2) (e:=fun _=>true) (SqT.of i) (SqT.of l) fun j x y f g=>by
  match j with
  | 0=>cases f;cases g;show qfd h1
  | 1=>cases f;cases g;show qfd h
  | j+2=>simp at f
 show z
inductive Sg(a:Addr)(σ:L2.St):Prop|mk (y1 y2 y3 y4 y5 y6 y7 y8 y9 y10 y11:Option V) (_:σ=[some (.ref a),y1,y2,y3,y4,y5,y6,y7,y8,y9,y10,y11])
inductive T109(cw a:Addr)(D:Ends)(σ:L2.St)(J:Hp):Prop|mk (H1:Hp) (x n t bb lt:Addr) (ss:LS) (ns bs:LN) (ts:LX) (TI:List (Nat×Nat)) (y1 y2 y9 y10 y11:Option V) (_:(∀ σ' J',L2.Same H1 J'->Sg a σ'->D.nx σ' J')) (_:σ=[some (.ref a),y1,y2,some (.int (ss.length:Int)),some (.ref n),some (.ref t),some (.ref bb),some (.ref lt),some (.ref x),y9,y10,y11]) (_:L2.Same H1 J) (_:LQ cw x n t bb lt ss ns bs ts TI J)
inductive T113(cw a:Addr)(D:Ends)(σ:L2.St)(J:Hp):Prop|mk (H1:Hp) (x n t bb lt tp l a9 kt k1 k2:Addr) (ss:LS) (ns bs:LN) (ts us:LX) (TI:List (Nat×Nat)) (rs:LP) (y1 y2 y9:Option V) (_:(∀ σ' J',L2.Same H1 J'->Sg a σ'->D.nx σ' J')) (_:σ=[some (.ref a),y1,y2,some (.int (ss.length:Int)),some (.ref n),some (.ref t),some (.ref bb),some (.ref lt),some (.ref x),y9,some (.ref tp),some (.ref kt)]) (_:L2.Same H1 J) (_:H1 l=none) (_:H1 a9=none) (_:(∃ H2,L2.Same H1 H2/\L2.Same H2 J/\H2 l=none/\H2 a9=none/\LQ cw x n t bb lt ss ns bs ts TI H2)) (_:l≠a9) (_:J tp=some (.tup [.ref l,.ref a9])) (_:(∃ xs,J l=some (.lst xs))) (_:J a9=some (.lst (((brI (TI.map (nmP ss)) ss bs).map (tn ss)).map V.str))) (_:PpQ J kt k1 k2 ss (TI.map (nmP ss)) bs us rs) (_:k1≠l) (_:k1≠a9) (_:k2≠l) (_:k2≠a9) (_:GtQ ss (TI.map (nmP ss)) bs rs) (_:GrR ss ns rs)
theorem ok_law42(F:Fun K "law" "law" qc8 f fd)(T:Txt K mg cc cw)(Uw:DefOk P w K mg base CX0 1 "_law_cell" ["_law_script","_law_k"] (spCe K))(Ul:DefOk P w K mg base CX0 1 "_law_purse" ["_law_cell_here"] spPu)(Kj:DefOk P w K mg base CX0 1 "_law_take" ["_law_purse_here","_law_many_here"] spTkP)
  (Ux:DefOk P w K mg base CX0 2 "_law_many" ["_law_purse_here","_law_most"] spMyP) (Um:DefOk P w K mg base CX0 2 "_law_names" ["_law_purse_here","_law_many_here"] spNmJ) (Uy:DefOk P w K mg base CX0 2 "_law_ties" ["_law_purse_here","_law_many_here"] spTsJ)
  (uU:DefOk P w K mg base CX0 7 "_law_made" ["_law_names_here","_law_ties_here"] (spMdJ cw)) (Uz:DefOk P w K mg base CX0 1 "_law_bits" ["_law_many_here","_law_ties_here"] spBtJ) (Uo:DefOk P w K mg base CX0 1 "_law_table" ["_law_many_here","_law_bits_here"] spTbQ) (uF:DefOk P w K mg base CX0 1 "_law_bar" ["_law_many_here","_law_bits_here","_law_table_here"] spBrQ)
  (uV:DefOk P w K mg base CX0 15 "is_bar" ["web","thing"] (spIb cw)) (uB:DefOk P w K mg base CX0 19 "paper_of" ["web"] (spPa cw)) (Up:DefOk P w K mg base CX0 3 "_law_right" ["_law_names_here","_law_bits_here","_law_table_here","_law_paper"] spRtP) (uf:DefOk P w K mg base CX0 12 "shows" ["web","thing"] (spSh cw)):FnOk P w K mg base CX0 20 f fd ["_law_script"] (spLaw K):=by
 show F.ok Kz fun _ _ _ _ H vs Q E L h=>?_
 .obtain⟨a,nz,rfl,hS,du,q⟩:=h;have hu:=jV L;obtain⟨TC109,ar⟩:∃ t:TS,t=T109 cw a:=⟨_,rfl⟩;obtain⟨TC113,al⟩:∃ t:TS,t=T113 cw a:=⟨_,rfl⟩;show⟨_,(qc (jj yY rfl (qS (K:=K) rfl (qw (j8 (K:=K) rfl) (jE (qeF (K:=K) rfl) (pv 0) zm (jQ qg)) (qW (qa (qp Uw (hmR L) qB (qa (pv 0) (qa qg qd))) qd)))) (qo (i:=1) Kz.nd rfl (yJ rfl))
 (qc (qk (i:=2) Kz.nd rfl (yJ rfl) (qp Ul (hmR L) qB (qa (pv 1) qd)))
 (qc (qk (i:=3) Kz.nd rfl (yJ rfl) (qp Ux (hmR L) qB (qa (pv 2) (qa qg qd))))
 (qc (qk (i:=4) Kz.nd rfl (Xm rfl) (qp Um (hmR L) qB (qa (pv 2) (qa (pv 3) qd))))
 (qc (qk (i:=5) Kz.nd rfl (yJ rfl) (qp Uy (hmR L) qB (qa (pv 2) (qa (pv 3) qd))))
 (qc (qk (i:=6) Kz.nd rfl (yJ rfl) (qp Uz (hmR L) qB (qa (pv 3) (qa (pv 5) qd))))
 (qc (qk (i:=7) Kz.nd rfl (yJ rfl) (qp Uo (hmR L) qB (qa (pv 3) (qa (pv 6) qd))))
 (qc (qk (i:=8) Kz.nd rfl (yJ rfl) (qp uU (hmR L) qB (qa (pv 4) (qa (pv 5) qd))))
 (qc (qaI (sc:=qh qc8) (XN:=["_law_script","_law_cell_here","_law_purse_here","_law_many_here","_law_names_here","_law_ties_here","_law_bits_here","_law_table_here","_law_web","_law_bar_here","_law_paper","_law_kept"]) ["_law_k","_law_names_here"] 1 [4] rfl rfl rfl (by room) rfl (by room) (i:=9) Kz.nd rfl rfl
  (qS (K:=K) rfl (qp uF (hmR L) qB (qa (pv 3) (qa (pv 6) (qa (pv 7) qd))))) (fun _ _ _ _=>(qo (i:=0) (show(["_law_k","_law_names_here"]:LS).Nodup by room) rfl (yJ rfl))) qR
  (fun _ _ _ _=>jU)
  (fun _ _ _ _=>(qu (qv (K:=K) rfl hu) (pv 1) (pv 0) (fun _ _=>rfl))))
 (qc (qP (PW.pt (qbD (qj (j6 (K:=K) rfl hu) (qp Kj (hmR L) qB (qa (pv 2) (qa qg qd))) qg (qA _)) (qbC (qj qbm (qp uV (hmR L) qB (qa (pv 8) (qa (zl (qaK (K:=K) rfl rfl) rfl T.b_list xp (qa (pv 9) qd)) qd))) js (qA _))))) (qe (qm js)) qy)
 (qcn TC109 (qc (qk (i:=10) Kz.nd rfl (yJ rfl) (qp uB (hmR L) qB (qa (pv 8) qd)))
 (qc (qP (qZ (qU (qp Up (hmR L) qB (qa (pv 4) (qa (pv 6) (qa (pv 7) (qa (pv 10) qd))))))) (qe (qm js)) qy)
 (qc (qk (i:=11) Kz.nd rfl (yJ rfl) (jO (qa (zl (qaK (K:=K) rfl rfl) rfl T.b_list xp (qa (qu (qv (K:=K) rfl hu) (pv 10) qg (fun _ _=>rfl)) qd)) (qa (zl (qaK (K:=K) rfl rfl) rfl T.b_list xp (qa (qu (qv (K:=K) rfl hu) (pv 10) qg (fun _ _=>rfl)) qd)) qd))))
 (qc (qP (PW.pt (zK (qj qbm (qp uf (hmR L) qB (qa (qp uU (hmR L) qB (qa (pv 4) (qa (pv 5) qd))) (qa (pv 10) qd))) js (qA _)) (zE (qj qbm (qp uV (hmR L) qB (qa (pv 8) (qa (qu (qv (K:=K) rfl hu) (pv 10) qg (fun _ _=>rfl)) qd))) js (qA _))))) (qe (qm js)) qy)
 (qcn TC113 (qc (qN (qgm (K:=K) rfl yD PySem.F.slot_list_clear PySem.F.type_list_clear mtR_clear (qu (qv (K:=K) rfl hu) (pv 10) qg (fun _ _=>rfl))))
 (qc (qN (qaW (K:=K) rfl yD Yd Ye qO (qu (qv (K:=K) rfl hu) (pv 10) qg (fun _ _=>rfl)) (qa qaM qd)))
 (qe (qP (PW.pt (zK (qj (qaJ (K:=K) rfl hu) (qp uB (hmR L) qB (qa (pv 8) qd)) (pv 11) (qA _)) (zE (qj qbm (qp uf (hmR L) qB (qa (pv 8) (qa (pv 11) qd))) js (qA _))))) (qe (qm js)) qy)))) ?cut113))))) ?cut109)))))))))))
 (qe (qm js))),?_⟩
  case cut113 =>
   intro D σ J h;rw[al] at h;obtain⟨H1,x,n,t,bb,lt,tp,l,I,kt,R,C,ss,ns,bs,ts,us,TI,rs,y1,y2,y9,hD,rfl,sJ,dd,cz,⟨H2,ba,dq,de,au,s⟩,ax,et,⟨xs,el⟩,ea,A,n1,n2,n3,n4,hG,hR⟩:=h;apply .inl (zO et (v:=.ref l) (qt (j:=0) rfl) ?_);apply⟨.inl ⟨rfl,_,.of el⟩,l,xs,rfl,rfl,el,?_⟩;have sA:L2.Same H2 (upd J l (.lst [])):=qaE dq de;have bf:upd J l (.lst []) tp=some (.tup [.ref l,.ref I]):=by rw[qf (zJ et el (fun e=>by cases e))];show et
   have X:upd J l (.lst []) I=some (.lst (((brI (TI.map (nmP ss)) ss bs).map (tn ss)).map V.str)):=by rw[qf ax.symm];show ea
   have O:PpQ (upd J l (.lst [])) kt R C ss (TI.map (nmP ss)) bs us rs:=⟨by rw[qf (zJ A.t el (fun e=>by cases e))];show A.t,⟨by rw[qf n1];show A.l.1,A.l.2.mono fun u ab z=>by rw[qf (zJ z el (fun e=>by cases e))];show z⟩,A.g,by rw[qf n3];show A.a⟩;have cd:L2.Same H1 (upd J l (.lst [])):=qaE sJ dd;generalize upd J l (.lst [])=JA at sA bf X O cd;apply .inl (zO bf (v:=.ref I) (qt (j:=1) rfl) ?_);apply⟨.inl ⟨rfl,_,.of X⟩,?_⟩;ext;have br:=(qcb s.o s.d.tj s.d.bt).few;show⟨I,_,_,rfl,rfl,X,by rw[ya,ya];show qi (by lk),?_⟩;obtain⟨W,ah⟩:∃ W,W=((brI (TI.map (nmP ss)) ss bs).map (tn ss)).map V.str++[.str "a"]:=⟨_,rfl⟩;rw[<- ah];have sB:L2.Same H2 (upd JA I (.lst W)):=qaE sA au;have cb:PpQ (upd JA I (.lst W)) kt R C ss (TI.map (nmP ss)) bs us rs:=⟨by rw[qf (zJ O.t X (fun e=>by cases e))];show O.t,⟨by rw[qf n2];show O.l.1,O.l.2.mono fun u ab z=>by rw[qf (zJ z X (fun e=>by cases e))];show z⟩,O.g,by rw[qf n4];show O.a⟩;have ce:L2.Same H1 (upd JA I (.lst W)):=qaE cd cz;generalize upd JA I (.lst W)=JB at sB cb ce;have bi:=s.same sB;apply⟨x,ss,ns,_,rfl,bi.wt,fun ds l' a' ef ee J3 s3 co _ _ _ cq dv dw cv bn=>?_⟩;rw[<- qfb s.wt s.d.tj s.d.bt] at bn;have er:=hR.det cv;subst er;have r:=cb.same s3;apply .inr (.inl ⟨ds,kt,true,3,rfl,rfl,by decide,eqT_tup2 co r.t (eqT_pl cq r.l) (qec bn r.a),?_⟩);apply yq ?_;apply⟨x,kt,R,C,ss,ns,TI,bs,_,us,rs,rfl,(bi.same s3).bar r.a,r.t,r.l,r.g,fun J4 s4=>?_⟩;rw[show qc7 bs (brI (TI.map (nmP ss)) ss bs) ss.length rs.length=true from yB hG.k];apply⟨_,_,rfl,rfl,?_⟩;apply yq ?_;show hD _ _ (ce.trans (s3.trans s4)) ⟨_,_,_,_,_,_,_,_,_,_,_,rfl⟩
  case cut109 =>
   intro D σ J h;rw[ar] at h;obtain⟨H1,x,n,t,bb,lt,ss,ns,bs,ts,TI,y1,y2,y9,ch,ci,hD,rfl,sJ,s⟩:=h;apply⟨x,ss,ns,_,rfl,s.wt,fun tp l I us rs J1 s1 et l0 a0 ax hP hG hM hR ha=>?_⟩;rw[<- qfb s.wt s.d.tj s.d.bt] at ha;have cp:=s.same s1;have Z:=s.gt hG hM hR;have A:PpQ J1 tp l I ss (TI.map (nmP ss)) bs us rs:=⟨et,hP,hG,ha⟩;apply⟨n,bb,lt,tp,l,I,ss,TI,bs,us,rs,rfl,cp.d,s.o,A,Z,fun J2 s2=>?_⟩;have S:=A.same s2;apply yq ?_;apply .inl (zO S.t (v:=.ref l) (qt (j:=0) rfl) ?_);apply .inl ⟨l,_,rfl,.inl (.of S.l.1),fun R M=>?_⟩;have s3:=qG (Sr J2) (o:=.lst (us.map V.ref)) M;have e3:upd J2 R (.lst (us.map V.ref)) R=some (.lst (us.map V.ref)):=qb;have n1:R≠l:=fun z=>by rw[z,S.l.1] at M;cases M
   have n2:R≠I:=fun z=>by rw[z,S.a] at M;cases M
   generalize upd J2 R (.lst (us.map V.ref))=J3 at s3 e3;have r:=S.same s3;apply .inl (zO r.t (v:=.ref I) (qt (j:=1) rfl) ?_);apply .inl ⟨I,_,rfl,.inl (.of r.a),fun C N=>?_⟩;obtain⟨W,ah⟩:∃ W,W=((brI (TI.map (nmP ss)) ss bs).map (tn ss)).map V.str:=⟨_,rfl⟩;rw[<- ah];have s4:=qG (Sr J3) (o:=.lst W) N;have e4:upd J3 C (.lst W) C=some (.lst W):=qb;have n3:C≠l:=fun z=>by rw[z,r.l.1] at N;cases N
   have n4:C≠I:=fun z=>by rw[z,r.a] at N;cases N
   generalize upd J3 C (.lst W)=J4 at s4 e4;apply⟨by show 2<=sizeLine;decide,fun kt dc=>?_⟩;have s5:=qG (Sr J4) (o:=.tup [.ref R,.ref C]) dc;have e5:upd J4 kt (.tup [.ref R,.ref C]) kt=some (.tup [.ref R,.ref C]):=qb;generalize upd J4 kt (.tup [.ref R,.ref C])=J5 at s5 e5;have cf:=(s3.trans s4).trans s5;have av:=S.same cf;have di:PpQ J5 kt R C ss (TI.map (nmP ss)) bs us rs:=⟨e5,⟨(s4.trans s5) _ _ e3,av.l.2⟩,hG,by rw[<- ah];show s5 _ _ e4⟩;have bc:=s1.trans (s2.trans cf);have ad:=s.same bc;apply⟨n,t,ss,ts,TI,rfl,ad.d.n,s.o,ad.t,ad.d.tj,fun x2 dm J6 s6 _ _ cx=>?_⟩;have ag:=av.same s6;apply⟨x2,tp,l,I,ss,dm,TI,bs,_,us,rs,rfl,⟨cx,qcb s.o s.d.tj s.d.bt,ag.a⟩,ag.t,ag.l,hG,fun J7 s7=>?_⟩;rw[show qc7 bs (brI (TI.map (nmP ss)) ss bs) ss.length rs.length=true from yB Z.k];apply⟨_,_,rfl,rfl,?_⟩;apply yq ?_;have ca:=ag.same s7;apply .inl (zO ca.t (v:=.ref I) (qt (j:=1) rfl) ?_);ext;have aa:=ad.same (s6.trans s7);show⟨x,I,ss,ns,TI,bs,_,rfl,aa.bar ca.a,fun ay J8 s8 ao ap=>?_⟩;rw[show qc7 bs (brI (TI.map (nmP ss)) ss bs) ss.length ay.length=true from yB (by rw[qf0 s.wt.ir s.o.nd ao ap,<- Z.n];show Z.k)];apply⟨_,_,rfl,rfl,?_⟩;apply yq ?_;ext;have ak:=s6.trans (s7.trans s8);have aw:=av.same ak;rw[al];show⟨H1,x,n,t,bb,lt,tp,l,I,kt,R,C,ss,ns,bs,ts,us,TI,rs,_,_,_,hD,rfl,sJ.trans (bc.trans ak),sJ.free l0,sJ.free a0,⟨J,sJ,bc.trans ak,l0,a0,s⟩,ax,aw.t,⟨_,aw.l.1⟩,aw.a,di.same ak,n1,n2,n3,n4,Z,hR⟩
  .ext;show .inl ⟨a,_,rfl,hS,fun k db=>?_⟩
   obtain⟨U,cn,ec⟩:∃ U:LY,qde (nz.map V.int) none (some 5)=U.map V.int/\U.length<=5:=by
    have:=qbO (nz.map V.int) 5;rw[show((5:Nat):Int)=5 from rfl] at this;show⟨nz.take 5,by rw[this,List.map_take],by rw[yR];lk⟩
   rw[cn];have s1:=qG (Sr H) (o:=.lst (U.map V.int)) db;have M:upd H k (.lst (U.map V.int)) k=some (.lst (U.map V.int)):=qb;generalize upd H k (.lst (U.map V.int))=H1 at s1 M;apply⟨a,nz,5,rfl,s1.seq hS,by decide,fun c8=>?_⟩;apply⟨by show 1<=sizeLine;decide,fun C bv=>?_⟩;have ba:=qG (Sr H1) (o:=.lst [.int c8]) bv;have N:upd H1 C (.lst [.int c8]) C=some (.lst [.int c8]):=qb;generalize upd H1 C (.lst [.int c8])=H2 at ba N;show .inl ⟨k,C,_,_,rfl,rfl,ba _ _ M,N,by rw[ya];show yW (qi (by simp only[yF,Y0];lk)),fun lc dz=>?_⟩;have cm:U.map V.int++[.int c8]=(U++[c8]).map V.int:=by rw[yu];rfl
   rw[cm];have e3:upd H2 lc (.lst ((U++[c8]).map V.int)) lc=some (.lst ((U++[c8]).map V.int)):=qb;generalize upd H2 lc (.lst ((U++[c8]).map V.int))=H3 at e3;generalize U++[c8]=cs at e3;show .inl ⟨⟨_,.of e3⟩,jc (xs:=cs.map V.int) (fun i σ J=>L2.Same H3 J/\Sg a σ) ⟨L2.Same.refl H3,_,_,_,_,_,_,_,_,_,_,_,rfl⟩ (fun i σ J _ A=>.of (A.1 _ _ e3)) (fun i y σ J hy A=>?_) fun σ J A=>?_⟩
   .obtain⟨sJ,y1,y2,y3,y4,y5,y6,y7,y8,y9,ch,ci,rfl⟩:=A;rw[yd] at hy;obtain⟨c,hc,rfl⟩:=yn.mp hy;apply⟨c,rfl,fun p J1 dr dh cr=>?_⟩;have r:H3 p=none:=sJ.free dh;have cj:But p H3 J1:=fun c o _ e=>dr c o (sJ c o e);apply⟨p,12,rfl,cr,by decide,fun m J2 hm b2 ct=>?_⟩;have ac:m<=12:=by lk
    apply⟨p,m,rfl,ct,by lk,fun n ss J3 b3 cu eb bz dg hO dj=>?_⟩;subst dj;apply⟨p,ss.length,rfl,cu,by lk,fun t ts TI J4 b4 ae ed dk hI hT=>?_⟩;have bx:=b4 _ _ bz dg;apply⟨t,ss.length,ts,TI,rfl,by lk,hI,hT,fun bb bs J5 s5 bq bp Y=>?_⟩;apply⟨bb,ss,TI,bs,rfl,ac,hO.nd,hT,bp,Y,fun lt J6 s6 bw af=>?_⟩;have ai:=s5.trans s6;have bm:=ae.same ai;apply⟨n,t,ss,ts,TI,rfl,ai _ _ bx,hO,hI.same ai,hT,fun x ns J7 s7 dl hW as=>?_⟩;have cy:WebP (fun z=>z=p) cw J7 x ss ns:=hW.apart (bm.apart dl) (fun z e=>by subst e;obtain⟨u,v,w,e,_⟩:=bm;rw[e];show fun z=>by cases z);have aj:=ai.trans s7;have aq:=ae.same aj;have ck:But p H3 J7:=(((cj.trans7 b2).trans7 b3).trans7 b4).trans7 fun c o _ e=>aj c o e;have da:=ae.apart bq;have df:=(ae.same s5).apart bw;have mk:∀{G:Hp},But p J7 G->LQ cw x n t bb lt ss ns bs ts TI G:=fun{G} b=>⟨⟨(cy.keep b).web,as.adj,as.ok⟩,⟨b _ _ bz (aj _ _ bx),hO.nd,ac,hT,b _ _ da ((s6.trans s7) _ _ bp),Y,b _ _ df (s7 _ _ af)⟩,hO,(hI.same aj).butJ b aq dk⟩;have aa:=mk fun c o _ e=>e;have bg:∀{G:Hp},But p J7 G->L2.Same H3 G:=fun b c o e=>b c o (fun z=>by rw[z,r] at e;cases e) (ck c o (fun z=>by rw[z,r] at e;cases e) e);apply⟨bb,lt,ss,TI.map (nmP ss),bs,rfl,ac,Y.1,aa.d.b,aa.d.t,fun lr J8 s8 _ an=>?_⟩;have B:=qcb hO hT Y;have br:=B.few;have af:=B.lt;have n8:=s8 _ _ aa.d.n;obtain⟨gs,bu⟩:∃ gs,gs=brI (TI.map (nmP ss)) ss bs:=⟨_,rfl⟩;rw[<- bu] at an br af;show .inl ⟨⟨_,.of an⟩,qH (xs:=gs.map iV) (fun i ys J=>J=J8/\ys=((gs.take i).map (tn ss)).map V.str) ⟨rfl,rfl⟩ (fun i ys J _ A=>by rw[A.1];show .of an) (fun i y ys J hy A=>?_) fun ys J A=>?_⟩
    .obtain⟨rfl,rfl⟩:=A;rw[yd] at hy;obtain⟨k,hk,rfl⟩:=yn.mp hy;apply zZ ?_;apply qej n8 (af k (ye hk)) ?_;show⟨by rw[ya,ya,yR];show qi (by lk),rfl,by rw[yM,hk,yu,yu];rfl⟩
    .obtain⟨rfl,rfl⟩:=A;rw[show(gs.map iV).length=gs.length from ya _,yS];show⟨by rw[ya,ya];show yW (qi (by lk)),fun a0 bo=>?_⟩;rw[bu];have s9:=qG (Sr J) (o:=.lst (((brI (TI.map (nmP ss)) ss bs).map (tn ss)).map V.str)) bo;have ea:upd J a0 (.lst (((brI (TI.map (nmP ss)) ss bs).map (tn ss)).map V.str)) a0=some (.lst (((brI (TI.map (nmP ss)) ss bs).map (tn ss)).map V.str)):=qb;have n0:=(aq.same s8).apart bo;generalize upd J a0 (.lst (((brI (TI.map (nmP ss)) ss bs).map (tn ss)).map V.str))=G at s9 ea;have cg:=s8.trans s9;apply⟨p,2,rfl,aq.same cg,by decide,by decide,fun d G1 hd b1 dy=>?_⟩;have am:But p J7 G1:=fun c o hc e=>b1 _ _ hc (cg c o e);have bj:=mk am;have cl:=b1 _ _ n0 ea;apply qbl ?_;apply qL (fun _=>?_) fun _=>?_
     .ext;show .inl ⟨a0,_,rfl,.inl (.of cl),fun a2 au=>?_⟩;have az:=qG (Sr G1) (o:=.lst (((brI (TI.map (nmP ss)) ss bs).map (tn ss)).map V.str)) au;have be:upd G1 a2 (.lst (((brI (TI.map (nmP ss)) ss bs).map (tn ss)).map V.str)) a2=some (.lst (((brI (TI.map (nmP ss)) ss bs).map (tn ss)).map V.str)):=qb;generalize upd G1 a2 (.lst (((brI (TI.map (nmP ss)) ss bs).map (tn ss)).map V.str))=G2 at az be;have bh:=bj.same az;apply⟨x,a2,ss,ns,TI,bs,_,rfl,bh.bar be,fun ay G3 dp ao ap=>?_⟩;rw[show qc7 bs (brI (TI.map (nmP ss)) ss bs) ss.length ay.length=true from yB (qfc as hO hT Y ao ap)];apply⟨_,_,rfl,rfl,?_⟩;apply yq ?_;ext;rw[ar];have bd:But p J7 G3:=am.trans7 fun c o _ e=>dp _ _ (az c o e);show⟨H3,x,n,t,bb,lt,ss,ns,bs,ts,TI,_,_,_,_,_,fun dt J' s' e'=>⟨s',e'⟩,rfl,bg bd,mk bd⟩
     .show yq ?_;ext;rw[ar];show⟨H3,x,n,t,bb,lt,ss,ns,bs,ts,TI,_,_,_,_,_,fun dt J' s' e'=>⟨s',e'⟩,rfl,bg am,bj⟩
   .obtain⟨sJ,y1,y2,y3,y4,y5,y6,y7,y8,y9,ch,ci,rfl⟩:=A;apply q J
end
theorem all_mk{l:W.OpenLaw}{w:World}{h:Heap}{n:Str->Option Value}{fa f c :Addr}{o p q:Tok}(X:K.In h)(G:h.Ns mainGlobals n)(z:n "law"=some (.ref fa))
  (Cw_:W.nsIn K mainGlobals "Web"=some (some (.ref f)))
  (Cf_:W.nsIn K mainGlobals "Forest"=some (some (.ref c)))
  (vL:FG K "are_pairs" zT)
  (ve:FG K "partners_in" zc)
  (vx:FG K "told_pairs" j3)
  (Vg:FG K "singles" qal)
  (VE:FG K "is_row" qbq)
  (UM:FG K "are_unlike_places" ji)
  (U1:FG K "goes_by_turns" qX)
  (vP:FG K "can_turn" qax)
  (VF:FG K "turned" qa4)
  (vQ:FG K "greatest" qay)
  (U2:FG K "greatest_from" jJ)
  (Wp:FG K "sorts" qcs)
  (vR:FG K "word_for" zH)
  (Wq:FG K "loose" qct)
  (Wz:FG K "held" qd4)
  (vf:FG K "places_with" jL)
  (U3:FG K "pieces_beside" jK)
  (vy:FG K "odd_pieces" j4)
  (Vh:FG K "lack_of" qa9)
  (vS:FG K "paper_of" qaB)
  (Wr:FG K "shows" qcu)
  (VG:FG K "is_bar" qbB)
  (Vi:FG K "is_name" qah)
  (Vj:FG K "has_bit" qaZ)
  (vT:FG K "is_place" qat)
  (UT:FG K "are_two_places" jx)
  (vz:FG K "numbers_of" zu)
  (Vk:FG K "near_of" qa0)
  (U9:FG K "piece_around" jW)
  (VH:FG K "_law_cell" qbt)
  (Vl:FG K "_law_purse" qa6)
  (VI:FG K "_law_take" qbu)
  (Vm:FG K "_law_names" qak)
  (VJ:FG K "_law_ties" qbw)
  (VL:FG K "_law_many" qbv)
  (VM:FG K "_law_made" qbx)
  (VN:FG K "_law_bits" qby)
  (Vn:FG K "_law_table" qba)
  (vV:FG K "_law_pieces" zh)
  (VO:FG K "_law_room" qa7)
  (vg:FG K "_law_are_pairs" zf)
  (VP:FG K "_law_lack" qaC)
  (vW:FG K "_law_rising" zi)
  (Ws:FG K "_law_bar" qbg)
  (Vo:FG K "_law_right" qam)
  (WC:FG K "law" qc8)
  (W3:FM K f "__init__" "Web.__init__" qau)
  (vX:FM K f "places" "Web.places" zw)
  (VQ:FM K f "ties" "Web.ties" qaw)
  (vh:FM K f "has_place" "Web.has_place" jF)
  (vM:FM K f "has_tie" "Web.has_tie" za)
  (vm:FM K f "number_of" "Web.number_of" jG)
  (vY:FM K f "beside" "Web.beside" zx)
  (U4:FM K f "bits_beside" "Web.bits_beside" jp)
  (VR:FM K f "tied" "Web.tied" qav)
  (vZ:FM K f "pieces" "Web.pieces" zy)
  (vA:FM K f "names_in" "Web.names_in" jw)
  (vN:FM K f "without" "Web.without" jq)
  (vn:FM K c "__init__" "Forest.__init__" ze)
  (VS:FM K c "row" "Forest.row" zA)
  (vD:FM K c "reached" "Forest.reached" jk)
  (Vp:FM K c "grow" "Forest.grow" zd)
  (v6:FM K c "reach" "Forest.reach" jX)
  (UU:FM K c "look_around" "Forest.look_around" jg)
  (UO:FM K c "bring_together" "Forest.bring_together" qK)
  (UI:FM K c "bases_down_from" "Forest.bases_down_from" qT)
  (UV:FM K c "reach_round" "Forest.reach_round" jf)
  (Vq:FM K c "fold" "Forest.fold" jI)
  (w1:W.plainGet K f Str.empty=true)
  (w2:W.hasDictIn K f=true)
  (w3:W.plainOver K f=true)
  (w4:W.findIn K (.ref f) "__setattr__"=some (some (.builtin "object.__setattr__")))
  (w5:W.makesIn K f=true)
  (w6:W.keepIn K (.ref f)=true)
  (w7:W.findIn K (.ref f) "numbers"=some none)
  (w8:W.findIn K (.ref f) "order"=some none)
  (w9:W.findIn K (.ref f) "near"=some none)
  (B:W.plainGet K c Str.empty=true)
  (C:W.hasDictIn K c=true)
  (D:W.plainOver K c=true)
  (E:W.findIn K (.ref c) "__setattr__"=some (some (.builtin "object.__setattr__")))
  (F:W.makesIn K c=true)
  (H:W.keepIn K (.ref c)=true)
  (aa:W.findIn K (.ref c) "board"=some none)
  (ac:W.findIn K (.ref c) "partners"=some none)
  (ad:W.findIn K (.ref c) "rows"=some none)
  (ae:W.findIn K (.ref c) "parents"=some none)
  (af:W.findIn K (.ref c) "bases"=some none)
  (ag:W.findIn K (.ref c) "rings"=some none)
  (ah:W.findIn K (.ref c) "waiting"=some none)
  (ai:W.findIn K (.ref c) "longer"=some none)
  (L:W.nsIn K mainGlobals "zip"=some none)
  (u:W.nsIn K mainGlobals "sum"=some none)
  (r:W.nsIn K mainGlobals "any"=some none)
  (t:W.nsIn K mainGlobals "sorted"=some none)
  (z0:W.nsIn K mainGlobals "len"=some none)
  (z1:W.nsIn K mainGlobals "int"=some none)
  (z2:W.nsIn K mainGlobals "enumerate"=some none)
  (z3:W.nsIn K mainGlobals "all"=some none)
  (z4:W.nsIn K mainGlobals "max"=some none)
  (z5:W.nsIn K mainGlobals "min"=some none)
  (z6:W.nsIn K mainGlobals "isinstance"=some none)
  (z7:W.nsIn K mainGlobals "bool"=some none)
  (z8:W.nsIn K mainGlobals "str"=some none)
  (z9:W.nsIn K mainGlobals "range"=some none)
  (I:W.nsIn K mainGlobals "list"=some none)
  (J:W.nsIn K mainGlobals "tuple"=some none)
  (u0:W.nsIn K mainGlobals "LONGEST_NAME"=some (some (.int 6 o)))
  (u1:W.nsIn K mainGlobals "MOST_PLACES"=some (some (.int 14 p)))
  (u2:W.nsIn K mainGlobals "MOST_TIES"=some (some (.int 30 q))) :
  ∃ fd:FuncData,(∀(s:Shared) (v:Value),BindsTo s fd ⟨[v],[]⟩ [("_law_script",v)])/\∀ d:Heap,K.In d->d.Ns mainGlobals n->FnOk l.prog w K n d CX0 20 fa fd ["_law_script"] (spLaw K):=by
 obtain⟨_,_,vO,Y⟩:=vL;obtain⟨_,_,vo,Z⟩:=ve;obtain⟨_,_,vE,V8⟩:=vx;obtain⟨_,_,Vr,V9⟩:=Vg;obtain⟨_,_,VT,wa⟩:=VE;obtain⟨_,_,UP,wc⟩:=UM;obtain⟨_,_,U5,we⟩:=U1;obtain⟨_,_,v7,wf⟩:=vP;obtain⟨_,_,VU,wg⟩:=VF;obtain⟨_,_,v8,wj⟩:=vQ;obtain⟨_,_,U6,wm⟩:=U2;obtain⟨_,_,Wu,wq⟩:=Wp;obtain⟨_,_,v9,wu⟩:=vR;obtain⟨_,_,Ww,wv⟩:=Wq;obtain⟨_,_,WA,ww⟩:=Wz;obtain⟨_,_,vp,wy⟩:=vf;obtain⟨_,_,U7,wz⟩:=U3;obtain⟨_,_,vF,wA⟩:=vy;obtain⟨_,_,Vs,wB⟩:=Vh;obtain⟨_,_,Va,wC⟩:=vS;obtain⟨_,_,Wx,wD⟩:=Wr;obtain⟨_,_,VV,wE⟩:=VG;obtain⟨_,_,Vt,wF⟩:=Vi;obtain⟨_,_,Vu,wG⟩:=Vj;obtain⟨_,_,Vb,wH⟩:=vT;obtain⟨_,_,UW,wI⟩:=UT;obtain⟨_,_,vG,wJ⟩:=vz;obtain⟨_,_,Vv,wK⟩:=Vk;obtain⟨_,_,va,wL⟩:=U9;obtain⟨_,_,VW,wM⟩:=VH;obtain⟨_,_,Vw,wN⟩:=Vl;obtain⟨_,_,VX,wO⟩:=VI;obtain⟨_,_,Vx,wP⟩:=Vm;obtain⟨_,_,VY,wQ⟩:=VJ;obtain⟨_,_,VZ,wR⟩:=VL;obtain⟨_,_,V0,wS⟩:=VM;obtain⟨_,_,V1,wT⟩:=VN;obtain⟨_,_,Vy,wU⟩:=Vn;obtain⟨_,_,Vc,wV⟩:=vV;obtain⟨_,_,V2,wW⟩:=VO;obtain⟨_,_,vq,wX⟩:=vg;obtain⟨_,_,V3,wY⟩:=VP;obtain⟨_,_,Vd,wZ⟩:=vW;obtain⟨_,_,Wy,Wa⟩:=Ws;obtain⟨_,_,Vz,Wc⟩:=Vo;obtain⟨_,_,WD,Wd⟩:=WC;obtain⟨_,_,W4,W6,WB⟩:=W3;obtain⟨_,_,WE,WF,We⟩:=vX;obtain⟨_,_,WG,WH,Wf⟩:=VQ;obtain⟨_,_,WI,WJ,Wg⟩:=vh;obtain⟨_,_,WK,WL,Wh⟩:=vM;obtain⟨_,_,WM,WN,Wi⟩:=vm;obtain⟨_,_,WO,WP,Wj⟩:=vY;obtain⟨_,_,WQ,WR,Wk⟩:=U4;obtain⟨_,_,WS,WT,Wl⟩:=VR;obtain⟨_,_,WV,WW,Wm⟩:=vZ;obtain⟨_,_,WX,WY,Wn⟩:=vA;obtain⟨_,_,WZ,W0,Wo⟩:=vN;obtain⟨_,_,vv,vw,S⟩:=vn;obtain⟨_,_,V4,V5,vH⟩:=VS;obtain⟨_,_,vJ,vK,U⟩:=vD;obtain⟨_,_,VA,VB,vb⟩:=Vp;obtain⟨_,_,Ve,Vf,M⟩:=v6;obtain⟨_,_,UX,UY,P⟩:=UU;obtain⟨_,_,UQ,UR,O⟩:=UO;obtain⟨_,_,UJ,UK,N⟩:=UI;obtain⟨_,_,UZ,U0,R⟩:=UV;obtain⟨_,_,VC,VD,vc⟩:=Vq;have e:=z.symm.trans (W.mg_of X G WD);cases e;have g:Cls K f:=⟨w1,w2,w3,w4⟩;have j:Cls K c:=⟨B,C,D,E⟩
 have A:∀ a∈fAtt,NoAttr K c a:=fun a y=>by
  unfold fAtt at y;simp only[yy,Yb,YL] at y;rcases y with rfl | rfl | rfl | rfl | rfl | rfl | rfl | rfl<;>assumption
 have T:Txt K n (fun i=>c) f:=⟨YN X G z0,
  YN X G z1,
  YN X G z2,
  YN X G z3,
  YN X G z4,
  YN X G z5,
  YN X G z6,
  YN X G z7,
  YN X G z8,
  YN X G z9,
  YN X G I,
  YN X G J,
  ⟨o,W.mg_of X G u0⟩,
  ⟨p,W.mg_of X G u1⟩,
  ⟨q,W.mg_of X G u2⟩,
  g,
  w7,
  w8,
  w9,
  W.mg_of X G Cw_,
  W.mg_of X G Cf_,
  j,
  A,
  YN X G L,
  YN X G u,
  YN X G r,
  YN X G t⟩
 obtain⟨oc,od,kV,x,pm,an,cd,ct,sl,rfl,lk,hc⟩:=Wd.ex;show⟨W.fnOf "law" "law" (qaH qc8) (qaf qc8) (qh qc8) .none kV x pm an cd ct,fun s v=>.of_eq rfl,fun d _ _=>?_⟩;have b:=@fg_mk l.prog w K n d h;have m:=@fm_mk l.prog w K n d;have fw:=@fw_mk l.prog w K n d h;have d_name:=b X G Vt wF (ok_name wF T);have d_place:=b X G Vb wH (ok_place wH d_name);have d_two:=b X G UW wI (ok_two wI T d_place);have d_bit:=b X G Vu wG (ok_bit wG);have d_nums:=b X G vG wJ (ok_nums wJ T d_name);have d_near:=b X G Vv wK (ok_near wK T d_two d_bit);have q_web:MakeOk l.prog w K n d CX0 5 f "Web" ["self","names","ties"] (spWeb f):=fw X G Cw_ w5 w6 W4 W6 WB (ok_web WB T d_nums d_near);have m_has:=m g WI WJ Wg (ok_has Wg T d_place);have m_num:=m g WM WN Wi (ok_num Wi T m_has);have m_bb:=m g WQ WR Wk (ok_bb Wk T m_num);have m_nin:=m g WX WY Wn (ok_nin Wn T d_bit);have m_bs:=m g WO WP Wj (ok_bs Wj T m_bb m_nin);have m_tied:=m g WS WT Wl (ok_tied Wl T m_bb m_num d_bit);have m_pls:=m g WE WF We (ok_pls We T);have m_ts:=m g WG WH Wf (ok_ts Wf T m_bs);have m_ht:=m g WK WL Wh (ok_ht Wh T d_two m_tied);have d_pc:=b X G va wL (ok_pc wL T d_bit);have m_pcs:=m g WV WW Wm (ok_pcs Wm T d_bit d_pc m_nin);have m_wo:=m g WZ W0 Wo (ok_wo Wo T m_num m_ts q_web);have d_ap:=b X G vO Y (ok_ap Y T m_ht);have d_pn:=b X G vo Z (ok_pn Z T d_ap);have d_tp:=b X G vE V8 (ok_tp V8 T d_pn m_ts);have d_ul:=b X G UP wc (ok_ul wc T m_has);have d_gt:=b X G U5 we (ok_gt we T m_ht);have d_ir:=b X G VT wa (ok_ir wa T d_pn d_ul d_gt);have d_ct:=b X G v7 wf (ok_ct wf T d_pn d_ir);have d_tu:=b X G VU wg (ok_tu wg T d_pn m_ts d_ct);have p_re:=m j Ve Vf M (ok_re M T);have p_bd:=m j UJ UK N (ok_bd N T);have p_rr:=m j UZ U0 R (ok_rr R T p_re);have p_fd:=m j VC VD vc (ok_fdF vc T m_pls);have p_bt:=m j UQ UR O (ok_bt O T p_bd p_rr p_fd);have p_la:=m j UX UY P (ok_la P T m_bs p_bt p_re);have p_gw:=m j VA VB vb (ok_gw vb T m_pls p_re p_la);have p_mk:MakeOk l.prog w K n d CX0 10 c "Forest" ["self","web","pairs"] (spFi (fun i=>c) f):=fw X G Cf_ F H vv vw S (ok_fi S T d_pn p_gw);have p_row:=m j V4 V5 vH (ok_fr vH T);have p_rch:=m j vJ vK U (ok_fd2 U T m_pls);have d_gf:=b X G U6 wm (ok_gf wm T d_tp p_mk p_row d_tu);have d_gr:=b X G v8 wj (ok_gr wj T d_gf);have d_lo:=b X G Ww wv (ok_lo wv T d_gr p_mk p_rch);have d_wf:=b X G v9 wu (ok_wf wu T m_bs);have d_so:=b X G Wu wq (ok_so wq T d_lo d_wf m_pls);have d_pw:=b X G vp wy (ok_pw wy T d_so m_pls);have d_he:=b X G WA ww (ok_he ww T d_pw);have d_pap:=b X G Va wC (ok_pa6 wC T d_gr d_he);have d_si:=b X G Vr V9 (ok_si V9 T d_pn m_pls);have d_pb:=b X G U7 wz (ok_pb wz T d_ul m_wo m_pcs);have d_od:=b X G vF wA (ok_od wA T d_pb);have d_lk:=b X G Vs wB (ok_lk wB T d_od);have d_shw:=b X G Wx wD (ok_shw wD T d_ap d_ul d_si d_lk);have d_ib:=b X G VV wE (ok_ib wE T d_gr d_shw);have d_tk:=b X G VX wO (ok_tkp wO T);have d_lkJ:=b X G V3 wY (ok_lkJ wY T (b X G V2 wW (ok_rmJ wW T)) (b X G Vc wV (ok_pjJ wV T)));have d_tb:=b X G Vy wU (ok_tbQ wU T);have d_br:=b X G Wy Wa (ok_brQ Wa T);have d_rt:=b X G Vz Wc (ok_rtP Wc T (b X G vq wX (ok_arQ wX T)) (b X G Vd wZ (ok_rsQ wZ T)) d_br d_lkJ);show ok_law42 Wd T (b X G VW wM (ok_ce wM T)) (b X G Vw wN (ok_pu wN T)) d_tk (b X G VZ wR (ok_my wR T d_tk)) (b X G Vx wP (ok_nmJ wP T d_tk)) (b X G VY wQ (ok_tsJ wQ T d_tk)) (b X G V0 wS (ok_mdJ wS T q_web)) (b X G V1 wT (ok_btJ wT T)) d_tb d_br d_ib d_pap d_rt d_shw
theorem walk{l:PySem.W.OpenLaw}{q:Program}{loose:LS}{XP:(Str->Option Value)->Heap->Prop}{YP:World->Heap->Prop}{d:DefRec}{K:Params->yg}(o:l.most=some 63)(e:d.params.defaults=[])
  (m:∀(w:World) (h:Heap),YP w h->(K w.params).In h)
  (F:∀(w:World) (c:Str->Option Value) (g:Addr) (h:Heap),(K w.params).In h->h.Ns mainGlobals c->c d.name=some (.ref g) ->
   ∃ i:FuncData,(∀(s:Shared) (u:Value),BindsTo s i ⟨[u],[]⟩ [("_law_script",u)])/\∀ b:Heap,(K w.params).In b->b.Ns mainGlobals c->FnOk l.prog w (K w.params) c b CX0 20 g i ["_law_script"] (spLaw (K w.params))) :
  PySem.W.WalkO q loose XP YP l.row.toRowW d [] (fun f vs=>PySem.call f vs):=
 L2.walk_of (n:=63) (k:=20) (x:="_law_script") (CX:=fun _=>CX0) (sp:=fun w=>spLaw (K w.params)) o (by decide) e ⟨rfl,by decide,by decide,rfl⟩ m F (fun _ _ a ns hl _ j=>⟨a,ns,rfl,j,hl,fun _=>rfl⟩) fun _ _ _ _ _ z=>z
end K42
set_option maxRecDepth 100000 in
set_option maxHeartbeats 0 in
theorem PySem.Challenge.cw_onceroad_k42_whole_papers_of_webs_holds : PySem.Challenge.rw_onceroad_k42_whole_papers_of_webs.Holds := by
  w_on; o_law
  show PySem.W.holds_open (q := K42.Q) (loose := []) (Xt := K42.Xt) (XP := PySem.W.XL K42.Q []) (Yf := PySem.W.Hook.obs K42.Hk) (Ya := PySem.W.Hook.val K42.Hk) (YP := PySem.W.Hook.says (PySem.W.kHook K42.Kf K42.ks K42.ks_eq)) (N := K42.NN) K42.hl (PySem.W.Hook.of K42.Hk) (PySem.W.Hook.keeps K42.Hk) (fun s e => PySem.W.xl_of s (Bool.and_eq_true_iff.mp e).1) PySem.W.XL.keeps (by rfl) (by rfl) (by rfl) (fun s e => PySem.W.recFacts_of (Bool.and_eq_true_iff.mp e).2) (by rfl) (by first | assumption | room) (by room) ⟨rfl, rfl, rfl, rfl, rfl, by room⟩ ?hw ?hc
  (case hw => w_witness2)
  k_fill
  show K42.walk (l := PySem.Challenge.rw_onceroad_k42_whole_papers_of_webs) rfl rfl (fun w h Y => PySem.W.kIn_of Y) ?F
  case F =>
    intro w mg fa h KX G hmg
    refine' K42.all_mk KX G hmg ?_ ?_ ?_ ?_ ?_ ?_ ?_ ?_ ?_ ?_ ?_ ?_ ?_ ?_ ?_ ?_ ?_ ?_ ?_ ?_ ?_ ?_ ?_ ?_ ?_ ?_ ?_ ?_ ?_ ?_ ?_ ?_ ?_ ?_ ?_ ?_ ?_ ?_ ?_ ?_ ?_ ?_ ?_ ?_ ?_ ?_ ?_ ?_ ?_ ?_ ?_ ?_ ?_ ?_ ?_ ?_ ?_ ?_ ?_ ?_ ?_ ?_ ?_ ?_ ?_ ?_ ?_ ?_ ?_ ?_ ?_ ?_ ?_ ?_ ?_ ?_ ?_ ?_ ?_ ?_ ?_ ?_ ?_ ?_ ?_ ?_ ?_ ?_ ?_ ?_ ?_ ?_ ?_ ?_ ?_ ?_ ?_ ?_ ?_ ?_ ?_ ?_ ?_ ?_ ?_ ?_ ?_ ?_ ?_ ?_ ?_ ?_
    any_goals first | k_is | decide
    any_goals first | k_is | decide | show⟨_, _, by k_is, L2.fun_mk (by k_is) (by k_is) (by k_is)⟩ | show⟨_, _, by k_is, by k_is, L2.fun_mk (by k_is) (by k_is) (by k_is)⟩ | show⟨_, _, _, _, _, _, _, _, _, _, _, _, _, _, _, by k_is⟩ | show⟨by k_is, by k_is, by k_is, by k_is, by k_is, by k_is, by k_is, by k_is⟩ | kernel_rfl | fail
