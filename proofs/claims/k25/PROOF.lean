import PyProof.Rows.All
import Wide.All
import OpenK.AllK
import Wide.FinOn
import PyProof.EqAt
import PyProof.EqKinds
import PyProof.TupleCall
import Lean
import PySem.Challenge.RW_onceroad_k25_whole_rows_lead_from_pairs
set_option Elab.async false
set_option linter.all false
set_option maxRecDepth 100000
local macro_rules | `(tactic| show $e)=>`(tactic| refine $e)
abbrev LQ:=List Int
abbrev LI:=List PySem.Addr
abbrev LN:=List Nat
abbrev LS:=List PySem.Str
abbrev LP:=List (PySem.Str×PySem.Str)
local macro_rules | `(tactic| room)=>`(tactic| decide +kernel)
local macro_rules | `(tactic| lk)=>`(tactic| first | lia | omega)
theorem ya{b c:Type}{a:List b}(f:b→c):(a.map f).length=a.length:=List.length_map f
theorem yb{a:Type}{l:List a}{i:Nat}(h:i<l.length):l[i]?=some l[i]:=List.getElem?_eq_getElem h
theorem yc{b:Type}{l:List b}{i:Nat}{a:b}:l[i]?=some a↔∃h:i<l.length,l[i]=a:=List.getElem?_eq_some_iff
theorem yd{a b:Type}{f:a→b}{l:List a}{i:Nat}:(l.map f)[i]?=l[i]?.map f:=List.getElem?_map
theorem ye{b:Type}{l:List b}{i:Nat}{a:b}(h:l[i]?=some a):a∈l:=List.mem_of_getElem? h
theorem yf{b:Type}{a:b}{l:List b}(h:a∈l):∃i:Nat,l[i]?=some a:=List.getElem?_of_mem h
noncomputable abbrev yg:=PySem.W.Frag
theorem yh(n:Nat):n≤n:=Nat.le_refl n
theorem yi{a b c:Nat}(h:a≤b)(k:b≤c):a≤c:=Nat.le_trans h k
theorem yj{a b c:Nat}(h:a<b)(k:b≤c):a<c:=Nat.lt_of_lt_of_le h k
theorem yk{p:Prop}[Decidable p](h:decide p=true):p:=of_decide_eq_true h
theorem yl{p:Prop}[Decidable p](h:¬p):decide p=false:=decide_eq_false h
theorem ym{c:Type}{a b:c}(h:some a=some b):a=b:=Option.some.inj h
theorem yn{c d:Type}{f:c→d}{x:Option c}{b:d}:x.map f=some b↔∃a,x=some a∧f a=b:=Option.map_eq_some_iff
theorem yo{b:Type}{a:b}{l:List b}:(a::l).Nodup↔a∉l∧l.Nodup:=List.nodup_cons
theorem yp{a:Type}{p:a→Bool}{b:List a}{x:a}:x∈b.filter p↔x∈b∧p x=true:=List.mem_filter
theorem yq{A B:Prop}(h:B):if false=true then A else B:=h
def yr:=@PySem.wpAny_bind
def yt:=@PySem.Heap.get?_push_of_some
def yu:=@PySem.wpAny_pure
def yv:=@List.size_toArray
def yw:=@List.mem_cons_of_mem
def yx:=@List.length_append
def yy:=@Nat.ne_of_lt
def yz:=@if_neg
def yA:=@List.mem_singleton
def yB:=@List.mem_append
def yC:=@List.mem_cons_self
def yD:=@PySem.Heap.lt_size
def yE:=@List.mem_cons
def yF:=@if_pos
def yG:=@List.mem_append_right
def yH:=@decide_eq_true
def yI:=@List.length_take
def yJ:=@PySem.Heap.get?_push_size
def yK:=@List.take_add_one
def yL:=@List.map_append
def yM:=@List.length_cons
def yN:=@Or.inl
def yO:=@List.take_length
def yP:=@List.getElem?_append_left
def yQ:=@PySem.PassesOwn.never
def yR:=@Nat.le_of_lt
def yS:=@Bool.and_eq_true
def yT:=@List.mem_append_left
def yU:=@List.filter_cons
def yV:=@List.map_cons
def yW:=@Nat.ne_of_gt
def yX:=@PySem.sizeLine_eq
def yY:=@beq_iff_eq
def yZ:=@List.not_mem_nil
def y0:=@List.filter_append
def Yb:=@List.getElem?_append_right
def Yc:=@Int.toNat_natCast
def Yd:=@PySem.wpAny_holding
def Ye:=@List.length_filter_le
def Yg:=@List.append_nil
def Yh:=@Bool.false_ne_true
def Yi:=@Nat.zero_le
def Yj:=@PySem.F.plainAttrs_list
def Yk:=@Nat.lt_irrefl
def Yl:=@Classical.byContradiction
def Ym:=@List.length_nil
def Yn:=@Ne.symm
def Yo:=@List.append_assoc
def Yp:=@List.getD_eq_getElem?_getD
def Yq:=@List.all_eq_true
def Yr:=@PySem.F.slot_list_append
def Ys:=@PySem.F.type_list_append
def Yt:=@List.nodup_append
def Yu:=@PySem.W.mg_none_of
def Yv:=@List.take_of_length_le
def Yx:=@decide_eq_decide
def Yy:=@beq_eq_false_iff_ne
def Yz:=@PySem.wpAny_mono
def YA:=@Array.length_toList
def YB:=@PySem.Heap.SameBut.update
def YC:=@List.length_replicate
def YD:=@PySem.F.slot_NoneType_eq
def YE:=@List.mem_map
def YF:=@PySem.boot_len
def YG:=@PyProof.Rows.callWith_type1
def YH:=@True.intro
def YI:=@List.pairwise_map
def YJ:=@PySem.mem_of_lookup
def YK:=@PySem.wpAny_of_eq
def YL:=@Array.getElem?_eq_getElem
def YM:=@PySem.Heap.get?_update_self
def YN:=@Nat.lt_succ_self
def YO:=@List.length_drop
def YQ:=@beq_self_eq_true
def YR:=@Bool.false_eq_true
def YS:=@Nat.le_add_right
def YT:=@PySem.W.looks_findIn
def YU:=@List.replicate_succ
def YV:=@List.flatMap_append
def YW:=@Sum.inr.inj
def YX:=@List.lookup_cons
def YY:=@List.mem_range
def YZ:=@PySem.Heap.size_push
def Y0:=@Nat.lt_of_le_of_lt
def Y1:=@List.lookup_append
def Y2:=@or_false
def Y3:=@Int.emod_lt_of_pos
def Y4:=@List.pairwise_cons
def Y5:=@Array.getElem?_toList
def Y6:=@List.pairwise_iff_getElem
def Y7:=@PySem.wpAny_passesOwn
def Y8:=@Bool.eq_iff_iff
def Y9:=@List.find?_cons
def xi:=@List.filter_nil
def xj:=@List.getElem?_set_ne
def xk:=@PySem.wpAny_truthy_bool
def xl:=@List.flatten_cons
def xm:=@Nat.zero_add
def xn:=@PyProof.Rows.slot_tuple_getitem
def xo:=@List.filterMap_cons
def xp:=@PySem.W.looks_mroIn
def xq:=@List.length_reverse
def xr:=@PySem.W.any_some
def xt:=@List.any_eq_true
def xu:=@PySem.wpAny_getItem_str_slice
def xv:=@List.mem_flatMap
def xw:=@List.length_tail
def xx:=@List.pairwise_singleton
def xy:=@PySem.wpAny_field
def xz:=@PySem.wpAny_Call_Name_kw
def xA:=@PySem.tupleKind_room_in1
def xB:=@Array.getElem?_eq_none
def xC:=@decide_eq_true_iff
def xD:=@List.getElem?_tail
def xE:=@List.nil_append
def xF:=@PyProof.Rows.boot_isinstance
def xG:=@Int.emod_nonneg
def xH:=@List.mem_iff_getElem?
def xI:=@List.take_append_drop
def xJ:=@PySem.wpAny_newObj_type
def xK:=@List.idxOf_lt_length_of_mem
def xL:=@List.filter_congr
def xM:=@List.getElem?_concat_length
def xN:=@PySem.codeAny_call_builtin
def xO:=@List.pairwise_append
def xP:=@List.length_eraseIdx
def xQ:=@Nat.lt_trans
def xR:=@PySem.F.plain_extend_loop
def xS:=@Option.isSome_iff_exists
def xT:=@if_false
def xU:=@List.Pairwise.imp_of_mem
def xV:=@if_true
def xW:=@List.all_append
def xX:=@List.filter_map
def xY:=@List.getElem?_drop
def xZ:=@Array.forIn_toList
def Xa:=@List.getElem?_replicate
def Xb:=@PySem.wpAny_callSpecial?_slot
def Xc:=@Nat.le_of_eq
def Xd:=@List.take_sublist
def Xe:=@List.map_nil
def Xf:=@Or.inr
def Xg:=@Nat.lt_succ_of_lt
def Xh:=@PySem.wpAny_nextOf_list_item
def Xi:=@List.filter_eq_nil_iff
def Xj:=@PySem.F.slot_dict_get
def Xk:=@PySem.wpAny_call
def Xl:=@PySem.wpAny_call_entry
def Xm:=@List.cons_append
def Xn:=@Nat.lt_of_not_le
def Xo:=@PyProof.Rows.boot_list
def Xp:=@PySem.Paired.length
def Xq:=@List.any_cons
def Xr:=@PySem.wpAny_attempt
def Xs:=@Nat.le_succ
def Xu:=@PySem.wpAny_execs_nil
def Xv:=@List.length_set
def Xw:=@PySem.SeqAt.EqAt.same
def Xx:=@Option.map_some
def Xy:=@PySem.post_val_or_str
def Xz:=@List.range_succ
def XA:=@PySem.F.slot_zip_next
def XB:=@PySem.wpAny_updateSeq
def XC:=@PyProof.Rows.get?_update_seq
def XD:=@PySem.W.plainGet_of
def XE:=@PySem.W.looks_clsIn
def XF:=@PySem.Heap.get?_update_ne
def XG:=@List.filter_eq_self
def XH:=@PySem.codeAny_mono
def XI:=@PySem.Calls.spliced_cons
def XJ:=@PySem.W.callWith_K
def XM:=@List.getElem_idxOf
def XR:=@List.filter_filter
def XS:=@PySem.Calls.spliced_nil
def XT:=@PySem.slot_list_getitem
def XU:=@Option.isSome_map
def XV:=@PySem.wpAny_pyIter_list
def XW:=@PySem.wpAny_standAt
def XX:=@Bool.or_false
def XY:=@List.all_cons
def XZ:=@PyProof.Rows.listUpdate_at
def X0:=@List.map_tail
def X1:=@Nat.min_le_right
def X2:=@Prod.ext
def X3:=@Nat.succ_le_succ
def X4:=@PySem.wpAny_askSetting
def X5:=@Nat.min_eq_right
def X6:=@PySem.wpAny_pyIter_zip
def X7:=@PySem.Txt.slice_le
def X8:=@Int.zero_add
def X9:=@List.map_map
def kc:=@List.of_mem_zip
def ke:=@List.forIn_cons
def kg:=@Nat.min_eq_left
def kh:=@Array.size_push
def ki:=@List.forIn_nil
def kj:=@List.take_zero
def km:=@Prod.mk.injEq
def kn:=@List.sum_cons
def kr:=@Int.ediv_one
def ku:=@decide_false
namespace L2
open PySem PySem.Spec PyProof.Rows
noncomputable def jT(s:Stmt)(j:Nat):Stmt:=match s with
 | .ClassDef _ _ _ body _ _ _ _ _ _ _=>body.getD j (.Pass ⟨0,0,0,0⟩)
 | _=>.Pass ⟨0,0,0,0⟩
noncomputable def zI(s:Stmt):Arguments:=match s with
 | .FunctionDef _ a _ _ _ _ _ _ _ _=>a
 | _=>{ posonlyargs:=[],args:=[],vararg:=none,kwonlyargs:=[],kw_defaults:=[],kwarg:=none,defaults:=[] }
noncomputable def jU(s:Stmt):List Stmt:=match s with
 | .FunctionDef _ _ b _ _ _ _ _ _ _=>b
 | _=>[]
noncomputable def qg(s:Stmt):Scope:=match s with
 | .FunctionDef _ _ _ _ _ _ sc _ _ _=>sc
 | _=>{ kind:=.function,names:=[],isGenerator:=false,isCoroutine:=false }
noncomputable def hookT(K:Params->yg)(a:LI)(e:∀ P,a=(K P).map (·.1))(p:Addr)(o:Obj):PySem.W.Hook:=
 ⟨List (Option Obj),fun s=>(p::a).map s.heap.get?,fun w=>some o::(K w.params).map fun q:Addr×Obj=>some q.2,fun w h=>(PySem.W.kHook K a e).says w h/\h.get? p=some o,
  fun w s h=>⟨(PySem.W.kHook K a e).of w s (List.cons.inj h).2,(List.cons.inj h).1⟩,fun w h h' x k=>⟨(PySem.W.kHook K a e).keeps w h h' x.1 k,k _ _ x.2⟩⟩
end L2
namespace K25
open PySem L2 PyProof.Rows
noncomputable def top(i:Nat):Stmt:=PySem.Challenge.pw_onceroad_k25_whole_rows_lead_from_pairs.main.body.getD i (.Pass ⟨0,0,0,0⟩)
noncomputable abbrev zn:Stmt:=top 25
noncomputable abbrev zP:Stmt:=top 30
noncomputable abbrev zt:Stmt:=top 31
noncomputable abbrev q9:Stmt:=top 32
noncomputable abbrev jO:Stmt:=top 33
noncomputable abbrev zu:Stmt:=jT (top 29) 0
noncomputable abbrev zQ:Stmt:=top 34
noncomputable abbrev jP:Stmt:=jT (top 29) 1
noncomputable abbrev jj:Stmt:=jT (top 29) 4
noncomputable abbrev jk:Stmt:=jT (top 29) 6
noncomputable abbrev jQ:Stmt:=jT (top 29) 7
noncomputable abbrev qS:Stmt:=jT (top 29) 8
noncomputable abbrev zv:Stmt:=jT (top 29) 9
noncomputable abbrev qZ:Stmt:=jT (top 29) 12
noncomputable abbrev zw:Stmt:=jT (top 29) 2
noncomputable abbrev j7:Stmt:=top 11
noncomputable abbrev jA:Stmt:=jT (top 29) 5
noncomputable abbrev jB:Stmt:=top 12
noncomputable abbrev qJ:Stmt:=top 16
noncomputable abbrev qak:Stmt:=top 15
noncomputable abbrev qF:Stmt:=top 17
noncomputable abbrev zy:Stmt:=top 18
noncomputable abbrev zT:Stmt:=top 19
noncomputable abbrev qcA:Stmt:=top 36
noncomputable abbrev qbi:Stmt:=top 37
noncomputable abbrev qam:Stmt:=top 38
noncomputable abbrev jK:Stmt:=top 39
noncomputable abbrev jl:Stmt:=top 41
noncomputable abbrev qbj:Stmt:=top 40
noncomputable abbrev zU:Stmt:=top 43
noncomputable abbrev jS:Stmt:=top 44
noncomputable abbrev zz:Stmt:=top 45
noncomputable abbrev j8:Stmt:=top 46
noncomputable abbrev q8:Stmt:=top 21
noncomputable abbrev zW:Stmt:=top 22
noncomputable abbrev jL:Stmt:=top 20
noncomputable abbrev j9:Stmt:=top 13
noncomputable abbrev qan:Stmt:=top 47
noncomputable abbrev zK:Stmt:=top 48
noncomputable abbrev qca:Stmt:=top 49
end K25
namespace Hd
open PySem PySem.W PySem.Calls PyProof.Rows
variable{p:Program}{α:Type}
noncomputable def qei(c:String->Option Builtin)(p:Program)(w:World)(a:Nat)(b:Option Value):Nat->SharedT->Thread->Option SharedT
 | 0,_,_=>none
 | n+1,s,t=>match through t with
  | true=>some s
  | false=>match stepOk a b t with
   | false=>none
   | true=>match stepT (denote c) p w s t with
    | some (s',t')=>qei c p w a b n s' t'
    | none=>none
theorem qd2{e:String->Option Builtin}{w:World}{a:Nat}{b:Option Value}:∀{n:Nat} {s d:SharedT} {t:Thread},qei e p w a b n s t=some d->topRun e p w a b n s.abs t=some d.abs
 | 0,_,_,_,h=>by cases h
 | n+1,s,d,t,h=>by
  unfold qei at h;unfold topRun
  cases f:through t with
  | true=>rw[f] at h;cases h;rfl
  | false =>
   rw[f] at h
   cases g:stepOk a b t with
   | false=>rw[g] at h;cases h
   | true =>
    rw[g] at h
    cases c:stepT (denote e) p w s t with
    | none=>rw[c] at h;cases h
    | some r=>obtain⟨i,j⟩:=r;rw[c] at h;rw[stepT_spec c];show qd2 h
noncomputable def qcb:List Obj->Nat->BT->BT
 | [],_,t=>t
 | o::r,n,t=>qcb r (n+1) (t.ins n o)
noncomputable def qdr(P:Params)(a:OsState):SharedT:=⟨qcb (boot_heap P).objs.toList 0 .nil,(boot_heap P).objs.size,(boot_heap P).life,Array.mk [],boot_drawn,boot_toks,a⟩
theorem boot_abs(P:Params):absHeap (qcb (boot_heap P).objs.toList 0 .nil) (boot_heap P).objs.size (boot_heap P).life=boot_heap P:=by kernel_rfl
noncomputable def qdG(p q:Program)(Xt:Shared->Bool){α:Type}(Yf:Shared->α)(N:Nat)(w:World)(a:OsState):=match (boot_heap w.params).isNs mainGlobals&&(Array.mk []:Array GenState).size==0 with
 | true=>(qei treeTable p w (boot_heap w.params).objs.size ((boot_heap w.params).nsMap mainGlobals "__annotations__") N (qdr w.params a) (topStub p)).bind fun s=>match staticsOk (importedModules p.main.body) (boot_heap w.params) s.abs.heap&&namesBound p s.abs.heap&&gensDone s.abs&&laidKept (boot_heap w.params) s.abs.heap with
   | true=>some (openSeen q [] (importedModules p.main.body) Xt true s.abs,Yf s.abs)
   | false=>none
 | false=>none
noncomputable def lookS(p:Program)(N:Nat)(w:World)(a:OsState):Option Shared:=match (boot_heap w.params).isNs mainGlobals&&(Array.mk []:Array GenState).size==0 with
 | true=>(qei treeTable p w (boot_heap w.params).objs.size ((boot_heap w.params).nsMap mainGlobals "__annotations__") N (qdr w.params a) (topStub p)).bind fun s=>match staticsOk (importedModules p.main.body) (boot_heap w.params) s.abs.heap&&namesBound p s.abs.heap&&gensDone s.abs&&laidKept (boot_heap w.params) s.abs.heap with
   | true=>some s.abs
   | false=>none
 | false=>none
theorem lookT_map(p q:Program)(Xt:Shared->Bool)(Yf:Shared->α)(N:Nat)(w:World)(a:OsState):qdG p q Xt Yf N w a=(lookS p N w a).map fun s=>(openSeen q [] (importedModules p.main.body) Xt true s,Yf s):=by
 unfold qdG lookS
 cases (boot_heap w.params).isNs mainGlobals&&(Array.mk []:Array GenState).size==0 with
 | false=>rfl
 | true =>
  dsimp only
  cases qei treeTable p w (boot_heap w.params).objs.size ((boot_heap w.params).nsMap mainGlobals "__annotations__") N (qdr w.params a) (topStub p) with
  | none=>rfl
  | some s =>
   show(match _ with | true=>_ | false=>_)=Option.map _ (match _ with | true=>_ | false=>_);cases staticsOk (importedModules p.main.body) (boot_heap w.params) s.abs.heap&&namesBound p s.abs.heap&&gensDone s.abs&&laidKept (boot_heap w.params) s.abs.heap<;>rfl
theorem packs{b A B C D E Y:Type}{o:Option b}{f:b->A×B×C×D×E}{g:b->Y}{x:A×B×C×D×E}{y:Y}(h1:o.map (fun s=>((f s).1,(f s).2.1,(f s).2.2.1,(f s).2.2.2.1))=some (x.1,x.2.1,x.2.2.1,x.2.2.2.1))(h:o.map (fun s=>(f s).2.2.2.2)=some x.2.2.2.2)(c:o.map g=some y):o.map (fun s=>(f s,g s))=some (x,y):=by
 cases o with
 | none=>cases c
 | some s =>
  have a:=ym h1;have d:=ym h;have e:=ym c;have i:=congrArg Prod.fst a;have j:=congrArg (fun z=>z.2.1) a;have l:=congrArg (fun z=>z.2.2.1) a;have m:=congrArg (fun z=>z.2.2.2) a;show congrArg some (X2 (X2 i (X2 j (X2 l (X2 m d)))) e)
theorem left_of{q:Program}{Xt:Shared->Bool}{Yf:Shared->α}{Ya:World->α}{N:Nat}(e:opening p=plainProg p.main.scope.names)(n:Nat.ble 600 N=true)(f:∀ s,fenceModules? p s=some s)
  (h:∀ w a,qdG p q Xt Yf N w a=some (openGood q [],Ya w)):LeftO p q [] Xt Yf Ya N:=fun w=>by
 obtain⟨⟨m,l,d,k,a⟩,i,j⟩:=yn.mp (boot_open e n f w);obtain⟨rfl,rfl,rfl,rfl⟩:m=boot_heap w.params/\l=Array.mk []/\d=boot_drawn/\k=boot_toks:=by simpa using j
 have b:=h w a;unfold qdG at b;unfold openEnds;rw[i];show(topFrom treeTable p w N _).map _=_;unfold topFrom;dsimp only;split at b
 .rename_i z
  rw[z];obtain⟨s,o,c⟩:=Option.bind_eq_some_iff.mp b;have r:=qd2 o
  have g:(qdr w.params a).abs=⟨boot_heap w.params,Array.mk [],boot_drawn,boot_toks,a⟩:=by
   unfold qdr SharedT.abs;dsimp only;rw[boot_abs]
  rw[g] at r;dsimp only;rw[r];split at c
  .rename_i z2
   show((match staticsOk (importedModules p.main.body) (boot_heap w.params) s.abs.heap&&namesBound p s.abs.heap&&gensDone s.abs&&laidKept (boot_heap w.params) s.abs.heap with | true=>some s.abs | false=>none):Option Shared).map _=_;rw[z2];show c
  .cases c
 .cases b
end Hd
namespace K25
open PySem L2 PyProof.Rows PySem.W
noncomputable abbrev NN:Nat:=20000
noncomputable def Q:Program:=view PySem.Challenge.pw_onceroad_k25_whole_rows_lead_from_pairs [0,2,3,4,5,6,7,8,9,11,12,13,15,16,17,18,19,20,21,22,24,25,27,28,29,30,31,32,33,34,36,37,38,39,40,41,42,43,44,45,46,47,48,49]
noncomputable def en(P:Params)(t:Tok)(v:Value)(k:Str):DictEntry:=⟨PyData.keyHash P k,.str k t,v⟩
noncomputable def cO(t a b r:Nat)(x y z v:Value)(e u:Nat)(q n:Str):Obj:=⟨.type "code",none,.fields #[.str n t,.str q (t+1),.str "/claim/cut.py" (t+2),.int a 0,.int b 0,.int 0 0,.int 0 0,.int 3 0,.ref r,.bool true,.int 181 0,x,y,z,v,.ref e,.int u 0,.int a 0,.str "/claim/cut.py" (u+1)],#[]⟩
noncomputable def cE(t b a r:Nat)(x y z v:Value)(e u:Nat)(n:Str):Obj:=cO t b a r x y z v e u n n
noncomputable def fO(k c:Nat)(s:Stmt)(m q n:Str):Obj:=⟨.type "function",none,.func (fnOf n q (zI s) (jU s) (qg s) .none .none .none (.str m k) none (.ref c) .none),#[]⟩
noncomputable def fE(k c:Nat)(s:Stmt)(m n:Str):Obj:=fO k c s m n n
noncomputable def Kf(P:Params):Frag:=
 (nat_lit 2,(⟨.none,none,.dict #[] 0,#[]⟩:Obj)) ::
 (nat_lit 3,(⟨(.type "dict"),none,.dict #[en P 165 (.str "law_onceroad_k25_whole_rows_lead_from_pairs" 726) "__name__",en P 166 .none "__doc__",en P 167 .none "__package__",en P 168 (.builtin "__main__.__loader__#opaque") "__loader__",en P 169 .none "__spec__",en P 170 (.ref 6) "__annotations__",en P 171 (.ref 4) "__builtins__",en P 173 (.str "/claim/cut.py" 172) "__file__",en P 174 .none "__cached__",en P 193 (.ref 21) "_wall",en P 221 (.ref 38) "OnceError",en P 246 (.ref 58) "NoName",en P 271 (.ref 77) "Twice",en P 296 (.ref 96) "NoPlace",en P 321 (.ref 115) "NoTie",en P 346 (.ref 134) "TooMany",en P 371 (.ref 153) "NoPairs",en P 396 (.ref 172) "NoRow",en P 408 (.ref 181) "are_pairs",en P 418 (.ref 188) "partners_in",en P 427 (.ref 195) "are_alike",en P 439 (.ref 202) "is_row",en P 449 (.ref 209) "are_unlike_places",en P 455 (.ref 214) "goes_by_turns",en P 467 (.ref 221) "can_turn",en P 473 (.ref 226) "turned",en P 491 (.ref 233) "between",en P 497 (.ref 238) "near_between",en P 503 (.ref 243) "walked",en P 507 (.int 6 506) "LONGEST_NAME",en P 513 (.ref 248) "is_name",en P 517 (.int 14 516) "MOST_PLACES",en P 519 (.int 30 518) "MOST_TIES",en P 679 (.ref 375) "Web",en P 687 (.ref 386) "has_bit",en P 695 (.ref 393) "is_place",en P 704 (.ref 400) "are_two_places",en P 713 (.ref 407) "numbers_of",en P 725 (.ref 414) "near_of",en P 735 (.ref 421) "_law_at",en P 742 (.ref 428) "_law_box",en P 753 (.ref 435) "_law_take",en P 759 (.ref 440) "_law_names",en P 771 (.ref 447) "_law_web",en P 777 (.ref 452) "_law_more_ties",en P 786 (.ref 459) "_law_tied",en P 799 (.ref 466) "_law_pairs",en P 809 (.ref 473) "_law_partners",en P 820 (.ref 480) "_law_rising",en P 833 (.ref 487) "_law_flipped",en P 844 (.ref 494) "_law_gain",en P 850 (.ref 499) "_law_led",en P 863 (.ref 506) "law"] 53,#[]⟩:Obj)) ::
 (nat_lit 4,(⟨(.type "module"),(some 0),.plain,#[]⟩:Obj)) ::
 (nat_lit 180,cE 399 45 2 175 (.ref 176) .none (.ref 177) (.ref 178) 179 406 "are_pairs") ::
 (nat_lit 181,fE 397 180 j7 "onceroad.pairs" "are_pairs") ::
 (nat_lit 187,cE 409 55 2 182 (.ref 183) .none (.ref 184) (.ref 185) 186 416 "partners_in") ::
 (nat_lit 188,fE 397 187 jB "onceroad.pairs" "partners_in") ::
 (nat_lit 194,cE 419 63 3 189 (.ref 190) .none (.ref 191) (.ref 192) 193 425 "are_alike") ::
 (nat_lit 195,fE 397 194 j9 "onceroad.pairs" "are_alike") ::
 (nat_lit 201,cE 430 66 3 196 (.ref 197) .none (.ref 198) (.ref 199) 200 437 "is_row") ::
 (nat_lit 202,fE 428 201 qak "onceroad.rows" "is_row") ::
 (nat_lit 208,cE 440 71 2 203 (.ref 204) .none (.ref 205) (.ref 206) 207 447 "are_unlike_places") ::
 (nat_lit 209,fE 428 208 qJ "onceroad.rows" "are_unlike_places") ::
 (nat_lit 213,cE 450 80 3 210 (.ref 211) .none .none .none 212 453 "goes_by_turns") ::
 (nat_lit 214,fE 428 213 qF "onceroad.rows" "goes_by_turns") ::
 (nat_lit 220,cE 456 86 3 215 (.ref 216) .none (.ref 217) (.ref 218) 219 465 "can_turn") ::
 (nat_lit 221,fE 428 220 zy "onceroad.rows" "can_turn") ::
 (nat_lit 225,cE 468 93 3 222 (.ref 223) .none .none .none 224 471 "turned") ::
 (nat_lit 226,fE 428 225 zT "onceroad.rows" "turned") ::
 (nat_lit 232,cE 474 99 3 227 (.ref 228) .none (.ref 229) (.ref 230) 231 489 "between") ::
 (nat_lit 233,fE 428 232 jL "onceroad.rows" "between") ::
 (nat_lit 237,cE 492 111 3 234 (.ref 235) .none .none .none 236 495 "near_between") ::
 (nat_lit 238,fE 428 237 q8 "onceroad.rows" "near_between") ::
 (nat_lit 242,cE 498 118 2 239 (.ref 240) .none .none .none 241 501 "walked") ::
 (nat_lit 243,fE 428 242 zW "onceroad.rows" "walked") ::
 (nat_lit 247,cE 508 127 1 244 (.ref 245) .none .none .none 246 511 "is_name") ::
 (nat_lit 248,fE 504 247 zn "onceroad.names" "is_name") ::
 (nat_lit 261,cO 532 136 3 256 (.ref 257) .none (.ref 258) (.ref 259) 260 538 "Web.__init__" "__init__") ::
 (nat_lit 262,fO 514 261 zu "onceroad.webs" "Web.__init__" "__init__") ::
 (nat_lit 268,cO 541 141 1 263 (.ref 264) .none (.ref 265) (.ref 266) 267 545 "Web.places" "places") ::
 (nat_lit 269,fO 514 268 jP "onceroad.webs" "Web.places" "places") ::
 (nat_lit 275,cO 548 144 1 270 (.ref 271) .none (.ref 272) (.ref 273) 274 555 "Web.ties" "ties") ::
 (nat_lit 276,fO 514 275 zw "onceroad.webs" "Web.ties" "ties") ::
 (nat_lit 289,cO 565 155 2 284 (.ref 285) .none (.ref 286) (.ref 287) 288 570 "Web.has_place" "has_place") ::
 (nat_lit 290,fO 514 289 jj "onceroad.webs" "Web.has_place" "has_place") ::
 (nat_lit 296,cO 573 158 2 291 (.ref 292) .none (.ref 293) (.ref 294) 295 578 "Web.has_tie" "has_tie") ::
 (nat_lit 297,fO 514 296 jA "onceroad.webs" "Web.has_tie" "has_tie") ::
 (nat_lit 303,cO 581 161 2 298 (.ref 299) .none (.ref 300) (.ref 301) 302 586 "Web.number_of" "number_of") ::
 (nat_lit 304,fO 514 303 jk "onceroad.webs" "Web.number_of" "number_of") ::
 (nat_lit 310,cO 589 166 2 305 (.ref 306) .none (.ref 307) (.ref 308) 309 594 "Web.beside" "beside") ::
 (nat_lit 311,fO 514 310 jQ "onceroad.webs" "Web.beside" "beside") ::
 (nat_lit 317,cO 597 169 2 312 (.ref 313) .none (.ref 314) (.ref 315) 316 602 "Web.bits_beside" "bits_beside") ::
 (nat_lit 318,fO 514 317 qS "onceroad.webs" "Web.bits_beside" "bits_beside") ::
 (nat_lit 324,cO 605 172 3 319 (.ref 320) .none (.ref 321) (.ref 322) 323 612 "Web.tied" "tied") ::
 (nat_lit 325,fO 514 324 zv "onceroad.webs" "Web.tied" "tied") ::
 (nat_lit 343,cO 629 182 2 340 (.ref 341) .none .none .none 342 632 "Web.names_in" "names_in") ::
 (nat_lit 344,fO 514 343 qZ "onceroad.webs" "Web.names_in" "names_in") ::
 (nat_lit 374,(⟨(.type "dict"),none,.dict #[en P 527 (.str "onceroad.webs" 514) "__module__",en P 531 (.int 134 530) "__firstlineno__",en P 540 (.ref 262) "__init__",en P 547 (.ref 269) "places",en P 557 (.ref 276) "ties",en P 564 (.ref 283) "how_many",en P 572 (.ref 290) "has_place",en P 580 (.ref 297) "has_tie",en P 588 (.ref 304) "number_of",en P 596 (.ref 311) "beside",en P 604 (.ref 318) "bits_beside",en P 614 (.ref 325) "tied",en P 621 (.ref 332) "pieces",en P 628 (.ref 339) "told",en P 634 (.ref 344) "names_in",en P 642 (.ref 351) "without",en P 650 (.ref 358) "with_place",en P 659 (.ref 365) "with_tie",en P 668 (.ref 372) "without_tie",en P 672 (.ref 373) "__static_attributes__",en P 674 (.ref 376) "__dict__",en P 676 (.ref 377) "__weakref__",en P 677 .none "__doc__"] 4,#[]⟩:Obj)) ::
 (nat_lit 375,(⟨(.type "type"),none,.cls { name:="Web",bases:=[(.type "object")],mro:=[(.ref 375),(.type "object")],ns:=374,qualname:="Web",hasDict:=true,slotNames:=[],subclasses:=[],abstract:=false,collection:=none,hasDel:=false },#[none,none,(some (.str "Web" 520)),(some (.str "Web" 528)),(some (.builtin "object.__new__")),(some (.bool true))]⟩:Obj)) ::
 (nat_lit 385,cE 680 196 2 380 (.ref 381) .none (.ref 382) (.ref 383) 384 685 "has_bit") ::
 (nat_lit 386,fE 514 385 zP "onceroad.webs" "has_bit") ::
 (nat_lit 392,cE 688 198 2 387 (.ref 388) .none (.ref 389) (.ref 390) 391 693 "is_place") ::
 (nat_lit 393,fE 514 392 zt "onceroad.webs" "is_place") ::
 (nat_lit 399,cE 696 200 2 394 (.ref 395) .none (.ref 396) (.ref 397) 398 702 "are_two_places") ::
 (nat_lit 400,fE 514 399 q9 "onceroad.webs" "are_two_places") ::
 (nat_lit 406,cE 705 205 1 401 (.ref 402) .none (.ref 403) (.ref 404) 405 711 "numbers_of") ::
 (nat_lit 407,fE 514 406 jO "onceroad.webs" "numbers_of") ::
 (nat_lit 413,cE 714 218 2 408 (.ref 409) .none (.ref 410) (.ref 411) 412 723 "near_of") ::
 (nat_lit 414,fE 514 413 zQ "onceroad.webs" "near_of") ::
 (nat_lit 420,cE 728 235 2 415 (.ref 416) .none (.ref 417) (.ref 418) 419 733 "_law_at") ::
 (nat_lit 421,fE 726 420 qcA "law_onceroad_k25_whole_rows_lead_from_pairs" "_law_at") ::
 (nat_lit 427,cE 736 239 1 422 (.ref 423) .none (.ref 424) (.ref 425) 426 740 "_law_box") ::
 (nat_lit 428,fE 726 427 qbi "law_onceroad_k25_whole_rows_lead_from_pairs" "_law_box") ::
 (nat_lit 434,cE 743 241 2 429 (.ref 430) .none (.ref 431) (.ref 432) 433 751 "_law_take") ::
 (nat_lit 435,fE 726 434 qam "law_onceroad_k25_whole_rows_lead_from_pairs" "_law_take") ::
 (nat_lit 439,cE 754 251 2 436 (.ref 437) .none .none .none 438 757 "_law_names") ::
 (nat_lit 440,fE 726 439 jK "law_onceroad_k25_whole_rows_lead_from_pairs" "_law_names") ::
 (nat_lit 446,cE 760 268 2 441 (.ref 442) .none (.ref 443) (.ref 444) 445 769 "_law_web") ::
 (nat_lit 447,fE 726 446 qbj "law_onceroad_k25_whole_rows_lead_from_pairs" "_law_web") ::
 (nat_lit 451,cE 772 276 3 448 (.ref 449) .none .none .none 450 775 "_law_more_ties") ::
 (nat_lit 452,fE 726 451 jl "law_onceroad_k25_whole_rows_lead_from_pairs" "_law_more_ties") ::
 (nat_lit 465,cE 787 285 2 460 (.ref 461) .none (.ref 462) (.ref 463) 464 797 "_law_pairs") ::
 (nat_lit 466,fE 726 465 zU "law_onceroad_k25_whole_rows_lead_from_pairs" "_law_pairs") ::
 (nat_lit 472,cE 800 296 1 467 (.ref 468) .none (.ref 469) (.ref 470) 471 807 "_law_partners") ::
 (nat_lit 473,fE 726 472 jS "law_onceroad_k25_whole_rows_lead_from_pairs" "_law_partners") ::
 (nat_lit 479,cE 810 302 2 474 (.ref 475) .none (.ref 476) (.ref 477) 478 818 "_law_rising") ::
 (nat_lit 480,fE 726 479 zz "law_onceroad_k25_whole_rows_lead_from_pairs" "_law_rising") ::
 (nat_lit 486,cE 821 309 3 481 (.ref 482) .none (.ref 483) (.ref 484) 485 831 "_law_flipped") ::
 (nat_lit 487,fE 726 486 j8 "law_onceroad_k25_whole_rows_lead_from_pairs" "_law_flipped") ::
 (nat_lit 493,cE 834 320 2 488 (.ref 489) .none (.ref 490) (.ref 491) 492 842 "_law_gain") ::
 (nat_lit 494,fE 726 493 qan "law_onceroad_k25_whole_rows_lead_from_pairs" "_law_gain") ::
 (nat_lit 498,cE 845 325 5 495 (.ref 496) .none .none .none 497 848 "_law_led") ::
 (nat_lit 499,fE 726 498 zK "law_onceroad_k25_whole_rows_lead_from_pairs" "_law_led") ::
 (nat_lit 505,cE 851 342 1 500 (.ref 501) .none (.ref 502) (.ref 503) 504 861 "law") ::
 (nat_lit 506,fE 726 505 qca "law_onceroad_k25_whole_rows_lead_from_pairs" "law") ::
 []
noncomputable def ks:LI:=[2,3,4,180,181,187,188,194,195,201,202,208,209,213,214,220,221,225,226,232,233,237,238,242,243,247,248,261,262,268,269,275,276,289,290,296,297,303,304,310,311,317,318,324,325,343,344,374,375,385,386,392,393,399,400,406,407,413,414,420,421,427,428,434,435,439,440,446,447,451,452,465,466,472,473,479,480,486,487,493,494,498,499,505,506]
theorem ks_eq:∀ P,ks=(Kf P).map (·.1):=fun P=>by kernel_rfl
noncomputable abbrev Hk:Hook:=L2.hookT Kf ks ks_eq 228 (tabObj #[])
noncomputable abbrev Xt(s:Shared):Bool:=xlAt Q [] s&&recOk [] s
noncomputable abbrev sn(s:Shared):=openSeen Q [] (importedModules PySem.Challenge.pw_onceroad_k25_whole_rows_lead_from_pairs.main.body) Xt true s
noncomputable def runA(w:World)(a:OsState):=(Hd.lookS PySem.Challenge.pw_onceroad_k25_whole_rows_lead_from_pairs NN w a).map fun s=>((sn s).1,(sn s).2.1,(sn s).2.2.1,(sn s).2.2.2.1)
noncomputable def runB(w:World)(a:OsState):=(Hd.lookS PySem.Challenge.pw_onceroad_k25_whole_rows_lead_from_pairs NN w a).map fun s=>(sn s).2.2.2.2
noncomputable def runC(w:World)(a:OsState):=(Hd.lookS PySem.Challenge.pw_onceroad_k25_whole_rows_lead_from_pairs NN w a).map fun s=>(228::ks).map s.heap.get?
noncomputable def gdA(_:World)(_:OsState):=some ((openGood Q []).1,(openGood Q []).2.1,(openGood Q []).2.2.1,(openGood Q []).2.2.2.1)
noncomputable def gdB(_:World)(_:OsState):=some (openGood Q []).2.2.2.2
noncomputable def gdC(w:World)(_:OsState):=some (some (tabObj #[])::(Kf w.params).map fun p=>some p.2)
noncomputable def tag{a:Type}(f g:World->OsState->a):Bool:=true
theorem tag1:(tag runA gdA&&(tag runB gdB&&tag runC runC))=true:=by k_qdec
theorem hA1(w:World)(a:OsState):runA w a=gdA w a:=by
 rw[PySem.W.Fast.te294704361440087669,PySem.W.Fast.te1291714266704895451]
 kernel_rfl
theorem hB1(w:World)(a:OsState):runB w a=gdB w a:=by
 rw[PySem.W.Fast.te8280229886809627318,PySem.W.Fast.te11266103891760161396]
 kernel_rfl
theorem hC1(w:World)(a:OsState):runC w a=gdC w a:=by
 rw[PySem.W.Fast.te12976103139643038799]
 kernel_rfl
theorem hl:LeftO PySem.Challenge.pw_onceroad_k25_whole_rows_lead_from_pairs Q [] Xt (Hook.obs Hk) (Hook.val Hk) NN:=Hd.left_of (by kernel_rfl) (by decide) (fun s=>by kernel_rfl) fun w a=>(Hd.lookT_map ..).trans (Hd.packs (hA1 w a) (hB1 w a) (hC1 w a))
end K25
namespace L2
open PySem PySem.Spec PyProof.Rows
variable{A:Around}{C a b dx it:Addr}{CX:CXT}{D:Ends}{E:Value->Shared->Prop}{H:Hp}{M:Model}{N ps:LS}{P:Program}{X:Cx}{base h:Heap}{body:List Stmt}{c e tg:Expr}{ch fp:LI}{d':Drawn}{es:List Expr}{f:Value->Value->Sem Value}{g:TG}{g':Array GenState}{i j n t':Nat}{kindOf:Str->Option NameKind}{kw:List (Str×Value)}{lo:Int}{mA mg:Str->Option Value}{o:HO}{op op':CmpOp}{outer:List Env}{pins:List (Addr×Obj)}{qual x:Str}{r r':R2}{s s':Shared}{sc scope:Scope}{t te:TE}{tb:TS}{tc:TT}{u:Value}{us:List Value}{v y:V}{vs xs:List V}{w:World}{α:Type}{σ:St}
noncomputable abbrev Key:=Sum Int Str
noncomputable def qbV:Key->Value->Bool
 | .inl k,v=>Value.isInt k v
 | .inr x,v=>Value.isStrOf x v
noncomputable def keyH(w:World):Key->Int
 | .inl k=>hashInt k
 | .inr x=>hashStr w x
theorem qE:∀{k:Key} {v:Value},qbV k v=true->(∃ i t,k=Sum.inl i/\v=Value.int i t)\/(∃ x t,k=Sum.inr x/\v=Value.str x t)
 | .inl i,v,h=>by
  obtain⟨t,e⟩:=Value.isInt_shape (k:=i) (v:=v) h;show .inl ⟨i,t,rfl,e⟩
 | .inr x,v,h=>by
  obtain⟨t,e⟩:=Value.isStrOf_shape (x:=x) (v:=v) h;show .inr ⟨x,t,rfl,e⟩
theorem keyIs_int(i:Int)(t:Tok):qbV (.inl i) (.int i t)=true:=by simp[qbV,Value.isInt]
theorem keyIs_str(x:Str)(t:Tok):qbV (.inr x) (.str x t)=true:=by simp[qbV,Value.isStrOf]
theorem key_ll(a b:Int):decide ((Sum.inl a:Key)=Sum.inl b)=(a==b):=by
 by_cases e:a=b
 .subst e;simp
 .have h:¬ (Sum.inl a:Key)=Sum.inl b:=fun q=>e (Sum.inl.inj q);rw[yl h];show(Yy.mpr e).symm
theorem key_rr(a b:Str):decide ((Sum.inr a:Key)=Sum.inr b)=decide (a=b):=by
 by_cases e:a=b
 .subst e;simp
 .have h:¬ (Sum.inr a:Key)=Sum.inr b:=fun q=>e (YW q);rw[yl h,yl e]
theorem key_lr(a:Int)(b:Str):decide ((Sum.inl a:Key)=Sum.inr b)=false:=yl (fun q=>nomatch q)
theorem key_rl(a:Str)(b:Int):decide ((Sum.inr a:Key)=Sum.inl b)=false:=yl (fun q=>nomatch q)
noncomputable def qI(prog:Program)(w:World):PySem.KeyKind prog w Key where
 is:=qbV
 hash:=keyH w
 inj:=fun v a b c hb=>by
  rcases qE c with⟨i,t,rfl,rfl⟩ | ⟨x,t,rfl,rfl⟩
  .rcases qE hb with⟨j,u,rfl,e⟩ | ⟨y,u,rfl,e⟩
   .injection e with e1 _;rw[e1]
   .show nomatch e
  .rcases qE hb with⟨j,u,rfl,e⟩ | ⟨y,u,rfl,e⟩
   .show nomatch e
   .injection e with e1 _;rw[e1]
 byValue:=fun k v h=>by
  rcases qE h with⟨i,t,rfl,rfl⟩ | ⟨x,t,rfl,rfl⟩<;>rfl
 pyHash:=fun hv h=>by
  rcases qE hv with⟨i,t,rfl,rfl⟩ | ⟨x,t,rfl,rfl⟩
  .show wpAny_pyHash_int h
  .show wpAny_pyHash_str h
 eqBool:=fun d hv h=>by
  rcases qE d with⟨i,t,rfl,rfl⟩ | ⟨x,t,rfl,rfl⟩
  .rcases qE hv with⟨j,u,rfl,rfl⟩ | ⟨y,u,rfl,rfl⟩
   .rw [key_ll] at h;show wpAny_eqBool_int h
   .rw [key_lr] at h;show SeqAt.EqAt.int_str i t y u _ _ _ _ h
  .rcases qE hv with⟨j,u,rfl,rfl⟩ | ⟨y,u,rfl,rfl⟩
   .rw [key_rl] at h;show SeqAt.EqAt.str_int x t j u _ _ _ _ h
   .rw [key_rr] at h;show wpAny_eqBool_str h
 «strs»:=fun k x t v h=>by
  rcases qE h with⟨i,u,rfl,e⟩ | ⟨y,u,rfl,e⟩
  .show nomatch e
  .injection e with e1 _
   subst e1;cases v<;>rfl
theorem mixKind_int(prog:Program)(w:World)(i:Int)(t:Tok):(qI prog w).is (.inl i) (.int i t)=true:=keyIs_int i t
theorem mixKind_str(prog:Program)(w:World)(x:Str)(t:Tok):(qI prog w).is (.inr x) (.str x t)=true:=keyIs_str x t
inductive V where
 | non | bl (b:Bool) | int (i:Int) | str (x:Str) | byt (b:Array UInt8) | flt (b:UInt64) | ref (a:Addr) | ty (n:String)
 deriving DecidableEq
def RelV:V->Value->Prop
 | .non,u=>u=Value.none
 | .bl b,u=>u=Value.bool b
 | .int i,u=>∃ t,u=Value.int i t
 | .str x,u=>∃ t,u=Value.str x t
 | .byt b,u=>∃ t,u=Value.bytes b t
 | .flt b,u=>∃ t,u=Value.float b t
 | .ref a,u=>u=Value.ref a
 | .ty n,u=>u=Value.type n
abbrev Vals:List V->List Value->Prop:=Paired RelV
theorem Vals.length(r:Vals xs us):xs.length=us.length:=Xp r
theorem Vals.get:∀{xs:List V} {us:List Value} {i:Nat} {x:V},Vals xs us->xs[i]?=some x->∃ u,us[i]?=some u/\RelV x u
 | _,_,_,_,.nil,e=>by simp at e
 | _,_,0,_,.cons r _,e=>by simp at e;subst e;show⟨_,rfl,r⟩
 | _,_,i+1,x,.cons _ t,e=>by
  obtain⟨u,h1,a⟩:=Vals.get (i:=i) (x:=x) t (by simpa using e);show⟨u,by simpa using h1,a⟩
theorem Vals.set{x:V}(r:RelV x u):∀{xs:List V} {us:List Value} (i:Nat),Vals xs us->Vals (xs.set i x) (us.set i u)
 | _,_,_,.nil=>.nil
 | _,_,0,.cons _ t=>.cons r t
 | _,_,i+1,.cons q t=>.cons q (Vals.set r i t)
theorem Vals.append:∀{xs ys:List V} {us a:List Value},Vals xs us->Vals ys a->Vals (xs++ys) (us++a)
 | _,_,_,_,.nil,s=>s
 | _,_,_,_,.cons r t,s=>.cons r (Vals.append t s)
theorem Vals.take:∀{xs:List V} {us:List Value} (n:Nat),Vals xs us->Vals (xs.take n) (us.take n)
 | _,_,0,_=>.nil
 | _,_,_+1,.nil=>.nil
 | _,_,n+1,.cons r t=>.cons r (Vals.take n t)
theorem Vals.drop:∀{xs:List V} {us:List Value} (n:Nat),Vals xs us->Vals (xs.drop n) (us.drop n)
 | _,_,0,r=>r
 | _,_,_+1,.nil=>.nil
 | _,_,n+1,.cons _ t=>Vals.drop n t
def RelO:Option V->Option Value->Prop
 | some v,some u=>RelV v u
 | none,none=>True
 | _,_=>False
def KV{a:Type}:List (a×V)->List (a×Value)->Prop:=Paired fun(p:a×V) (q:a×Value)=>p.1=q.1/\RelV p.2 q.2
noncomputable def kV:Key->V
 | .inl i=>.int i
 | .inr x=>.str x
inductive HO where
 /-- a list -/
 | lst (xs:List V)
 /-- a tuple (never changes) -/
 | tup (xs:List V)
 /-- a dict whose keys are ints and texts;one whose keys are tuples of ints and texts (the empty one is both) -/
 | dK (kvs:List (Key×V)) | dT (kvs:List (List Key×V))
 /-- a set of ints: its members,its size -/
 | set (S:Int->Bool) (n:Nat)
 /-- an instance of the class at C,its dict at dx,its attributes -/
 | ins (C dx:Addr) (fs:List (Str×V))
 /-- the dict of the instance at x -/
 | own (x:Addr)
 /-- the dict of an exception -/
 | xd (fs:List (Str×V))
 /-- a bound method,f of x -/
 | met (f x:Addr)
 /-- a range object lo,lo+1,.. below hi -/
 | rng (lo hi:Int)
 /-- a thing that is known to the object (the script;a dict while a loop walks it): read,never written while it is so -/
 | frz (o:Obj) (u:HO)
 /-- a code object's table -/
 | tbl (ps:Array Value)
 /-- any other thing,by what is true of its one object (a def of one's own: SetO a S n:=HO.ext fun h=>..) -/
 | ext (φ:Heap->Prop)
noncomputable abbrev Hp:=Addr->Option HO
noncomputable def upd(H:Hp)(a:Addr)(o:HO):Hp:=fun b=>if b=a then some o else H b
theorem qb:upd H a o a=some o:=by unfold upd;rw[yF rfl]
theorem qh(h:b≠a):upd H a o b=H b:=by unfold upd;rw[yz h]
theorem jd{u:HO}(h:H a=some o)(h':H b=some u)(d:o≠u):a≠b:=by
 intro e;subst e;rw[h] at h';show d (ym h')
theorem qA(h:H a=some o)(h':H b=none):a≠b:=by
 intro e;subst e;rw[h] at h';cases h'
section
variable(P:Program)(w:World)
def ObjOk(H:Hp)(h:Heap)(a:Addr):HO->Prop
 | .lst xs=>xs.length<=sizeLine/\∃(b:List Value) (n:Nat),Vals xs b/\h.get? a=some { cls:=.type "list",data:=.seq b.toArray n }
 | .tup xs=>xs.length<=sizeLine/\∃ b:List Value,Vals xs b/\IsTup h a b.toArray
 | .dK kvs=>kvs.length<=sizeLine/\(a==sysModules)=false/\∃ vs,KV kvs vs/\h.DictOf (qI P w) a vs
 | .dT kvs=>kvs.length<=sizeLine/\(a==sysModules)=false/\∃ xs:List (List Key×Addr×Value),
   Paired (fun(p:List Key×V) (q:List Key×Addr×Value)=>p.1=q.1/\H q.2.1=some (.tup (p.1.map kV))/\RelV p.2 q.2.2) kvs xs /\
   ∃ o es ep,h.get? a=some o/\o.ExactDict/\o.data=.dict es ep/\es.toList=xs.map (entryOfKey (tupleKind (qI P w)))/\(xs.map (·.1)).Nodup
 | .set S n=>h.SetOf (intKind P w) a S n
 | .ins C dx fs=>H dx=some (.own a)/\fs.length<=1000/\dx≠a/\h.get? a=some (PySem.W.instObj C dx) /\
   ∃ mA,h.Ns1 dx mA/\(∀ f,RelO (fs.lookup f) (mA f))/\PySem.Within mA (fs.map (·.1))
 | .own _=>∃ o,h.get? a=some o
 | .xd fs=>∃ mA,h.Ns1 a mA/\∀ f,RelO (fs.lookup f) (mA f)
 | .rng lo hi=>∃ t u v,h.get? a=some { cls:=.type "range",data:=.fields #[.int lo t,.int hi u,.int 1 v] }
 | .frz o u=>h.get? a=some o/\ObjOk H h a u
 | .tbl ps=>h.get? a=some { cls:=.none,data:=.fields ps }
 | .met f x=>h.get? a=some (PySem.W.methodObj (.ref f) (.ref x))
 | .ext φ=>φ h/\(∃ o,h.get? a=some o)/\∀ h1 c:Heap,φ h1->(∀ o,h1.get? a=some o->c.get? a=some o)->φ c
def HOk(H:Hp)(h:Heap):Prop:=∀ a o,H a=some o->ObjOk P w H h a o
end
section
variable{P:Program}{w:World}{H H':Hp}{h h':Heap}{a:Addr}{o:HO}
theorem ObjOk.lt(x:ObjOk P w H h a o):a<h.objs.size:=by
 cases o with
 | lst xs=>obtain⟨_,_,_,_,e⟩:=x;show yD e
 | tup xs=>obtain⟨_,_,_,p⟩:=x;show p.lt
 | dK kvs=>obtain⟨_,_,_,_,o,_,_,e,_⟩:=x;show yD e
 | dT kvs=>obtain⟨_,_,_,_,o,_,_,e,_⟩:=x;show yD e
 | set S n=>obtain⟨o,_,_,_,e,_⟩:=x;show yD e
 | ins C dx fs=>obtain⟨_,_,_,e,_⟩:=x;show yD e
 | own y=>obtain⟨_,e⟩:=x;show yD e
 | xd fs=>obtain⟨_,⟨_,_,_,e,_⟩,_⟩:=x;show yD e
 | rng lo hi=>obtain⟨_,_,_,e⟩:=x;show yD e
 | frz ob u=>obtain⟨e,_⟩:=x;show yD e
 | tbl ps=>show yD (show h.get? a=some _ from x)
 | met f y=>show yD (show h.get? a=some _ from x)
 | ext φ=>obtain⟨_,⟨_,e⟩,_⟩:=x;show yD e
theorem Paired.mapP{e:Type}{F G:α->e->Prop}:∀{c:List α} {d:List e},Paired F c d->(∀ a b,F a b->G a b)->Paired G c d
 | _,_,.nil,_=>.nil
 | _,_,.cons r t,f=>.cons (f _ _ r) (Paired.mapP t f)
theorem ObjOk.stay(x:ObjOk P w H h a o)(k:∀ b u,(b=a\/H b=some (.own a))->h.get? b=some u->h'.get? b=some u)
  (l:∀ b,H b=some (.own a)->H' b=some (.own a)) (m:∀ b xs,H b=some (.tup xs)->H' b=some (.tup xs)):ObjOk P w H' h' a o:=by
 induction o with
 | lst xs=>obtain⟨z,i,n,r,e⟩:=x;show⟨z,i,n,r,k _ _ (.inl rfl) e⟩
 | tup xs=>obtain⟨z,i,r,g,e,c⟩:=x;show⟨z,i,r,g,k _ _ (.inl rfl) e,c⟩
 | dK kvs=>obtain⟨z,y,vs,r,g,es,ep,e,c⟩:=x;show⟨z,y,vs,r,g,es,ep,k _ _ (.inl rfl) e,c⟩
 | dT kvs =>
  obtain⟨z,y,xs,r,g,es,ep,e,c⟩:=x;show⟨z,y,xs,Paired.mapP r fun p q z=>⟨z.1,m _ _ z.2.1,z.2.2⟩,g,es,ep,k _ _ (.inl rfl) e,c⟩
 | set S n=>obtain⟨g,es,ep,t,e,c⟩:=x;show⟨g,es,ep,t,k _ _ (.inl rfl) e,c⟩
 | ins C dx fs =>
  obtain⟨d,z,ne,e,mA,⟨od,es,ep,j,c⟩,r⟩:=x;show⟨l _ d,z,ne,k _ _ (.inl rfl) e,mA,⟨od,es,ep,k _ _ (.inr d) j,c⟩,r⟩
 | own y=>obtain⟨g,e⟩:=x;show⟨g,k _ _ (.inl rfl) e⟩
 | xd fs=>obtain⟨mA,⟨od,es,ep,e,c⟩,r⟩:=x;show⟨mA,⟨od,es,ep,k _ _ (.inl rfl) e,c⟩,r⟩
 | rng lo hi=>obtain⟨t,u,v,e⟩:=x;show⟨t,u,v,k _ _ (.inl rfl) e⟩
 | frz g u ih=>obtain⟨e,q⟩:=x;show⟨k _ _ (.inl rfl) e,ih q⟩
 | tbl ps =>
  have e:h.get? a=some { cls:=.none,data:=.fields ps }:=x;show h'.get? a=some { cls:=.none,data:=.fields ps };show k a _ (.inl rfl) e
 | met f y =>
  have e:h.get? a=some (PySem.W.methodObj (.ref f) (.ref y)):=x;show h'.get? a=some (PySem.W.methodObj (.ref f) (.ref y));show k a _ (.inl rfl) e
 | ext φ=>obtain⟨p,⟨o,e⟩,st⟩:=x;show⟨st _ _ p fun o q=>k _ _ (.inl rfl) q,⟨o,k _ _ (.inl rfl) e⟩,st⟩
theorem HOk.lt(x:HOk P w H h)(e:H a=some o):a<h.objs.size:=(x a o e).lt
theorem HOk.fresh(x:HOk P w H h)(e:h.objs.size<=a):H a=none:=by
 cases q:H a with
 | none=>rfl
 | some u=>show absurd (yj (x.lt q) e) (Yk _)
theorem HOk.kept(x:HOk P w H h)(k:∀ b u,h.get? b=some u->h'.get? b=some u):HOk P w H h':=fun a o e =>
 (x a o e).stay (fun b u _ q=>k b u q) (fun _ q=>q) fun _ _ q=>q
theorem HOk.laid(x:HOk P w H h)(k:∀ b u,h.get? b=some u->h'.get? b=some u)(f:h.objs.size<=a)(new:ObjOk P w (upd H a o) h' a o):HOk P w (upd H a o) h':=fun b u e=>by
 have d:=x.fresh f;by_cases hb:b=a
 .subst hb;rw[qb] at e;cases e;show new
 .rw [qh hb] at e;show(x b u e).stay (fun c v _ q=>k c v q) (fun c q=>by rw[qh (qA q d)];show q) fun c xs q=>by rw[qh (qA q d)];show q
end
def Rd(H:Hp)(a:Addr)(u:HO):Prop:=H a=some u\/∃ o,H a=some (.frz o u)
theorem Rd.ok{u:HO}(r:Rd H a u)(x:HOk P w H h):ObjOk P w H h a u:=by
 rcases r with r | ⟨o,r⟩
 .show x a u r
 .obtain⟨_,q⟩:=x a _ r;show q
def Mut:Option HO->Prop
 | some (.lst _)=>True
 | some (.dK _)=>True
 | some (.dT _)=>True
 | some (.set _ _)=>True
 | some (.ins _ _ _)=>True
 | some (.ext _)=>True
 | _=>False
section
variable{P:Program}{w:World}{H:Hp}{h h':Heap}{x e:Addr}{o':HO}
theorem HOk.write(ok:HOk P w H h)(g:Mut (H x))(j:e=x\/H e=some (.own x))(k:∀ b u,b≠e->h.get? b=some u->h'.get? b=some u)(i:∃ u,h'.get? e=some u)
  (new:ObjOk P w (upd H x o') h' x o'):HOk P w (upd H x o') h':=fun b u q=>by
 have d:∀ c y,H c=some (.own y)->c≠x:=fun c y r z=>by subst z;rw[r] at g;show g
 have f:∀ c xs,H c=some (.tup xs)->c≠x:=fun c xs r z=>by subst z;rw[r] at g;show g
 by_cases hb:b=x
 .subst hb;rw[qb] at q;cases q;show new
 .rw [qh hb] at q;by_cases a:b=e
  .have l:H b=some (.own x):=by
    rcases j with z | z
    .show absurd (a.trans z) hb
    .rw [a];show z
   rw[q] at l;cases l;obtain⟨v,hv⟩:=i;show⟨v,by rw[a];show hv⟩
  .show(ok b u q).stay (fun c v hc r=>k c v ?_ r) (fun c r=>by rw[qh (d c b r)];show r) fun c xs r=>by rw[qh (f c xs r)];show r
   rcases hc with rfl | hc
   .show a
   .rintro rfl;rcases j with z | z
    .show d c b hc z
    .rw [hc] at z;cases z;show hb rfl
end
structure Un(fs ex:LI)(H H':Hp)(h h':Heap):Prop where
 keep:∀ b o,h.get? b=some o->H b=none->b∉fs->b∉ex->h'.get? b=some o
 slot:∀ b o,h.get? b=some o->H b=none->b∈fs->b∉ex->∃ sl,h'.get? b=some { o with slots:=sl }
 free:∀ b o,h.get? b=some o->H b=none->b∉ex->H' b=none
 there:∀ b o,h.get? b=some o->b∉ex->∃ o',h'.get? b=some o'
 tups:∀ b xs,H b=some (.tup xs)->H' b=some (.tup xs)
 frzs:∀ b o u,H b=some (.frz o u)->H' b=some (.frz o u)
 tbls:∀ b ps,H b=some (.tbl ps)->∃ more,H' b=some (.tbl (ps++more))
section
variable{fs fs' ex ex':LI}{H H1 H2:Hp}{h h1 h2 h':Heap}{a x e:Addr}{o:HO}
theorem Un.any(u:Un fs ex H H1 h h1){a:Obj}(q:h.get? b=some a)(n:H b=none)(c:b∉ex):∃ d,h1.get? b=some { a with slots:=d }:=by
 by_cases hb:b∈fs
 .show u.slot b a q n hb c
 .show⟨a.slots,u.keep b a q n hb c⟩
theorem Un.kept(k:∀ b u,h.get? b=some u->h'.get? b=some u):Un fs ex H H h h':=
 ⟨fun b a q _ _ _=>k b a q,fun b a q _ _ _=>⟨a.slots,k b a q⟩,fun _ _ _ n _=>n,fun b a q _=>⟨a,k b a q⟩,fun _ _ q=>q,fun _ _ _ q=>q,fun _ ps q=>⟨#[],by rw[q];simp⟩⟩
theorem Un.refl:Un fs ex H H h h:=Un.kept fun _ _ q=>q
theorem Un.laid(k:∀ b u,h.get? b=some u->h'.get? b=some u)(d:h.objs.size<=a)(c:H a=none):Un fs ex H (upd H a o) h h' where
 keep:=fun b u q _ _ _=>k b u q
 slot:=fun b u q _ _ _=>⟨u.slots,k b u q⟩
 free:=fun b u q n _=>by rw[qh (yy (yj (yD q) d))];show n
 there:=fun b u q _=>⟨u,k b u q⟩
 tups:=fun b xs q=>by rw[qh (qA q c)];show q
 frzs:=fun b u xs q=>by rw[qh (qA q c)];show q
 tbls:=fun b ps q=>⟨#[],by rw[qh (qA q c),q];simp⟩
theorem Un.write(c:Mut (H x))(i:e=x\/H e=some (.own x))(k:∀ b u,b≠e->h.get? b=some u->h'.get? b=some u)(d:∃ u,h'.get? e=some u):Un fs ex H (upd H x o) h h':=by
 have g:∀ b,H b=none->b≠x:=fun b n z=>by subst z;rw[n] at c;show c
 have hb:∀ b,H b=none->b≠e:=fun b n z=>by
  subst z;rcases i with r | r
  .show g b n r
  .rw [n] at r;cases r
 have f:∀ b u,H b=some u->¬ Mut (some u)->b≠x:=fun b u q j z=>by subst z;rw[q] at c;show j c
 show⟨fun b u q n _ _=>k b u (hb b n) q,fun b u q n _ _=>⟨u.slots,k b u (hb b n) q⟩,fun b u q n _=>by rw[qh (g b n)];show n,fun b u q _=>?_,
  fun b xs q=>by rw[qh (f b _ q fun z=>z)];show q,fun b u xs q=>by rw[qh (f b _ q fun z=>z)];show q,fun b ps q=>⟨#[],by rw[qh (f b _ q fun z=>z),q];simp⟩⟩
 by_cases a:b=e
 .subst a;show d
 .show⟨u,k b u a q⟩
end
noncomputable def trk(h:Heap)(H:Hp):LI:=(List.range h.objs.size).filter fun a=>(H a).isSome
noncomputable def qcc(h:Heap)(H:Hp):Heap:=PySem.W.hideAll h (trk h H)
theorem qbo(h:Heap)(H:Hp):(qcc h H).objs.size=h.objs.size:=PySem.W.hideAll_size _ _
theorem qcd{o:Obj}(e:h.get? b=some o)(n:H b=none):(qcc h H).get? b=some o:=
 PySem.W.hideAll_get _ e fun a=>by
  have q:(H b).isSome=true:=(yp.mp a).2;rw[n] at q;simp at q
theorem qcP{o:Obj}(e:(qcc h H).get? b=some o):h.get? b=some o/\H b=none:=by
 have a:h.get? b=some o:=PySem.W.of_hideAll (trk h H) e;show⟨a,?_⟩
 cases q:H b with
 | none=>rfl
 | some x =>
  have c:b∈trk h H:=yp.mpr ⟨YY.mpr (yD a),by simp[q]⟩;have z:(qcc h H).get? b=none:=PySem.W.hideAll_none (trk h H) c;rw[z] at e;cases e
noncomputable def allNews(g h:Heap)(L:Addr):List (Addr×Obj):=(List.range h.objs.size).filterMap fun a=>if a=L\/(g.get? a).isSome=true then none else(h.get? a).map fun o=>(a,o)
noncomputable def qce(g h:Heap)(L d:Addr):List (Addr×Obj):=(allNews g h L).filter fun p=>decide (p.1≠d)
structure Mod(K:yg)(mg:Str->Option Value)(base:Heap):Prop where
 kin:K.In base
 glob:base.Ns mainGlobals mg
 blt:∃ mb,base.Ns builtinsNs mb/\∀ x:Str,x≠"__name__"->mb x=bootBuiltins x
 nolimit:base.NoLimit
structure Cx where
 prog:Program
 w:World
 K:yg
 mg:Str->Option Value
 base:Heap
 A:Around
 N:LS
 s₀:Shared
 H₀:Hp
 env:Env
 outer:List Env
 stack:List Env
 ex:LI
 fn:Str->Bool
 calm:Bool
 pn:List (Addr×Obj)
 xe:Value->Shared->Prop
noncomputable def frs(l:List Env):LI:=l.filterMap (·.frame)
noncomputable abbrev Cx.fs(X:Cx):LI:=frs X.outer
def Vis(sc:Scope)(x:Str):Prop:=sc.names.lookup x=some .local\/sc.names.lookup x=some .cell\/sc.names.lookup x=some .free
def Loc(sc:Scope)(x:Str):Prop:=sc.names.lookup x=some .local\/sc.names.lookup x=some .cell
def Look(env:Env)(h:Heap)(m:Str->Option Value)(x:Str)(u:Value):Prop:=
 (env.kindOf x=some .local/\m x=some u)\/((env.kindOf x=some .cell\/env.kindOf x=some .free)/\∃ c,env.cells.lookup x=some c/\h.IsCell c (some u))
structure Cx.Ok(X:Cx):Prop where
 mod:Mod X.K X.mg X.base
 kind:X.env.scope.kind=.function
 glob:X.env.globals=mainGlobals
 blt:X.env.builtins=builtinsNs
 above:X.s₀.heap.objs.size<=X.env.locals
 inj:∀ x y c,X.env.cells.lookup x=some c->X.env.cells.lookup y=some c->x=y
 has:∀ x,(X.env.kindOf x=some .cell\/X.env.kindOf x=some .free)->∃ c,X.env.cells.lookup x=some c
 cab:∀ x c,X.fn x=true->X.env.cells.lookup x=some c->X.s₀.heap.objs.size<=c
 hd:X.calm=true->X.A.handled=none
 frames:X.A.frames=some X.stack
 stk:X.stack=X.outer\/(X.stack=X.env::X.outer/\X.env.frame=some X.env.locals)
 exf:∀ b∈X.ex,b≠X.env.locals/\∀ x c,X.env.cells.lookup x=some c->c≠b
 bs:∀ b o,X.base.get? b=some o->X.s₀.heap.get? b=some o/\X.H₀ b=none
 bsz:X.base.objs.size<=X.s₀.heap.objs.size
 noex:∀ b o,X.base.get? b=some o->b∉X.ex
 exfs:∀ b∈X.ex,b∉X.fs
 funs:X.s₀.heap.FunFrames X.base X.outer
 frf:∀ b∈X.fs,X.H₀ b=none
structure Inv(X:Cx)(pins:List (Addr×Obj))(σ:List (Option V))(H:Hp)(s:Shared):Prop where
 ok:X.Ok
 os:s.os=X.s₀.os
 bare:AllBare s.gens
 base:Un X.fs X.ex X.H₀ H X.s₀.heap s.heap
 loc:∃ m,s.heap.Ns X.env.locals m/\∀(i:Nat) (x:Str) (v:V),X.N[i]?=some x->σ[i]?=some (some v)->Vis X.env.scope x->∃ u,RelV v u/\Look X.env s.heap m x u
 cell:∀ x c,X.env.cells.lookup x=some c->∃ v,s.heap.IsCell c v
 free:H X.env.locals=none
 freeC:∀ x c,X.env.cells.lookup x=some c->H c=none
 pin:∀ p∈X.pn++pins,s.heap.get? p.1=some p.2/\H p.1=none/\p.1≠X.env.locals/\p.1∉X.fs/\∀ v,p.2.data≠.cell v
 hok:HOk X.prog X.w H s.heap
 len:σ.length=X.N.length
section
variable{X:Cx}{pins:List (Addr×Obj)}{σ:List (Option V)}{H H':Hp}{s:Shared}{h':Heap}
theorem Cx.Ok.nofr(ok:X.Ok){o:Obj}(e:X.base.get? b=some o):b∉X.fs:=fun hb=>by
 have:=(ok.funs.mem hb).1;rw[e] at this;cases this
theorem Inv.bs(I:Inv X pins σ H s):∀ b o,X.base.get? b=some o->s.heap.get? b=some o/\H b=none:=fun b o e =>
 ⟨I.base.keep b o (I.ok.bs b o e).1 (I.ok.bs b o e).2 (I.ok.nofr e) (I.ok.noex b o e),I.base.free b o (I.ok.bs b o e).1 (I.ok.bs b o e).2 (I.ok.noex b o e)⟩
theorem Inv.bk(I:Inv X pins σ H s):∀ b o,X.base.get? b=some o->s.heap.get? b=some o:=fun b o e=>(I.bs b o e).1
theorem Inv.mod(I:Inv X pins σ H s):Mod X.K X.mg X.base:=I.ok.mod
theorem Inv.kIn(I:Inv X pins σ H s):X.K.In s.heap:=I.ok.mod.kin.keeps I.bk
theorem Inv.nolimit(I:Inv X pins σ H s):s.heap.NoLimit:=I.ok.mod.nolimit.keeps I.bk
theorem Inv.lt(I:Inv X pins σ H s):X.env.locals<s.heap.objs.size:=let ⟨_,hn,_⟩:=I.loc;hn.lt
theorem Inv.sz(I:Inv X pins σ H s):X.s₀.heap.objs.size<=s.heap.objs.size:=yi I.ok.above (yR I.lt)
theorem Inv.nofs(I:Inv X pins σ H s)(h:s.heap.objs.size<=a):a∉X.fs:=fun hb=>by
 obtain⟨_,o,b,_⟩:=I.ok.funs.mem hb;show absurd (yj (yD b) (yi I.sz h)) (Yk _)
theorem Inv.cne(I:Inv X pins σ H s):∀ x c,X.env.cells.lookup x=some c->c≠X.env.locals:=fun x c e z=>by
 obtain⟨v,o,f,d⟩:=I.cell x c e;obtain⟨m,⟨g,es,ep,b,a,_⟩,_⟩:=I.loc;rw[z,b] at f;cases f;rw[a] at d;cases d
theorem Inv.funs(I:Inv X pins σ H s):s.heap.FunFrames X.base X.outer:=by
 have all:∀(l:List Env),(∀ b∈frs l,b∈X.fs)->X.s₀.heap.FunFrames X.base l->s.heap.FunFrames X.base l:=by
  intro l
  induction l with
  | nil=>intro _ _;trivial
  | cons env r ih =>
   intro d hl;obtain⟨g,⟨L,o,c,h,i,f⟩,j⟩:=hl;have a:L∈X.fs:=d L (by unfold frs;rw[xo,c];show yC);obtain⟨m,e⟩:=I.base.slot L o i (I.ok.frf L a) a fun z=>I.ok.exfs L z a;show⟨g,⟨L,_,c,h,e,f⟩,ih (fun b hb=>d b (by unfold frs;rw[xo,c];show yw _ hb)) j⟩
 show all X.outer (fun _ hb=>hb) I.ok.funs
theorem Inv.stack(I:Inv X pins σ H s):s.heap.FunFrames X.base X.stack:=by
 rcases I.ok.stk with e | ⟨e,hf⟩
 .rw [e];show I.funs
 .rw [e];obtain⟨m,a,_⟩:=I.loc;show .cons (by rw[I.ok.kind];decide) hf a ?_ I.funs;show Heap.get?_none_of_le (yi I.ok.bsz I.ok.above)
theorem Inv.stkSub(I:Inv X pins σ H s):∀ b∈frs X.stack,b∈X.env.locals::X.fs:=fun b hb=>by
 rcases I.ok.stk with e | ⟨e,hf⟩
 .rw [e] at hb;show yw _ hb
 .rw [e] at hb;unfold frs at hb;rw[xo,hf] at hb;show hb
theorem Inv.stkFree(I:Inv X pins σ H s):∀ b∈frs X.stack,H b=none:=fun b hb=>by
 rcases yE.mp (I.stkSub b hb) with e | hb
 .rw [e];show I.free
 .obtain⟨_,o,a,_⟩:=I.ok.funs.mem hb;show I.base.free b o a (I.ok.frf b hb) fun z=>I.ok.exfs b z hb
theorem Inv.step(I:Inv X pins σ H s)
  (f:∀ b∈ch,(b∈X.ex\/X.s₀.heap.objs.size<=b)/\b≠X.env.locals/\(∀ x c,X.env.cells.lookup x=some c->c≠b)/\∀ p∈X.pn++pins,p.1≠b)
  (keep:∀ b o,b≠X.env.locals->b∉X.fs->b∉ch->s.heap.get? b=some o->H b=none->h'.get? b=some o)
  (t:∀ b o,b≠X.env.locals->b∈X.fs->b∉ch->s.heap.get? b=some o->H b=none->∃ M,h'.get? b=some { o with slots:=M }) (free:∀ b o,b∉ch->s.heap.get? b=some o->H b=none->H' b=none)
  (y:∀ b o,b∉ch->s.heap.get? b=some o->∃ F,h'.get? b=some F)
  (J:∀ b xs,H b=some (.tup xs)->H' b=some (.tup xs)) (C:∀ b o u,H b=some (.frz o u)->H' b=some (.frz o u)) (G:∀ b ps,H b=some (.tbl ps)->∃ D,H' b=some (.tbl (ps++D)))
  (ns:∀ m,s.heap.Ns X.env.locals m->h'.Ns X.env.locals m) (L:HOk X.prog X.w H' h') (S:AllBare g') :
  Inv X pins σ H' { s with heap:=h',gens:=g',drawn:=d',toks:=t' }:=by
 have E:∀ b o,X.s₀.heap.get? b=some o->b≠X.env.locals:=fun b o e=>yy (yj (yD e) I.ok.above)
 have j:∀ b o,X.s₀.heap.get? b=some o->b∉X.ex->b∉ch:=fun b o e a hb=>by
  rcases(f b hb).1 with z | z
  .show a z
  .show absurd (yj (yD e) z) (Yk _)
 have cellK:∀ x c,X.env.cells.lookup x=some c->∀ v,s.heap.IsCell c v->h'.IsCell c v:=fun x c e v ⟨o,A,K⟩=>by
  have g:c∉ch:=fun z=>(f c z).2.2.1 x c e rfl;by_cases hc:c∈X.fs
  .obtain⟨M,q⟩:=t c o (I.cne x c e) hc g A (I.freeC x c e);show⟨_,q,K⟩
  .show⟨o,keep c o (I.cne x c e) hc g A (I.freeC x c e),K⟩
 show⟨I.ok,I.os,S,⟨fun b o e n hb a=>?_,fun b o e n hb a=>?_,fun b o e n a=>?_,fun b o e a=>?_,fun b xs e=>J b xs (I.base.tups b xs e),fun b o xs e=>C b o xs (I.base.frzs b o xs e),fun b ps e=>?_⟩,?_,fun x c e=>?_,?_,fun x c e=>?_,fun p O=>?_,L,I.len⟩
 .show keep b o (E b o e) hb (j b o e a) (I.base.keep b o e n hb a) (I.base.free b o e n a)
 .obtain⟨M,h⟩:=I.base.slot b o e n hb a;obtain⟨N,B⟩:=t b _ (E b o e) hb (j b o e a) h (I.base.free b o e n a);show⟨N,B⟩
 .obtain⟨F,h⟩:=I.base.there b o e a;show free b F (j b o e a) h (I.base.free b o e n a)
 .obtain⟨F,h⟩:=I.base.there b o e a;show y b F (j b o e a) h
 .obtain⟨U,h⟩:=I.base.tbls b ps e;obtain⟨W,B⟩:=G b _ h;show⟨U++W,by rw[B,Array.append_assoc]⟩
 .obtain⟨m,T,hl⟩:=I.loc;show⟨m,ns m T,fun i x v h B R=>?_⟩;obtain⟨u,r,l⟩:=hl i x v h B R;show⟨u,r,?_⟩;rcases l with l | ⟨k,c,e,z⟩
  .show .inl l
  .show .inr ⟨k,c,e,cellK x c e _ z⟩
 .obtain⟨v,z⟩:=I.cell x c e;show⟨v,cellK x c e v z⟩
 .obtain⟨m,⟨o,_,_,A,_⟩,_⟩:=I.loc;show free _ o (fun z=>(f _ z).2.1 rfl) A I.free
 .obtain⟨v,o,A,K⟩:=I.cell x c e;show free c o (fun z=>(f c z).2.2.1 x c e rfl) A (I.freeC x c e)
 .obtain⟨e,n,ne,P,d⟩:=I.pin p O;have g:p.1∉ch:=fun z=>(f p.1 z).2.2.2 p O rfl;show⟨keep p.1 p.2 ne P g e n,free p.1 p.2 g e n,ne,P,d⟩
theorem Inv.un(I:Inv X pins σ H s)(u:Un X.fs [] H H' s.heap h')(f:HOk X.prog X.w H' h'):Inv X pins σ H' { s with heap:=h',toks:=t' }:=by
 obtain⟨m,⟨o,es,ep,g,r⟩,_⟩:=id I.loc;obtain⟨p,h⟩:=u.any g I.free (by simp)
 show I.step (g':=s.gens) (d':=s.drawn) (ch:=[]) (fun _ z=>nomatch z) (fun b o _ hb _ e n=>u.keep b o e n hb (by simp)) (fun b o _ hb _ e n=>u.slot b o e n hb (by simp)) (fun b o _ e n=>u.free b o e n (by simp)) (fun b o _ e=>u.there b o e (by simp)) u.tups u.frzs u.tbls (fun j i=>by
  obtain⟨l,d,c,a,r'⟩:=i;rw[g] at a;cases a;show⟨_,d,c,h,r'⟩) f I.bare
theorem Inv.call(I:Inv X pins σ H s)(u:Un (frs X.stack) ch H H' s.heap h')(i:HOk X.prog X.w H' h')(l:AllBare g')
  (a:∀ b∈ch,(b∈X.ex\/X.s₀.heap.objs.size<=b)/\b≠X.env.locals/\(∀ x c,X.env.cells.lookup x=some c->c≠b)/\∀ p∈X.pn++pins,p.1≠b) :
  Inv X pins σ H' { s with heap:=h',gens:=g',drawn:=d',toks:=t' }:=by
 obtain⟨m,⟨o,es,ep,j,r⟩,_⟩:=id I.loc;obtain⟨y,h⟩:=u.any j I.free fun z=>(a _ z).2.1 rfl
 show I.step (ch:=ch) a (fun b o h hb hc e n=>u.keep b o e n (fun z=>(yE.mp (I.stkSub b z)).elim h hb) hc) (fun b o _ _ hc e n=>u.any e n hc) (fun b o hc e n=>u.free b o e n hc) (fun b o hc e=>u.there b o e hc) u.tups u.frzs u.tbls (fun t q=>by
  obtain⟨v,g,f,d,r'⟩:=q;rw[j] at d;cases d;show⟨_,g,f,h,r'⟩) i l
theorem Inv.turned(I:Inv X pins σ H s)(k:∀ b o,b≠it->s.heap.get? b=some o->h'.get? b=some o)(i:H it=none)(d:it≠X.env.locals)
  (h1:it∈X.ex\/X.s₀.heap.objs.size<=it) (f:∀ x c,X.env.cells.lookup x=some c->c≠it) (g:∀ p∈X.pn++pins,p.1≠it):Inv X pins σ H { s with heap:=h',toks:=t' }:=by
 have a:∀ b u,H b=some u->b≠it:=fun b u e z=>by rw[z,i] at e;cases e
 show I.step (g':=s.gens) (d':=s.drawn) (ch:=[it]) (fun b hb=>?_) (fun b o _ _ hc e _=>k b o (fun z=>hc (by simp[z])) e) (fun b o _ _ hc e _=>⟨o.slots,k b o (fun z=>hc (by simp[z])) e⟩) (fun _ _ _ _ n=>n)
  (fun b o hc e=>⟨o,k b o (fun z=>hc (by simp[z])) e⟩) (fun _ _ e=>e) (fun _ _ _ e=>e) (fun b ps e=>⟨#[],by rw[e];simp⟩) (fun m h=>?_) (fun b u e=>?_) I.bare
 .have e:b=it:=by simpa using hb
  subst e;show⟨h1,d,f,g⟩
 .obtain⟨o,es,ep,j,r⟩:=h;show⟨o,es,ep,k _ o (Yn d) j,r⟩
 .show(I.hok b u e).stay (fun c v hc q=>k c v ?_ q) (fun _ q=>q) fun _ _ q=>q;rcases hc with z | z
  .rw [z];show a b u e
  .show a c _ z
theorem Inv.tok(I:Inv X pins σ H s)(t:Nat):Inv X pins σ H { s with toks:=t }:=I.un (h':=s.heap) (t':=t) Un.refl I.hok
theorem Inv.kept(I:Inv X pins σ H s)(k:∀ b u,s.heap.get? b=some u->h'.get? b=some u):Inv X pins σ H { s with heap:=h',toks:=t' }:=I.un (Un.kept k) (I.hok.kept k)
theorem Inv.laid(I:Inv X pins σ H s)(k:∀ b u,s.heap.get? b=some u->h'.get? b=some u)(c:s.heap.objs.size<=a)(new:ObjOk X.prog X.w (upd H a o) h' a o) :
  Inv X pins σ (upd H a o) { s with heap:=h',toks:=t' }:=I.un (Un.laid k c (I.hok.fresh c)) (I.hok.laid k c new)
theorem Inv.write{x e:Addr}(I:Inv X pins σ H s)(d:Mut (H x))(c:e=x\/H e=some (.own x))(k:∀ b u,b≠e->s.heap.get? b=some u->h'.get? b=some u)(a:∃ u,h'.get? e=some u)
  (new:ObjOk X.prog X.w (upd H x o) h' x o):Inv X pins σ (upd H x o) { s with heap:=h',toks:=t' }:=I.un (Un.write d c k a) (I.hok.write d c k a new)
theorem Inv.weak{a:List (Option V)}(I:Inv X pins σ H s)(hl:a.length=σ.length)(w:∀(i:Nat) v,a[i]?=some (some v)->σ[i]?=some (some v)):Inv X pins a H s:=
 ⟨I.ok,I.os,I.bare,I.base,let ⟨m,hn,hl'⟩:=I.loc;⟨m,hn,fun i x v b c d=>hl' i x v b (w i v c) d⟩,I.cell,I.free,I.freeC,I.pin,I.hok,hl.trans I.len⟩
theorem Inv.pins_of{pins':List (Addr×Obj)}(I:Inv X pins σ H s)(h:∀ p∈pins',s.heap.get? p.1=some p.2/\H p.1=none/\p.1≠X.env.locals/\p.1∉X.fs/\∀ v,p.2.data≠.cell v):Inv X pins' σ H s:=
 ⟨I.ok,I.os,I.bare,I.base,I.loc,I.cell,I.free,I.freeC,fun p a=>(yB.mp a).elim (fun z=>I.pin p (yT _ z)) (h p),I.hok,I.len⟩
theorem qa4(e:N.Nodup)(a:N[i]?=some x)(b:N[j]?=some x):i=j:=by
 obtain⟨h1,c⟩:=yc.mp a;obtain⟨f,d⟩:=yc.mp b;show(List.getElem_inj e).mp (c.trans d.symm)
theorem qbp{Q:Unit->Shared->Prop}(I:Inv X pins σ H s)(hN:X.N.Nodup)(O:X.N[i]?=some x)(t:Loc X.env.scope x)(r:RelV v u)
  (h:∀ s',Inv X pins (σ.set i (some v)) H s'->(∃ a,Heap.SameBut a s.heap s'.heap/\(a=X.env.locals\/X.env.cells.lookup x=some a))->Q () s') (hf:X.fn x=true\/X.env.scope.names.lookup x=some .local:=by first | show .inl rfl | show .inr rfl | assumption):wpAny M A (storeName X.env x u) Q E s:=by
 obtain⟨m,W,hl⟩:=id I.loc;have L:(X.env.scope.kind==.class||(X.env.scope.kind==.module&&X.env.locals != X.env.globals))=false:=by rw[I.ok.kind];rfl
 have D:i<σ.length:=by rw[I.len];show(yc.mp O).1
 have cne:=I.cne
 have l:∀{a:Addr} {h':Heap},(∃ o,s.heap.get? a=some o/\H a=none)->Heap.SameBut a s.heap h'->HOk X.prog X.w H h':=fun{a h'} ha f b ob e=>by
  obtain⟨_,_,B⟩:=ha;show(I.hok b ob e).stay (fun c T hc q=>(f.2 c ?_).trans q) (fun _ q=>q) fun _ _ q=>q;rintro rfl;rcases hc with rfl | hc
  .rw [B] at e;cases e
  .rw [B] at hc;cases hc
 rcases t with hk | hk
 .show wpAny_storeName_local hk W (fun h' Y f=>?_) L;obtain⟨oL,_,_,Z,_⟩:=id W;show h _ ⟨I.ok,I.os,I.bare,⟨fun b o e n hb t=>?_,fun b o e n hb t=>?_,I.base.free,fun b o e t=>?_,I.base.tups,I.base.frzs,I.base.tbls⟩,⟨_,Y,fun j y v' g C U=>?_⟩,fun y c e=>?_,I.free,I.freeC,fun p hp=>?_,l ⟨oL,Z,I.free⟩ f,by simpa using I.len⟩ ⟨_,f,.inl rfl⟩
  .show(f.2 b (yy (yj (yD e) I.ok.above))).trans (I.base.keep b o e n hb t)
  .obtain⟨sl,g⟩:=I.base.slot b o e n hb t;show⟨sl,(f.2 b (yy (yj (yD e) I.ok.above))).trans g⟩
  .obtain⟨o',g⟩:=I.base.there b o e t;show⟨o',(f.2 b (yy (yj (yD e) I.ok.above))).trans g⟩
  .by_cases G:j=i
   .subst G;rw[O] at g;cases g;rw[List.getElem?_set_self D] at C;cases C;show⟨u,r,.inl ⟨hk,by simp⟩⟩
   .rw [xj (Yn G)] at C;obtain⟨u',r',q⟩:=hl j y v' g C U;show⟨u',r',?_⟩;rcases q with⟨k,e⟩ | ⟨k,c,e,z⟩
    .show .inl ⟨k,?_⟩;have:y≠x:=fun e=>G (qa4 hN g (e ▸ O));simp[this,e]
    .show .inr ⟨k,c,e,z.sameBut f (cne y c e)⟩
  .obtain⟨T,z⟩:=I.cell y c e;show⟨T,z.sameBut f (cne y c e)⟩
  .obtain⟨e,n,ne,nf,d⟩:=I.pin p hp;show⟨(f.2 p.1 ne).trans e,n,ne,nf,d⟩
 .have F:X.fn x=true:=by
   rcases hf with z | z
   .show z
   .rw [z] at hk;cases hk
  obtain⟨c,hc⟩:=I.ok.has x (.inl hk);obtain⟨T,z⟩:=I.cell x c hc;show wpAny_storeName_cell I.ok.kind hk hc z (fun h' J f=>?_);obtain⟨oc,P,R⟩:=id z;show h { s with heap:=h' } ⟨I.ok,I.os,I.bare,⟨fun b o e n hb t=>?_,fun b o e n hb t=>?_,I.base.free,fun b o e t=>?_,I.base.tups,I.base.frzs,I.base.tbls⟩,⟨m,W.sameBut f (Yn (cne x c hc)),fun j y v' g C U=>?_⟩,fun y S e=>?_,I.free,I.freeC,fun p hp=>?_,l ⟨oc,P,I.freeC x c hc⟩ f,by simpa using I.len⟩ ⟨c,f,.inr hc⟩
  .show(f.2 b (yy (yj (yD e) (I.ok.cab x c F hc)))).trans (I.base.keep b o e n hb t)
  .obtain⟨sl,g⟩:=I.base.slot b o e n hb t;show⟨sl,(f.2 b (yy (yj (yD e) (I.ok.cab x c F hc)))).trans g⟩
  .obtain⟨o',g⟩:=I.base.there b o e t;show⟨o',(f.2 b (yy (yj (yD e) (I.ok.cab x c F hc)))).trans g⟩
  .by_cases G:j=i
   .subst G;rw[O] at g;cases g;rw[List.getElem?_set_self D] at C;cases C;show⟨u,r,.inr ⟨.inl hk,c,hc,J⟩⟩
   .rw [xj (Yn G)] at C;obtain⟨u',r',q⟩:=hl j y v' g C U;show⟨u',r',?_⟩;rcases q with q | ⟨k,S,e,z'⟩
    .show .inl q
    .show .inr ⟨k,S,e,z'.sameBut f ?_⟩;rintro rfl;show G (qa4 hN g (I.ok.inj _ _ _ e hc ▸ O))
  .by_cases K:S=c
   .subst K;show⟨_,J⟩
   .obtain⟨w2,z2⟩:=I.cell y S e;show⟨w2,z2.sameBut f K⟩
  .obtain⟨e,n,ne,nf,d⟩:=I.pin p hp;show⟨(f.2 p.1 ?_).trans e,n,ne,nf,d⟩;intro q;rw[q,P] at e;have q':oc=p.2:=ym e;show d T (by rw[<- q'];show R)
theorem qcf{Q:Unit->Shared->Prop}(I:Inv X pins σ H s)(b:X.N.Nodup)(d:X.N[i]?=some x)(e:Loc X.env.scope x)(r:RelV v u)
  (h:∀ s',Inv X pins (σ.set i (some v)) H s'->Q () s') (c:X.fn x=true\/X.env.scope.names.lookup x=some .local:=by first | show .inl rfl | show .inr rfl | assumption):wpAny M A (storeName X.env x u) Q E s:=
 qbp I b d e r (fun s' a _=>h s' a) c
theorem Inv.call'(I:Inv X pins σ H s)(g:s'.os=s.os)(u:Un (frs X.stack) ch H H' s.heap s'.heap)(d:HOk X.prog X.w H' s'.heap)(f:AllBare s'.gens)
  (a:∀ b∈ch,(b∈X.ex\/X.s₀.heap.objs.size<=b)/\b≠X.env.locals/\(∀ x c,X.env.cells.lookup x=some c->c≠b)/\∀ p∈X.pn++pins,p.1≠b):Inv X pins σ H' s':=by
 obtain⟨h',g',d',t',h⟩:=s';have e:h=s.os:=g;subst e;show I.call (g':=g') (t':=t') (d':=d') u d f a
end
abbrev XK:=Value->Option Addr->Hp->Prop
noncomputable abbrev St:=List (Option V)
abbrev VK:=V->Hp->Prop
abbrev TE:=St->Hp->VK->Prop
abbrev TT:=St->Hp->(Bool->Hp->Prop)->Prop
abbrev TA:=St->Hp->(List V->Hp->Prop)->Prop
structure Ends where
 nx:St->Hp->Prop
 rt:VK
 bk:St->Hp->Prop:=fun _ _=>False
 ct:St->Hp->Prop:=fun _ _=>False
abbrev TS:=Ends->St->Hp->Prop
def EP(X:Cx)(pins:List (Addr×Obj))(σ:St)(Q:VK)(u:Value)(s':Shared):Prop:=∃ v H',Inv X pins σ H' s'/\RelV v u/\Q v H'
def TP(X:Cx)(pins:List (Addr×Obj))(σ:St)(Q:Bool->Hp->Prop)(b:Bool)(s':Shared):Prop:=∃ H',Inv X pins σ H' s'/\Q b H'
def AP(X:Cx)(pins:List (Addr×Obj))(σ:St)(Q:List V->Hp->Prop)(us:List Value)(s':Shared):Prop:=∃ vs H',Inv X pins σ H' s'/\Vals vs us/\Q vs H'
def SP(X:Cx)(pins:List (Addr×Obj))(D:Ends)(f:Flow)(s':Shared):Prop:=
 match f with
 | .next=>∃ a H',Inv X pins a H' s'/\D.nx a H'
 | .brk=>∃ a H',Inv X pins a H' s'/\D.bk a H'
 | .cont=>∃ a H',Inv X pins a H' s'/\D.ct a H'
 | .ret u=>∃ v a H',Inv X pins a H' s'/\RelV v u/\D.rt v H'
def PE(X:Cx)(e:Expr)(t:TE):Prop:=
 ∀(pins:List (Addr×Obj)) (s:Shared) (σ:St) (H:Hp) (Q:VK),Inv X pins σ H s->t σ H Q->wpAny (model X.prog X.w) X.A (eval e X.env) (EP X pins σ Q) X.xe s
def PT(X:Cx)(e:Expr)(t:TT):Prop:=
 ∀(pins:List (Addr×Obj)) (s:Shared) (σ:St) (H:Hp) (Q:Bool->Hp->Prop),Inv X pins σ H s->t σ H Q->wpAny (model X.prog X.w) X.A (isTrue e X.env (eval e X.env)) (TP X pins σ Q) X.xe s
def PW(X:Cx)(e:Expr)(t:TT):Prop:=
 ∀(a:Sem Value) (pins:List (Addr×Obj)) (s:Shared) (σ:St) (H:Hp) (Q:Bool->Hp->Prop),Inv X pins σ H s->t σ H Q->wpAny (model X.prog X.w) X.A (isTrue e X.env a) (TP X pins σ Q) X.xe s
theorem PW.pt{t:TT}(h:PW X e t):PT X e t:=h _
def PA(X:Cx)(es:List Expr)(t:TA):Prop:=
 ∀(pos:Pos) (pins:List (Addr×Obj)) (s:Shared) (σ:St) (H:Hp) (Q:List V->Hp->Prop),Inv X pins σ H s->t σ H Q->wpAny (model X.prog X.w) X.A (spliced (backTo pos (starEach es X.env))) (AP X pins σ Q) X.xe s
def PS(X:Cx)(st:Stmt)(t:TS):Prop:=
 ∀(pins:List (Addr×Obj)) (s:Shared) (σ:St) (H:Hp) (D:Ends),Inv X pins σ H s->t D σ H->wpAny (model X.prog X.w) X.A (exec st X.env) (SP X pins D) X.xe s
def PSs(X:Cx)(st:List Stmt)(t:TS):Prop:=
 ∀(pins:List (Addr×Obj)) (s:Shared) (σ:St) (H:Hp) (D:Ends),Inv X pins σ H s->t D σ H->wpAny (model X.prog X.w) X.A (execs st X.env) (SP X pins D) X.xe s
theorem thn{t:Sem α}{Q b:α->Shared->Prop}(h:wpAny M A t Q E s)(c:∀ a s,Q a s->b a s):wpAny M A t b E s:=Yz h c fun _ _ x=>x
section
variable{X:Cx}
def qej(i:Nat):TE:=fun σ H Q=>∃ v,σ[i]?=some (some v)/\Q v H
def tC(v:V):TE:=fun _ H Q=>Q v H
theorem pe_var{pos:Pos}(g:X.N[i]?=some x)(hv:Vis X.env.scope x)(f:(x==("__debug__":Str))=false:=by decide)(d:(x==("__classdict__":Str))=false:=by decide):PE X (.Name x pos) (qej i):=by
 intro pins s σ H Q I h;obtain⟨v,e,h⟩:=h;obtain⟨m,n,hl⟩:=I.loc;obtain⟨u,r,l⟩:=hl i x v g e hv;have b:EP X pins σ Q u s:=⟨v,H,I,r,h⟩;rcases l with⟨hk,j⟩ | ⟨hk,c,hc,a⟩
 .show wpAny_Name (wpAny_loadName_local I.ok.kind hk n j b) f
 .rcases hk with hk | hk
  .show wpAny_Name (wpAny_loadName_cell I.ok.kind hk hc a b) f
  .show wpAny_Name (wpAny_loadName_free I.ok.kind hk hc a b d) f
theorem qe{i j pos}:PE X (.Constant (.int i) j pos) (tC (.int i)):=fun _ _ _ H _ I h=>wpAny_Constant_int ⟨.int i,H,I.tok _,⟨_,rfl⟩,h⟩
theorem jx{b j pos}:PE X (.Constant (.bool b) j pos) (tC (.bl b)):=fun _ _ _ H _ I h=>Constant_bool ⟨.bl b,H,I,rfl,h⟩
theorem qdH{j pos}:PE X (.Constant .none j pos) (tC .non):=fun _ _ _ H _ I h=>Constant_none ⟨.non,H,I,rfl,h⟩
theorem zF{x j pos}:PE X (.Constant (.str x) j pos) (tC (.str x)):=fun _ _ _ H _ I h=>Calls.Constant_str ⟨.str x,H,I.tok _,⟨_,rfl⟩,h⟩
def Gl(X:Cx)(x:Str):Prop:=X.env.kindOf x=some .globalImplicit
theorem qbW{pos:Pos}{Q:Value->Shared->Prop}(I:Inv X pins σ H s)(b:Gl X x)(c:X.mg x=some u)(h:Q u s)
  (a:(x==("__debug__":Str))=false:=by decide):wpAny (model X.prog X.w) X.A (eval (.Name x pos) X.env) Q E s:=
 Calls.Name_function_global I.ok.kind b (Calls.loadGlobal_global (by rw[I.ok.glob];show I.mod.glob.keeps I.bk) c h) a
theorem qae{pos:Pos}{Q:Value->Shared->Prop}(I:Inv X pins σ H s)(c:Gl X x)(d:X.mg x=none)(hv:bootBuiltins x=some u)(h:Q u s)
  (e:x≠"__name__":=by decide) (b:(x==("__debug__":Str))=false:=by decide):wpAny (model X.prog X.w) X.A (eval (.Name x pos) X.env) Q E s:=by
 obtain⟨f,h1,a⟩:=I.mod.blt;show Calls.Name_function_global I.ok.kind c (Calls.loadGlobal_builtin (by rw[I.ok.glob];show I.mod.glob.keeps I.bk) d (by rw[I.ok.blt];show h1.keeps I.bk) ((a x e).trans hv) h) b
theorem pe_glob{pos:Pos}(b:Gl X x)(c:X.mg x=some u)(r:RelV v u)(a:(x==("__debug__":Str))=false:=by decide):PE X (.Name x pos) (tC v):=
 fun _ _ _ H _ I h=>qbW I b c ⟨v,H,I,r,h⟩ a
theorem zg{pos:Pos}(b:Gl X x)(c:X.mg x=none)(hv:bootBuiltins x=some u)(r:RelV v u)(d:x≠"__name__":=by decide)(a:(x==("__debug__":Str))=false:=by decide):PE X (.Name x pos) (tC v):=
 fun _ _ _ H _ I h=>qae I b c hv ⟨v,H,I,r,h⟩ d a
variable{a b:Expr}{ta tb:TE}{pos:Pos}
def tB(t:TE):TT:=fun σ H Q=>t σ H fun x a=>∃ c,x=.bl c/\Q c a
theorem je(h:PE X e t)(f:∀ a,isTrue e X.env a=(do let v <- a;standAt e.pos;holding [v] (truthy v)):=by intro _;rfl):PT X e (tB t):=by
 intro pins s σ H Q I hw;show isTrue_plain (thn (h pins s σ H _ I hw) fun v j ⟨x,b,c,i,g⟩=>?_) (f _);obtain⟨d,rfl,q⟩:=g;cases i;show xk ⟨b,c,q⟩
variable{tA tB':TT}{qce:List Expr}
def qeY(t u:TT):TT:=fun σ H Q=>t σ H fun c a=>if c=true then u σ a Q else Q false a
def tOr(t u:TT):TT:=fun σ H Q=>t σ H fun c a=>if c=true then Q true a else u σ a Q
def qeZ(t:TT):TT:=fun σ H Q=>t σ H fun c a=>Q (!c) a
theorem qa5(b:PT X a tA):PW X (.BoolOp .And [a] pos) tA:=by
 intro f pins s σ H Q I h;show isTrue_and (thn (b pins s σ H Q I h) fun c d e=>?_)
 cases c with
 | true=>show isTrue_and_nil e
 | false=>show e
theorem qaK(b:PT X a tA):PW X (.BoolOp .Or [a] pos) tA:=by
 intro f pins s σ H Q I h;show isTrue_or (thn (b pins s σ H Q I h) fun c d e=>?_)
 cases c with
 | false=>show isTrue_or_nil e
 | true=>show e
theorem qaL(g:PT X a tA)(hb:PW X (.BoolOp .And (b::qce) pos) tB'):PW X (.BoolOp .And (a::b::qce) pos) (qeY tA tB'):=by
 intro j pins s σ H Q I h;show isTrue_and (thn (g pins s σ H _ I h) fun c i ⟨d,e,f⟩=>?_)
 cases c with
 | true=>show hb j pins i σ d Q e f
 | false=>show⟨d,e,f⟩
theorem qbX(g:PT X a tA)(hb:PW X (.BoolOp .Or (b::qce) pos) tB'):PW X (.BoolOp .Or (a::b::qce) pos) (tOr tA tB'):=by
 intro j pins s σ H Q I h;show isTrue_or (thn (g pins s σ H _ I h) fun c i ⟨d,e,f⟩=>?_)
 cases c with
 | true=>show⟨d,e,f⟩
 | false=>show hb j pins i σ d Q e f
theorem jm(d:PT X a tA):PT X (.UnaryOp .Not a pos) (qeZ tA):=by
 intro pins s σ H Q I h;show isTrue_not (d pins s σ H (fun c b=>Q (!c) b) I h)
def qek(ta tb:TE):TE:=fun σ H Q=>ta σ H fun x a=>∃ c,x=.bl c/\if c=true then tb σ a Q else Q (.bl false) a
def tOrV(ta tb:TE):TE:=fun σ H Q=>ta σ H fun x a=>∃ c,x=.bl c/\if c=true then Q (.bl true) a else tb σ a Q
def tNotV(ta:TE):TE:=fun σ H Q=>ta σ H fun x a=>∃ c,x=.bl c/\Q (.bl (!c)) a
theorem qaM{op}(h:PE X a t):PE X (.BoolOp op [a] pos) t:=fun pins s σ H Q I hw=>BoolOp_one (h pins s σ H Q I hw)
theorem qaN(g:PE X a ta)(hb:PE X (.BoolOp .And (b::qce) pos) tb):PE X (.BoolOp .And (a::b::qce) pos) (qek ta tb):=by
 intro pins s σ H Q I h;show BoolOp_and (thn (g pins s σ H _ I h) fun v j ⟨x,e,f,i,d⟩=>?_);obtain⟨c,rfl,d⟩:=d;cases i;show xk ?_
 cases c with
 | true=>show hb pins j σ e Q f d
 | false=>show⟨.bl false,e,f,rfl,d⟩
def tIf(t:TT)(ta tb:TE):TE:=fun σ H Q=>t σ H fun c a=>if c=true then ta σ a Q else tb σ a Q
end
def SqL(K:yg)(H:Hp)(a:Addr)(xs:List V):Prop:=
 Rd H a (.lst xs) \/
  ∃(o:Obj) (b:Array Value) (n:Nat),K.lookup a=some o/\o.cls=.type "list"/\o.dict=none/\o.data=.seq b n/\b.size<=sizeLine/\Vals xs b.toList
def SqT(K:yg)(H:Hp)(a:Addr)(xs:List V):Prop:=
 Rd H a (.tup xs) \/
  ∃(o:Obj) (b:Array Value) (n:Nat),K.lookup a=some o/\o.cls=.type "tuple"/\o.data=.seq b n/\b.size<=sizeLine/\Vals xs b.toList
noncomputable def absV:Value->Option V
 | .none=>some .non
 | .bool b=>some (.bl b)
 | .int i _=>some (.int i)
 | .str x _=>some (.str x)
 | .bytes b _=>some (.byt b)
 | .float b _=>some (.flt b)
 | .ref a=>some (.ref a)
 | .type n=>some (.ty n)
 | _=>none
theorem RelV.abs{x:V}(r:RelV x u):absV u=some x:=by
 cases x with
 | non=>cases r;rfl
 | bl _=>cases r;rfl
 | int _=>obtain⟨t,rfl⟩:=r;rfl
 | str _=>obtain⟨t,rfl⟩:=r;rfl
 | byt _=>obtain⟨t,rfl⟩:=r;rfl
 | flt _=>obtain⟨t,rfl⟩:=r;rfl
 | ref _=>cases r;rfl
 | ty _=>cases r;rfl
theorem RelV.inj{x:V}(r:RelV x u)(q:RelV y u):x=y:=ym (r.abs.symm.trans q.abs)
theorem Vals.inj:∀{xs ys:List V} {us:List Value},Vals xs us->Vals ys us->xs=ys
 | _,_,_,.nil,.nil=>rfl
 | _,_,_,.cons r t,.cons r' t'=>by rw[r.inj r',Vals.inj t t']
section
variable{X:Cx}{pins:List (Addr×Obj)}{σ:St}{H:Hp}{s:Shared}{a:Addr}{xs ys:List V}
theorem SqL.of{K:yg}(h:H a=some (.lst xs)):SqL K H a xs:=.inl (.inl h)
theorem SqT.of{K:yg}(h:H a=some (.tup xs)):SqT K H a xs:=.inl (.inl h)
theorem Inv.list(I:Inv X pins σ H s)(h:SqL X.K H a xs):∃ b:List Value,Vals xs b/\PlainL s.heap a b.toArray/\xs.length<=sizeLine:=by
 rcases h with h | ⟨o,b,n,hk,hc,hd,hs,hz,r⟩
 .obtain⟨z,b,n,r,e⟩:=h.ok I.hok;show⟨b,r,⟨_,n,e,rfl,rfl,rfl⟩,z⟩
 .show⟨b.toList,r,⟨o,n,I.kIn a o hk,hc,hd,by simpa using hs⟩,?_⟩;have e:=r.length;simp only[YA] at e;lk
theorem Inv.tuple(I:Inv X pins σ H s)(h:SqT X.K H a xs):∃ b:List Value,Vals xs b/\IsTup s.heap a b.toArray/\xs.length<=sizeLine:=by
 rcases h with h | ⟨o,b,n,hk,hc,hs,hz,r⟩
 .obtain⟨z,b,r,p⟩:=h.ok I.hok;show⟨b,r,p,z⟩
 .show⟨b.toList,r,⟨o,I.kIn a o hk,hc,n,by simpa using hs⟩,?_⟩;have e:=r.length;simp only[YA] at e;lk
theorem Inv.list_inj(I:Inv X pins σ H s)(h:SqL X.K H a xs)(h':SqL X.K H a ys):xs=ys:=by
 obtain⟨b,r,⟨o,n,e,_,_,d⟩,_⟩:=I.list h;obtain⟨its',r',⟨g,f,c,_,_,d'⟩,_⟩:=I.list h';rw[e] at c;cases c;rw[d] at d'
 injection d' with d1 _
 have:b=its':=by simpa using congrArg Array.toList d1
 subst this;show r.inj r'
theorem Inv.tuple_inj(I:Inv X pins σ H s)(h:SqT X.K H a xs)(h':SqT X.K H a ys):xs=ys:=by
 obtain⟨b,r,⟨o,e,_,n,d⟩,_⟩:=I.tuple h;obtain⟨its',r',⟨g,c,_,f,d'⟩,_⟩:=I.tuple h';rw[e] at c;cases c;rw[d] at d'
 injection d' with d1 _
 have:b=its':=by simpa using congrArg Array.toList d1
 subst this;show r.inj r'
end
noncomputable abbrev Cx.wish(X:Cx)(E:Value->Shared->Prop):Cx:={ X with xe:=E }
noncomputable abbrev Cx.nox(X:Cx):Cx:=X.wish fun _ _=>False
theorem Cx.Ok.wish(ok:X.Ok)(E:Value->Shared->Prop):(X.wish E).Ok:=
 ⟨ok.mod,ok.kind,ok.glob,ok.blt,ok.above,ok.inj,ok.has,ok.cab,ok.hd,ok.frames,ok.stk,ok.exf,ok.bs,ok.bsz,ok.noex,ok.exfs,ok.funs,ok.frf⟩
theorem Cx.Ok.unwish(ok:(X.wish E).Ok):X.Ok:=
 ⟨ok.mod,ok.kind,ok.glob,ok.blt,ok.above,ok.inj,ok.has,ok.cab,ok.hd,ok.frames,ok.stk,ok.exf,ok.bs,ok.bsz,ok.noex,ok.exfs,ok.funs,ok.frf⟩
section
variable{X:Cx}{pins:List (Addr×Obj)}{σ:St}{H:Hp}{s:Shared}{E:Value->Shared->Prop}
theorem Inv.wish(I:Inv X pins σ H s)(E:Value->Shared->Prop):Inv (X.wish E) pins σ H s:=⟨I.ok.wish E,I.os,I.bare,I.base,I.loc,I.cell,I.free,I.freeC,I.pin,I.hok,I.len⟩
theorem Inv.unwish(I:Inv (X.wish E) pins σ H s):Inv X pins σ H s:=⟨I.ok.unwish,I.os,I.bare,I.base,I.loc,I.cell,I.free,I.freeC,I.pin,I.hok,I.len⟩
theorem SP.unwish{f:Flow}(h:SP (X.wish E) pins D f s'):SP X pins D f s':=by
 cases f with
 | next=>obtain⟨a,H',I,q⟩:=h;show⟨a,H',I.unwish,q⟩
 | brk=>obtain⟨a,H',I,q⟩:=h;show⟨a,H',I.unwish,q⟩
 | cont=>obtain⟨a,H',I,q⟩:=h;show⟨a,H',I.unwish,q⟩
 | ret u=>obtain⟨v,a,H',I,r,q⟩:=h;show⟨v,a,H',I.unwish,r,q⟩
theorem PSs.nox{st:List Stmt}{t:TS}(h:PSs X.nox st t):PSs X st t:=fun pins s σ H D I hw =>
 Yz (h pins s σ H D (I.wish _) hw) (fun _ _ q=>q.unwish) fun _ _ z=>False.elim z
end
section
variable{X:Cx}{st:Stmt}{qce:List Stmt}{t u:TS}{e:Expr}{te:TE}{pos:Pos}
def qel:TS:=fun D σ H=>D.nx σ H
def qe0(t u:TS):TS:=fun D σ H=>t { D with nx:=u D } σ H
theorem qw:PSs X [] qel:=fun _ _ σ H _ I h=>Xu ⟨σ,H,I,h⟩
theorem qc(h1:PS X st t)(c:PSs X qce u):PSs X (st::qce) (qe0 t u):=by
 intro pins s σ H D I h;show wpAny_execs_cons (thn (h1 pins s σ H { D with nx:=u D } I h) fun f d q=>?_)
 cases f with
 | next =>
  obtain⟨a,H',b,q⟩:=q;show c pins d a H' D b q
 | ret v=>show q
 | brk=>show q
 | cont=>show q
theorem qf(h1:PS X st t):PSs X [st] t:=by
 intro pins s σ H D I h;show wpAny_execs_cons (thn (h1 pins s σ H D I h) fun f a q=>?_)
 cases f with
 | next=>show Xu q
 | ret v=>show q
 | brk=>show q
 | cont=>show q
theorem Inv.quiet(I:Inv X pins σ H s):interactive X.env=false:=by simp[interactive,I.ok.kind]
def qem(te:TE):TS:=fun D σ H=>te σ H fun _ a=>D.nx σ a
theorem zh(c:PE X e te)(d:swapsWith e none pos.line X.env=pure false:=by rfl):PS X (.Expr e pos) (qem te):=by
 intro pins s σ H D I h;show wpAny_Expr_any (thn (c pins s σ H _ I h) fun v i ⟨x,a,b,g,f⟩=>⟨σ,a,b,f⟩) I.quiet d
def qe1(te:TE):TS:=fun D σ H=>te σ H D.rt
theorem qq(c:PE X e te):PS X (.Return (some e) pos) (qe1 te):=by
 intro pins s σ H D I h;show wpAny_Return_some (thn (c pins s σ H _ I h) fun v g ⟨x,a,b,f,d⟩=>⟨x,σ,a,b,f,d⟩)
def tRetN:TS:=fun D _ H=>D.rt .non H
def qe2(c:TT)(t u:TS):TS:=fun D σ H=>c σ H fun b a=>if b=true then t D σ a else u D σ a
theorem qM{a b:List Stmt}(hc:PT X c tc)(j:PSs X a t)(hb:PSs X b u):PS X (.If c a b pos) (qe2 tc t u):=by
 intro pins s σ H D I h;show wpAny_If (thn (hc pins s σ H _ I h) fun d i ⟨e,f,g⟩=>?_)
 cases d with
 | true=>show j pins i σ e D f g
 | false=>show hb pins i σ e D f g
def tNever:TS:=fun _ _ _=>False
theorem jf:PS X st tNever:=fun _ _ _ _ _ _ h=>h.elim
end
abbrev TG:=V->St->Hp->(St->Hp->Prop)->Prop
abbrev TGs:=List V->St->Hp->(St->Hp->Prop)->Prop
def PG(X:Cx)(a:Expr)(t:TG):Prop:=
 ∀(pins:List (Addr×Obj)) (s:Shared) (σ:St) (H:Hp) (v:V) (u:Value) (Q:St->Hp->Prop),Inv X pins σ H s->RelV v u->t v σ H Q ->
  wpAny (model X.prog X.w) X.A (assign a X.env u) (fun _ s'=>∃ b H',Inv X pins b H' s'/\Q b H') X.xe s
def PGs(X:Cx)(b:List Expr)(t:TGs):Prop:=
 ∀(pins:List (Addr×Obj)) (s:Shared) (σ:St) (H:Hp) (vs:List V) (us:List Value) (Q:St->Hp->Prop),Inv X pins σ H s->Vals vs us->t vs σ H Q ->
  wpAny (model X.prog X.w) X.A (assignInOrder ((assignEach b X.env).map (·.2)) us) (fun _ s'=>∃ a H',Inv X pins a H' s'/\Q a H') X.xe s
abbrev qen:=V->V->V->Hp->(Hp->Prop)->Prop
def qeM(X:Cx)(t:qen):Prop:=
 ∀(pins:List (Addr×Obj)) (s:Shared) (σ:St) (H:Hp) (o i v:V) (b a u:Value) (Q:Hp->Prop),Inv X pins σ H s->RelV o b->RelV i a->RelV v u->t o i v H Q ->
  wpAny (model X.prog X.w) X.A (setItem b a u) (fun _ s'=>∃ H',Inv X pins σ H' s'/\Q H') X.xe s
section
variable{X:Cx}{pos:Pos}
def qaJ(i:Nat):TG:=fun v σ H Q=>Q (σ.set i (some v)) H
theorem qo(b:X.N.Nodup)(d:X.N[i]?=some x)(e:Loc X.env.scope x)(c:X.fn x=true\/X.env.scope.names.lookup x=some .local:=by first | show .inl rfl | show .inr rfl | assumption):PG X (.Name x pos) (qaJ i):=by
 intro pins s σ H v u Q I r h;show wpAny_assign_Name (qcf I b d e r (fun s' a=>⟨_,H,a,h⟩) c)
def qe3:TGs:=fun vs σ H Q=>vs=[]/\Q σ H
def qd3(t:TG)(u:TGs):TGs:=fun vs σ H Q=>∃ v r,vs=v::r/\t v σ H fun a H'=>u r a H' Q
theorem qao:PGs X [] qe3:=by
 intro pins s σ H vs us Q I r h;obtain⟨e,h⟩:=h;subst e;cases r;show assignInOrder_nil ⟨σ,H,I,h⟩
theorem jq{t:TG}{u:TGs}(h1:PG X e t)(f:PGs X es u)
  (g:(assignEach (e::es) X.env).map (·.2)=assign e X.env::(assignEach es X.env).map (·.2):=by rfl):PGs X (e::es) (qd3 t u):=by
 intro pins s σ H vs us Q I r h;obtain⟨v,l,d,h⟩:=h;subst d
 cases r with
 | cons r rr =>
  rw[g];show assignInOrder_cons (thn (h1 pins s σ H _ _ _ I r h) fun _ j ⟨a,b,c,i⟩=>?_);show f pins j a b _ _ Q c rr i
def qeI(K:yg)(n:Nat)(t:TGs):TG:=fun v σ H Q=>∃ a xs,v=.ref a/\SqT K H a xs/\xs.length=n/\t xs σ H Q
theorem qbq{k:Nat}{t:TGs}(hc:X.calm=true)(h:PGs X es t)
  (i:(assignEach es X.env).length=n:=by rfl) (c:(assignEach es X.env).findIdx? (·.1)=none:=by rfl):PG X (.Tuple es k pos) (qeI X.K n t):=by
 intro pins s σ H v u Q I r hw;obtain⟨a,xs,g,j,hl,hw⟩:=hw;subst g;cases r;obtain⟨p,d,l,hz⟩:=I.tuple j;show assign_Tuple_tuple (I.ok.hd hc) l (by simp[i,<- hl,d.length]) c fun h' m=>?_;have f:Inv X pins σ H { s with heap:=h' }:=I.kept (t':=s.toks) fun b o e=>m b o (yy (yD e)) e;show h pins _ σ H xs _ Q f (by simpa using d) hw
def qe4(e d:TE)(t:qen):TG:=fun v σ H Q=>e σ H fun o a=>d σ a fun i b=>t o i v b fun c=>Q σ c
theorem jg{o i:Expr}{d c:TE}{t:qen}(q:PE X o d)(p:PE X i c)(w:qeM X t)
  (n:∀ v,assign (.Subscript o i pos) X.env v=(do
   let a <- holding [v] (eval o X.env);let b <- holding [v,a] (eval i X.env)
   standAt pos
   holding [v,a,b] (setItem a b v)
   release [v,a,b] []):=by intro _;rfl):PG X (.Subscript o i pos) (qe4 d c t):=by
 intro pins s σ H v u Q I r h;rw[n];show yr (Yd (thn (q pins s σ H _ I h) fun a E ⟨x,e,j,C,z⟩=>?_));show yr (Yd (thn (p pins E σ e _ j z) fun b F ⟨y,f,l,D,A⟩=>?_));show yr (XW (yr (Yd (thn (w pins F σ f x y v a b u _ l C D r A) fun _ G ⟨g,m,B⟩=>?_))));show wpAny_release ⟨σ,g,m,B⟩
def qef(te:TE)(g:TG):TS:=fun D σ H=>te σ H fun x a=>g x σ a D.nx
theorem qV(c:PE X e te)(d:PG X tg g)(f:swapsWithSole [tg] e pos.line X.env=pure false:=by rfl)(hw:swappedStores [tg] e X.env=pure none:=by rfl)
  (h1:(assignEach [tg] X.env).map (·.2)=[assign tg X.env]:=by rfl):PS X (.Assign [tg] e pos) (qef te g):=by
 intro pins s σ H D I h;show wpAny_Assign_stores (thn (c pins s σ H _ I h) fun v l ⟨x,a,b,j,i⟩=>?_) f hw;rw[h1];show thn (d pins l σ a x v _ b j i) fun _ m q=>q
theorem qm{a:Pos}(f:X.N.Nodup)(l:X.N[i]?=some x)(n:Loc X.env.scope x)(g:PE X e te)(m:swapsWith e (some (.Name x a)) pos.line X.env=pure false:=by rfl)(j:X.fn x=true\/X.env.scope.names.lookup x=some .local:=by first | show .inl rfl | show .inr rfl | assumption) :
  PS X (.Assign [.Name x a] e pos) (qef te (qaJ i)):=by
 intro pins s σ H D I h;show wpAny_Assign_Name (thn (g pins s σ H _ I h) fun v q ⟨y,b,c,p,o⟩=>?_) m;show qcf c f l n p (fun r d=>⟨_,b,d,o⟩) j
end
section
variable{X:Cx}{pos:Pos}
def tWhile(c:TT)(tb:TS):TS:=fun D σ H=>∃ W:Nat->St->Hp->Prop,(∃ m,W m σ H)/\∀ m σ H,W m σ H ->
 c σ H fun b d=>if b=true then ∃ N:St->Hp->Prop,(∀ a H',N a H'->∃ e,e<m/\W e a H')/\tb { D with nx:=N,ct:=N,bk:=D.nx } σ d else D.nx σ d
theorem qa6(y:PassesOwn (model X.prog X.w) X.A X.env X.xe)(hc:PT X c tc)(hb:PSs X body tb):PS X (.While c body [] pos) (tWhile tc tb):=by
 intro pins s σ H D I h;obtain⟨W,⟨B,F⟩,turn⟩:=h;show wpAny_While (codeAny_whileLoop (fun n s'=>∃ g H',Inv X pins g H' s'/\W n g H') ?_ B ⟨σ,H,I,F⟩);rintro n C ⟨d,r,z,G⟩;show Y7 y (thn (hc pins C d r _ z (turn n d r G)) fun b E ⟨t,u,i⟩=>?_)
 cases b with
 | true =>
  obtain⟨N,x,i⟩:=i;rw[yF rfl];show Y7 y (thn (hb pins E d t _ u i) fun f J j=>?_)
  cases f with
  | next =>
   obtain⟨a,e,l,p⟩:=j;obtain⟨o,m,q⟩:=x a e p;show⟨o,m,a,e,l,q⟩
  | cont =>
   obtain⟨a,e,l,p⟩:=j;obtain⟨o,m,q⟩:=x a e p;show⟨o,m,a,e,l,q⟩
  | brk=>show j
  | ret v=>show j
 | false =>
  rw[yz Yh];show Xu ⟨d,t,u,i⟩
end
structure It where
 go:Nat->Hp->Prop
 yld:Nat->Hp->V->Hp->Prop
 stop:Nat->Hp->Prop
def qbY(X:Cx)(pins:List (Addr×Obj))(H:Hp)(b:Addr):Prop:=
 H b=none/\b≠X.env.locals/\b∉X.fs/\(b∈X.ex\/X.s₀.heap.objs.size<=b)/\(∀ x c,X.env.cells.lookup x=some c->c≠b)/\∀ p∈X.pn++pins,p.1≠b
theorem Inv.fpOk{H':Hp}(I:Inv X pins σ H s)(hb:s.heap.objs.size<=b)(a:H' b=none):qbY X pins H' b:=by
 show⟨a,yW (yj I.lt hb),I.nofs hb,.inr (yi I.sz hb),fun x c e z=>?_,fun p d z=>?_⟩
 .obtain⟨v,q⟩:=I.cell x c e;show absurd (yj q.lt (by rw[z];show hb)) (Yk _)
 .show absurd (yj (yD (I.pin p d).1) (by rw[z];show hb)) (Yk _)
structure Turn(P:Program)(w:World)(K:yg)(tg:Expr)(J:It)(fp:LI)(it:Addr)(tn:Nat->Heap->Prop):Prop where
 mem:it∈fp
 obj:∀ i h,tn i h->∀ b∈fp,∃ o,h.get? b=some o/\∀ v,o.data≠.cell v
 keep:∀ i h h',tn i h->(∀ b∈fp,∀ o,h.get? b=some o->h'.get? b=some o)->tn i h'
 item:∀(X:Cx),X.prog=P->X.w=w->X.K=K->X.calm=true->∀(i:Nat) (pins:List (Addr×Obj)) (s:Shared) (σ:St) (H:Hp) (E:Value->Shared->Prop),Inv X pins σ H s->(∀ b∈fp,qbY X pins H b)->tn i s.heap->J.go i H ->
  wpAny (model P w) X.A (pyNext (.ref it)) (fun r s1=>∃ u,r=some u /\
   wpAny (model P w) X.A (letOwnedTupleGo tg (.ref it) u) (fun _ s2=>∃ x H',Inv X pins σ H' s2/\RelV x u/\J.yld i H x H'/\tn (i+1) s2.heap/\∀ b∈fp,H' b=none) E s1) E s
 done:∀(X:Cx),X.prog=P->X.w=w->X.K=K->X.calm=true->∀(i:Nat) (pins:List (Addr×Obj)) (s:Shared) (σ:St) (H:Hp) (E:Value->Shared->Prop),Inv X pins σ H s->(∀ b∈fp,qbY X pins H b)->tn i s.heap->J.stop i H ->
  wpAny (model P w) X.A (pyNext (.ref it)) (fun r s1=>r=none/\Inv X pins σ H s1) E s
 self:∀(A:Around) (i:Nat) (s:Shared) (Q:Value->Shared->Prop) (E:Value->Shared->Prop),tn i s.heap->Q (.ref it) s->wpAny (model P w) A (pyIter (.ref it)) Q E s
abbrev TI:=St->Hp->(It->Hp->Prop)->Prop
def PIE(X:Cx)(pins:List (Addr×Obj))(σ:St)(tg:Expr)(R:It->Hp->Prop)(a:Value)(c:Shared):Prop:=
 ∃(it:Addr) (fp:LI) (d:Nat->Heap->Prop) (J:It) (H':Hp),a=.ref it/\Inv X pins σ H' c/\Turn X.prog X.w X.K tg J fp it d/\d 0 c.heap/\(∀ b∈fp,qbY X pins H' b)/\R J H'
def PI(X:Cx)(tg a:Expr)(c:TI):Prop:=
 ∀(pins:List (Addr×Obj)) (s:Shared) (σ:St) (H:Hp) (R:It->Hp->Prop),Inv X pins σ H s->c σ H R ->
  wpAny (model X.prog X.w) X.A (eval a X.env) (fun v b=>wpAny (model X.prog X.w) X.A (pyIter v) (PIE X pins σ tg R) X.xe b) X.xe s
theorem qdt{o:Obj}{n:String}{vs:Array Value}{Q:Unit->Shared->Prop}(d:s.heap.get? it=some o)(hc:o.cls=.type n)(b:o.data=.fields vs)
    (c:["enumerate","zip","dict_itemiterator","dict_reverseitemiterator","odict_iterator","itertools.zip_longest","itertools.pairwise"].contains n=false) (a:Q () s):wpAny M A (letOwnedTupleGo tg (.ref it) u) Q E s:=by
  unfold letOwnedTupleGo;cases tg<;>first
    | show yu a
    | (cases u<;>first
        | show yu a
        | (show yr (wpAny_load d ?_)
           rw[hc,b];show wpAny M A (if (["enumerate","zip","dict_itemiterator","dict_reverseitemiterator","odict_iterator","itertools.zip_longest","itertools.pairwise"].contains n&&vs[0]?==some (rawInt _))=true then _ else _) Q E s;rw[yz (by intro h;rw[c,Bool.false_and] at h;cases h)];show yu a))
noncomputable def Itl(K:yg)(a:Addr):It:=
 ⟨fun i H=>∃ xs x,SqL K H a xs/\xs[i]?=some x,fun i H x H'=>H'=H/\∀ xs,SqL K H a xs->xs[i]?=some x,fun i H=>∃ xs,SqL K H a xs/\xs.length<=i⟩
noncomputable def Itt(K:yg)(a:Addr):It:=
 ⟨fun i H=>∃ xs x,SqT K H a xs/\xs[i]?=some x,fun i H x H'=>H'=H/\∀ xs,SqT K H a xs->xs[i]?=some x,fun i H=>∃ xs,SqT K H a xs/\xs.length<=i⟩
noncomputable def Itr(lo:Int)(n:Nat):It:=⟨fun i _=>i<n,fun i H x H'=>H'=H/\x=.int (lo+i),fun i _=>n<=i⟩
theorem qbr{K:yg}(a it:Addr):Turn P w K tg (Itl K a) [it] it (fun i h=>h.IsListIter it a i) where
 mem:=by simp
 obj:=fun i h st b hb=>by
  have e:b=it:=by simpa using hb
  subst e;obtain⟨o,e,c,d⟩:=st;show⟨o,e,fun v z=>by rw[d] at z;cases z⟩
 keep:=fun i h h' st k=>st.at fun o e=>k it (by simp) o e
 item:=by
  intro X y hw t hc i pins s σ H E I g st A;subst y hw t;obtain⟨xs,x,j,B⟩:=A;obtain⟨C,D,p,hz⟩:=I.list j;obtain⟨u,L,N⟩:=D.get B;obtain⟨l,m,J,n,q,r⟩:=g it (by simp);show wpAny_pyNext_list_item st p.isList (x:=u) (by simpa using L) fun h' f O=>?_;have F:Inv X pins σ H { s with heap:=h' }:=I.turned (t':=s.toks) (fun b o hb e=>(O.2 b hb).trans e) l m n q r;obtain⟨o,e,c,d⟩:=id f;show⟨u,rfl,qdt (s:={ s with heap:=h' }) e c d (by decide) ⟨x,H,F,N,⟨rfl,fun ys M=>by rw[I.list_inj M j];show B⟩,f,fun b hb=>(g b hb).1⟩⟩
 done:=by
  intro X y hw t hc i pins s σ H E I g st A;subst y hw t;obtain⟨xs,j,B⟩:=A;obtain⟨C,D,p,hz⟩:=I.list j;obtain⟨l,m,J,n,q,r⟩:=g it (by simp);have hl:=D.length;show wpAny_pyNext_list_end (I.ok.hd hc) st p.isList (by simp;lk) fun h' G=>⟨rfl,I.turned (t':=s.toks) (fun b o hb e=>G b o hb e) l m n q r⟩
 self:=fun _ _ _ _ _ st h=>wpAny_pyIter_listiter st h
theorem qaO{K:yg}(a it:Addr):Turn P w K tg (Itt K a) [it] it (fun i h=>h.IsTupleIter it a i) where
 mem:=by simp
 obj:=fun i h st b hb=>by
  have e:b=it:=by simpa using hb
  subst e;obtain⟨o,e,c,d⟩:=st;show⟨o,e,fun v z=>by rw[d] at z;cases z⟩
 keep:=fun i h h' st k=>st.at fun o e=>k it (by simp) o e
 item:=by
  intro X A hw y hc i pins s σ H E I j st B;subst A hw y;obtain⟨xs,x,l,C⟩:=B;obtain⟨f,D,p,hz⟩:=I.tuple l;obtain⟨u,L,N⟩:=D.get C;obtain⟨m,n,J,q,r,t⟩:=j it (by simp);show wpAny_pyNext_tuple_item st (show s.heap.IsTuple a f.toArray from p) (x:=u) (by simpa using L) fun h' g O=>?_;have F:Inv X pins σ H { s with heap:=h' }:=I.turned (t':=s.toks) (fun b o hb e=>(O.2 b hb).trans e) m n q r t;obtain⟨o,e,c,d⟩:=id g;show⟨u,rfl,qdt (s:={ s with heap:=h' }) e c d (by decide) ⟨x,H,F,N,⟨rfl,fun ys M=>by rw[I.tuple_inj M l];show C⟩,g,fun b hb=>(j b hb).1⟩⟩
 done:=by
  intro X A hw y hc i pins s σ H E I j st B;subst A hw y;obtain⟨xs,l,C⟩:=B;obtain⟨f,D,p,hz⟩:=I.tuple l;obtain⟨m,n,J,q,r,t⟩:=j it (by simp);have hl:=D.length;show wpAny_pyNext_tuple_end (I.ok.hd hc) st (show s.heap.IsTuple a f.toArray from p) (by simp;lk) fun h' G=>⟨rfl,I.turned (t':=s.toks) (fun b o hb e=>G b o hb e) m n q r t⟩
 self:=fun _ _ _ _ _ st h=>wpAny_pyIter_tupleiter st h
theorem turn_range{K:yg}(it:Addr)(lo:Int)(n:Nat):Turn P w K tg (Itr lo n) [it] it (fun i h=>IsRangeIter h it (lo+(i:Nat)*1) ((n:Int)-(i:Nat)) 1) where
 mem:=by simp
 obj:=fun i h st b hb=>by
  have e:b=it:=by simpa using hb
  subst e
  show⟨_,st,fun v z=>by
   have A:Data.fields _=Data.cell v:=z;cases A⟩
 keep:=fun i h h' st k=>k it (by simp) _ st
 item:=by
  intro X p hw m hc i pins s σ H E I c st q;subst p hw m;obtain⟨d,f,x,g,j,l⟩:=c it (by simp);have W:=Walks.range (prog:=X.prog) (w:=X.w) (I.ok.hd hc) it lo 1 n;show W.item i s _ _ q st fun v h' tk hv a y=>?_;obtain⟨t,rfl⟩:=hv;have r:Inv X pins σ H { s with heap:=h',toks:=tk }:=I.turned (fun b o hb e=>y b o (by simpa using hb) e) d f g j l;show⟨_,rfl,qdt (s:={ s with heap:=h',toks:=tk }) (n:="range_iterator") a rfl rfl (by decide) ⟨.int (lo+i),H,r,⟨t,?_⟩,⟨rfl,rfl⟩,a,fun b hb=>(c b hb).1⟩⟩;rw[Int.mul_one]
 done:=by
  intro X p hw m hc i pins s σ H E I c st q;subst p hw m;obtain⟨d,f,x,g,j,l⟩:=c it (by simp);show wpAny_pyNext_range_end (I.ok.hd hc) st (by have:n<=i:=q;lk) fun h' u=>⟨rfl,I.turned (t':=s.toks) (fun b o hb e=>u b o hb e) d f g j l⟩
 self:=fun _ _ _ _ _ st h=>wpAny_pyIter_rangeiter st h
section
variable{X:Cx}{tg:Expr}
def qe5(K:yg)(tl:TE):TI:=fun σ H R=>tl σ H fun x b=>∃ a,x=.ref a/\(∃ xs,SqT K b a xs)/\R (Itt K a) b
theorem pi_tup{l:Expr}{tl:TE}(hl:PE X l tl):PI X tg l (qe5 X.K tl):=by
 intro pins s σ H R I h;show thn (hl pins s σ H _ I h) fun v c ⟨x,g,d,m,j⟩=>?_;obtain⟨a,e,⟨xs,i⟩,q⟩:=j;subst e;cases m;obtain⟨f,n,p,hz⟩:=d.tuple i;show wpAny_pyIter_tuple (show c.heap.IsTuple a f.toArray from p) ?_;show⟨c.heap.objs.size,[c.heap.objs.size],_,_,g,rfl,d.kept (t':=c.toks) fun b o e=>yt _ e,qaO a _,⟨_,yJ _ rfl,rfl,rfl⟩,fun b hb=>?_,q⟩;have e:b=c.heap.objs.size:=by simpa using hb
 subst e;show d.fpOk (yh _) (d.hok.fresh (yh _))
theorem range_it{R:It->Hp->Prop}{a:Int}{t u v:Tok}{tk:Nat}(I:Inv X pins σ H s)(h1:-(2 ^ 62)<=lo)(g:lo<2 ^ 62)(h:-(2 ^ 62)<=a)(i:a<2 ^ 62)
  (q:R (Itr lo (a-lo).toNat) H):wpAny (model X.prog X.w) X.A (pyIter (.ref s.heap.objs.size)) (PIE X pins σ tg R) E { s with heap:=s.heap.push { cls:=.type "range",data:=.fields #[.int lo t,.int a u,.int 1 v] },toks:=tk }:=by
 show wpAny_pyIter_range (IsRange.new ..) (small_one h1 g h i) ?_;have c:Inv X pins σ H { s with heap:=s.heap.push { cls:=.type "range",data:=.fields #[.int lo t,.int a u,.int 1 v] },toks:=tk }:=I.kept fun b o e=>yt _ e;show⟨(s.heap.push { cls:=.type "range",data:=.fields #[.int lo t,.int a u,.int 1 v] }).objs.size,[(s.heap.push { cls:=.type "range",data:=.fields #[.int lo t,.int a u,.int 1 v] }).objs.size],_,_,H,rfl,
  c.kept (t':=tk) fun b o e=>yt _ e,turn_range _ lo (a-lo).toNat,?_,fun b hb=>?_,q⟩
 .have d:lo+((0:Nat):Int)*1=lo:=by simp
  have f:(((a-lo).toNat:Nat):Int)-((0:Nat):Int)=Builtin.Range.rangeSize lo a 1:=by rw[rangeSize_one];split<;>lk
  show IsRangeIter _ _ (lo+((0:Nat):Int)*1) ((((a-lo).toNat:Nat):Int)-((0:Nat):Int)) 1;rw[d,f];show yJ _ rfl
 .have e:b=(s.heap.push { cls:=.type "range",data:=.fields #[.int lo t,.int a u,.int 1 v] }).objs.size:=by simpa using hb
  subst e;show c.fpOk (yh _) (c.hok.fresh (yh _))
def qeo(b:TA):TI:=fun σ H R=>b σ H fun vs a=>∃ j:Int,vs=[.int j]/\-(2 ^ 62)<=j/\j<2 ^ 62/\R (Itr 0 j.toNat) a
theorem js{a:Expr}{c:TA}{p pos:Pos}(g:Gl X "range")(i:X.mg "range"=none)(f:PA X [a] c)(l:starEach [a] X.env=[(false,eval a X.env)]:=by rfl):PI X tg (.Call (.Name "range" p) [a] [] pos) (qeo c):=by
 intro pins s σ H R I h;show Call_ (qae I g i boot_range (YG (thn (f pos pins s σ H _ I h) fun us u ⟨vs,o,d,n,b⟩=>?_) l rfl));obtain⟨j,e,b,m,q⟩:=b;subst e
 cases n with
 | cons r rr =>
  cases rr;obtain⟨t,rfl⟩:=r;show call_range_1 (range_it d (by lk) (by lk) b m (by simpa using q))
def qe6(f:TI)(g:TG)(tb:TS):TS:=fun D σ H=>f σ H fun J d=>∃ W:Nat->Nat->St->Hp->Prop,(∃ m,W 0 m σ d)/\∀ i m σ H,W i m σ H ->
 (J.stop i H/\D.nx σ H)\/(J.go i H/\∃ N:St->Hp->Prop,(∀ a H',N a H'->∃ c,c<m/\W (i+1) c a H')/\∀ x H',J.yld i H x H'->g x σ H' fun b e=>tb { D with nx:=N,ct:=N,bk:=D.nx } b e)
noncomputable def qbs(fp:LI)(h:Heap):List (Addr×Obj):=fp.filterMap fun b=>(h.get? b).map fun o=>(b,o)
theorem zo{o:Obj}(hb:b∈fp)(e:h.get? b=some o):(b,o)∈qbs fp h:=List.mem_filterMap.mpr ⟨b,hb,by rw[e];rfl⟩
theorem of_pinsAt{p:Addr×Obj}(c:p∈qbs fp h):p.1∈fp/\h.get? p.1=some p.2:=by
 obtain⟨b,hb,e⟩:=List.mem_filterMap.mp c
 cases q:h.get? b with
 | none=>rw[q] at e;cases e
 | some o =>
  rw[q] at e;have a:(b,o)=p:=ym e;subst a;show⟨hb,q⟩
theorem Inv.pinned(I:Inv X pins σ H s)(h:∀ b∈fp,qbY X pins H b)(i:∀ b∈fp,∃ o,s.heap.get? b=some o/\∀ v,o.data≠.cell v):Inv X (pins++qbs fp s.heap) σ H s:=
 I.pins_of fun p j=>(yB.mp j).elim (fun z=>I.pin p (yG _ z)) fun z=>by
  obtain⟨hb,e⟩:=of_pinsAt z;obtain⟨c,f,g,_⟩:=h p.1 hb;obtain⟨o,a,d⟩:=i p.1 hb;rw[e] at a;cases a;show⟨e,c,f,g,d⟩
theorem Inv.unpinned{pl:List (Addr×Obj)}(I:Inv X (pins++pl) σ H s):Inv X pins σ H s:=I.pins_of fun p a=>I.pin p (yG _ (yT _ a))
theorem jc{l:Expr}{wi:TI}{pos:Pos}(C:PassesOwn (model X.prog X.w) X.A X.env X.xe)(hc:X.calm=true)(hi:PI X tg l wi)(hg:PG X tg g)(hb:PSs X body tb)
  (hs:∀ x,foldedSetIterable l X.env x=pure x:=by intro _;rfl):PS X (.For tg l body [] pos) (qe6 wi g tb):=by
 intro pins s σ H D I h;show wpAny_For (thn (hi pins s σ H _ I h) fun v s1 h1=>thn h1 fun aa s2 h2=>?_) hs;obtain⟨it,fp,tn,J,H2,e,I2,T,R,Z,W,⟨m0,w0⟩,turn⟩:=h2;subst e;have p:∀{H':Hp},(∀ b∈fp,H' b=none)->∀ b∈fp,qbY X pins H' b:=fun hn b hb=>⟨hn b hb,(Z b hb).2⟩;show codeAny_forLoop_any (fun n s'=>∃ i q H',Inv X pins q H' s'/\tn i s'.heap/\(∀ b∈fp,H' b=none)/\W i n q H') ?_ m0 ⟨0,σ,H2,I2,R,fun b hb=>(Z b hb).1,w0⟩;rintro n s3 ⟨i,t,K,Y,F,B,w3⟩;rcases turn i n t K w3 with⟨G,qn⟩ | ⟨go,N,hN,step⟩
 .show Y7 C (thn (T.done X rfl rfl rfl hc i pins s3 t K X.xe Y (p B) F G) fun r s4 ⟨O,I4⟩=>?_);subst O;show Xu ⟨t,K,I4,qn⟩
 .show Y7 C (thn (T.item X rfl rfl rfl hc i pins s3 t K X.xe Y (p B) F go) fun r s4 ⟨u,O,h4⟩=>?_);subst O;show Y7 C (thn h4 fun _ s5 ⟨x,U,I5,r5,y5,z,M⟩=>?_);have L:=I5.pinned (p M) (T.obj _ _ z);show Y7 C (thn (hg _ s5 t U x u _ L r5 (step x U y5)) fun _ s6 ⟨S,H6,I6,q6⟩=>?_);show Y7 C (thn (hb _ s6 S H6 _ I6 q6) fun f P y=>?_)
  have again:∀{a:St} {c:Hp},Inv X (pins++qbs fp s5.heap) a c P->N a c->∃ m,m<n/\∃ i q H',Inv X pins q H' P/\tn i P.heap/\(∀ b∈fp,H' b=none)/\W i m q H':=fun{a c} j E=>by
   obtain⟨m',hm,w7⟩:=hN a c E;show⟨m',hm,i+1,a,c,j.unpinned,T.keep _ _ _ z fun b hb o e=>(j.pin (b,o) (yG _ (yG _ (zo hb e)))).1,fun b hb=>?_,w7⟩;obtain⟨o,e,d⟩:=T.obj _ _ z b hb;show(j.pin (b,o) (yG _ (yG _ (zo hb e)))).2.1
  cases f with
  | next=>obtain⟨a,c,j,E⟩:=y;show again j E
  | cont=>obtain⟨a,c,j,E⟩:=y;show again j E
  | brk=>obtain⟨a,c,j,y⟩:=y;show⟨a,c,j.unpinned,y⟩
  | ret v=>obtain⟨x7,a,c,j,r7,y⟩:=y;show⟨x7,a,c,j.unpinned,r7,y⟩
end
theorem qQ{K:yg}(b:Nat->St->Hp->Prop)(l:b 0 σ H)(hl:∀ i σ H,i<=xs.length->b i σ H->SqL K H a xs)
  (r:∀ i x σ H,xs[i]?=some x->b i σ H->g x σ H fun d h=>tb { D with nx:=b (i+1),ct:=b (i+1),bk:=D.nx } d h) (n:∀ σ H,b xs.length σ H->D.nx σ H) :
  ∃ W:Nat->Nat->St->Hp->Prop,(∃ m,W 0 m σ H)/\∀ i m σ H,W i m σ H ->
   ((Itl K a).stop i H/\D.nx σ H)\/((Itl K a).go i H/\∃ N:St->Hp->Prop,(∀ c H',N c H'->∃ j,j<m/\W (i+1) j c H')/\∀ x H',(Itl K a).yld i H x H'->g x σ H' fun d h=>tb { D with nx:=N,ct:=N,bk:=D.nx } d h):=by
 show⟨fun i m σ H=>m=xs.length-i/\i<=xs.length/\b i σ H,⟨xs.length,by simp,Yi _,l⟩,?_⟩;rintro i m σ H ⟨rfl,o,p⟩;have q:=hl i σ H o p;by_cases f:i<xs.length
 .show .inr ⟨⟨xs,xs[i],q,by simp[f]⟩,b (i+1),fun c H' s=>⟨xs.length-(i+1),by lk,rfl,f,s⟩,fun x H' y=>?_⟩;obtain⟨e,y⟩:=y;subst e;show r i x σ _ (y xs q) p
 .have e:i=xs.length:=by lk
  subst e;show .inl ⟨⟨xs,q,yh _⟩,n σ H p⟩
theorem for_tup{K:yg}(b:Nat->St->Hp->Prop)(l:b 0 σ H)(hl:∀ i σ H,i<=xs.length->b i σ H->SqT K H a xs)
  (r:∀ i x σ H,xs[i]?=some x->b i σ H->g x σ H fun d h=>tb { D with nx:=b (i+1),ct:=b (i+1),bk:=D.nx } d h) (n:∀ σ H,b xs.length σ H->D.nx σ H) :
  ∃ W:Nat->Nat->St->Hp->Prop,(∃ m,W 0 m σ H)/\∀ i m σ H,W i m σ H ->
   ((Itt K a).stop i H/\D.nx σ H)\/((Itt K a).go i H/\∃ N:St->Hp->Prop,(∀ c H',N c H'->∃ j,j<m/\W (i+1) j c H')/\∀ x H',(Itt K a).yld i H x H'->g x σ H' fun d h=>tb { D with nx:=N,ct:=N,bk:=D.nx } d h):=by
 show⟨fun i m σ H=>m=xs.length-i/\i<=xs.length/\b i σ H,⟨xs.length,by simp,Yi _,l⟩,?_⟩;rintro i m σ H ⟨rfl,o,p⟩;have q:=hl i σ H o p;by_cases f:i<xs.length
 .show .inr ⟨⟨xs,xs[i],q,by simp[f]⟩,b (i+1),fun c H' s=>⟨xs.length-(i+1),by lk,rfl,f,s⟩,fun x H' y=>?_⟩;obtain⟨e,y⟩:=y;subst e;show r i x σ _ (y xs q) p
 .have e:i=xs.length:=by lk
  subst e;show .inl ⟨⟨xs,q,yh _⟩,n σ H p⟩
theorem zi(a:Nat->St->Hp->Prop)(j:a 0 σ H)
  (o:∀ i σ H,i<n->a i σ H->g (.int (lo+i)) σ H fun d f=>tb { D with nx:=a (i+1),ct:=a (i+1),bk:=D.nx } d f) (l:∀ σ H,a n σ H->D.nx σ H) :
  ∃ W:Nat->Nat->St->Hp->Prop,(∃ m,W 0 m σ H)/\∀ i m σ H,W i m σ H ->
   ((Itr lo n).stop i H/\D.nx σ H)\/((Itr lo n).go i H/\∃ N:St->Hp->Prop,(∀ c H',N c H'->∃ h,h<m/\W (i+1) h c H')/\∀ x H',(Itr lo n).yld i H x H'->g x σ H' fun d f=>tb { D with nx:=N,ct:=N,bk:=D.nx } d f):=by
 show⟨fun i m σ H=>m=n-i/\i<=n/\a i σ H,⟨n,by simp,Yi _,j⟩,?_⟩;rintro i m σ H ⟨rfl,r,p⟩;by_cases b:i<n
 .show .inr ⟨b,a (i+1),fun c H' q=>⟨n-(i+1),by lk,rfl,b,q⟩,fun x H' y=>?_⟩;obtain⟨e,y⟩:=y;subst e y;show o i σ _ b p
 .have e:i=n:=by lk
  subst e;show .inl ⟨yh _,l σ H p⟩
abbrev R2:=V->V->Hp->VK->Prop
def OpR(X:Cx)(f:Value->Value->Sem Value)(r:R2):Prop:=
 ∀(pins:List (Addr×Obj)) (s:Shared) (σ:St) (H:Hp) (x y:V) (v u:Value) (Q:VK),Inv X pins σ H s->RelV x v->RelV y u->r x y H Q ->
  wpAny (model X.prog X.w) X.A (f v u) (EP X pins σ Q) X.xe s
def UnR(X:Cx)(f:Value->Sem Value)(r:V->Hp->VK->Prop):Prop:=
 ∀(pins:List (Addr×Obj)) (s:Shared) (σ:St) (H:Hp) (x:V) (v:Value) (Q:VK),Inv X pins σ H s->RelV x v->r x H Q ->
  wpAny (model X.prog X.w) X.A (f v) (EP X pins σ Q) X.xe s
def zA(X:Cx)(f:Value)(r:List V->Hp->VK->Prop):Prop:=
 ∀(pins:List (Addr×Obj)) (s:Shared) (σ:St) (H:Hp) (xs:List V) (us:List Value) (Q:VK),Inv X pins σ H s->Vals xs us->r xs H Q ->
  wpAny (model X.prog X.w) X.A (call f us) (EP X pins σ Q) X.xe s
def tOp(r:R2)(c tb:TE):TE:=fun σ H Q=>c σ H fun x a=>tb σ a fun y b=>r x y b Q
def tUn(r:V->Hp->VK->Prop)(b:TE):TE:=fun σ H Q=>b σ H fun x a=>r x a Q
def rI(C:Int->Int->Prop)(g:Int->Int->V):R2:=fun x y H Q=>∃ i j,x=.int i/\y=.int j/\C i j/\Q (g i j) H
def rI0(g:Int->Int->V):R2:=fun x y H Q=>∃ i j,x=.int i/\y=.int j/\Q (g i j) H
def rU(g:Int->V):V->Hp->VK->Prop:=fun x H Q=>∃ i,x=.int i/\Q (g i) H
section
variable{X:Cx}{a b c:Expr}{ta tb tc:TE}{pos:Pos}
theorem qeN(m:PE X a ta)(hb:PE X b tb){R:V->V->Hp->Prop}(I:Inv X pins σ H s)
  (h:ta σ H fun x i=>tb σ i fun y c=>R x y c) {Q:Value->Shared->Prop}
  (n:∀ v u g x y c,Inv X pins σ c g->RelV x v->RelV y u->R x y c->wpAny (model X.prog X.w) X.A (f v u) Q X.xe g) :
  wpAny (model X.prog X.w) X.A (eval a X.env) (fun v d=>wpAny (model X.prog X.w) X.A (eval b X.env) (fun u e=>wpAny (model X.prog X.w) X.A (f v u) Q X.xe e) X.xe d) X.xe s:=by
 show thn (m pins s σ H _ I h) fun v t ⟨x,i,j,q,o⟩=>?_;show thn (hb pins t σ i _ j o) fun u g ⟨y,c,l,r,p⟩=>?_;show n v u g x y c l q r p
theorem qB{op:Operator}(f:OpR X (binaryOp op) r)(e:PE X a ta)(hb:PE X b tb):PE X (.BinOp a op b pos) (tOp r ta tb):=by
 intro pins s σ H Q I h;show wpAny_BinOp (qeN e hb I h fun v u j x y c d g i q=>f pins j σ c x y v u Q d g i q)
theorem qcG{op:UnaryOp}{r:V->Hp->VK->Prop}(e:UnR X (unaryOp op) r)(d:PE X a ta):PE X (.UnaryOp op a pos) (tUn r ta):=by
 intro pins s σ H Q I h;show UnaryOp_ (thn (d pins s σ H _ I h) fun v i ⟨x,b,c,g,f⟩=>e pins i σ b x v Q c g f)
theorem opI{C:Int->Int->Prop}{g:Int->Int->Int}
  (a:∀(i j:Int) (t u:Tok) (s:Shared) (Q:Value->Shared->Prop) (E:Value->Shared->Prop),C i j->Q (.int (g i j) s.toks) { s with toks:=s.toks+1 }->wpAny (model X.prog X.w) X.A (f (.int i t) (.int j u)) Q E s) :
  OpR X f (rI C fun i j=>.int (g i j)):=by
 intro pins s σ H x y v u Q I b c h;obtain⟨i,j,rfl,rfl,hc,q⟩:=h;obtain⟨t,rfl⟩:=b;obtain⟨t',rfl⟩:=c;show a i j t t' s _ _ hc ⟨.int (g i j),H,I.tok _,⟨_,rfl⟩,q⟩
theorem qeJ{g:Int->Int->Int}
  (a:∀(i j:Int) (t u:Tok) (s:Shared) (Q:Value->Shared->Prop) (E:Value->Shared->Prop),Q (.int (g i j) s.toks) { s with toks:=s.toks+1 }->wpAny (model X.prog X.w) X.A (f (.int i t) (.int j u)) Q E s) :
  OpR X f (rI0 fun i j=>.int (g i j)):=by
 intro pins s σ H x y v u Q I b c h;obtain⟨i,j,rfl,rfl,q⟩:=h;obtain⟨t,rfl⟩:=b;obtain⟨t',rfl⟩:=c;show a i j t t' s _ _ ⟨.int (g i j),H,I.tok _,⟨_,rfl⟩,q⟩
theorem qeO{g:Int->Int->Bool}
  (a:∀(i j:Int) (t u:Tok) (s:Shared) (Q:Value->Shared->Prop) (E:Value->Shared->Prop),Q (.bool (g i j)) s->wpAny (model X.prog X.w) X.A (f (.int i t) (.int j u)) Q E s) :
  OpR X f (rI0 fun i j=>.bl (g i j)):=by
 intro pins s σ H x y v u Q I b c h;obtain⟨i,j,rfl,rfl,q⟩:=h;obtain⟨t,rfl⟩:=b;obtain⟨t',rfl⟩:=c;show a i j t t' s _ _ ⟨.bl (g i j),H,I,rfl,q⟩
def CDiv(i j:Int):Prop:=0<j/\j<1073741824
def qe7(i j:Int):Prop:=0<=j/\j<=1000000/\i.natAbs<2 ^ 64
def CMul(i j:Int):Prop:=(-(2 ^ 64)<i/\i<2 ^ 64)\/(-(2 ^ 64)<j/\j<2 ^ 64)
theorem CMul.ok{i j:Int}(h:CMul i j):IntMulOk i j:=by
 rcases h with⟨h1,a⟩ | ⟨h1,a⟩
 .show .of_left (intBits_le_64 h1 a)
 .show .of_right (intBits_le_64 h1 a)
theorem two_pow_nn(k:Nat):(0:Int)<=2 ^ k:=by
 rw[two_pow_cast];show Int.natCast_nonneg _
theorem op_add:OpR X (binaryOp .Add) (rI0 fun i j=>.int (i+j)):=qeJ fun _ _ _ _ _ _ _ q=>add_int q
theorem qcg:OpR X (binaryOp .Sub) (rI0 fun i j=>.int (i-j)):=qeJ fun _ _ _ _ _ _ _ q=>sub_int q
theorem op_mul:OpR X (binaryOp .Mult) (rI CMul fun i j=>.int (i*j)):=opI fun _ _ _ _ _ _ _ hc q=>mul_int q hc.ok
theorem qa7:OpR X (binaryOp .FloorDiv) (rI CDiv fun i j=>.int (i / j)):=opI fun i j _ _ _ _ _ hc q=>by
 have h1:(0:Int)<j:=hc.1;have a:j<1073741824:=hc.2;show floordiv_int (by lk) (by rw[Int.fdiv_eq_ediv_of_nonneg i (by lk)];show q) (.inl (PyProof.noPylong_small (by lk)))
theorem zG:OpR X (binaryOp .Mod) (rI (fun _ j=>0<j) fun i j=>.int (i % j)):=opI fun i j _ _ _ _ _ hc q=>by
 have h1:(0:Int)<j:=hc;show mod_int' (by lk) (by rw[Int.fmod_eq_emod_of_nonneg i (by lk)];show q)
theorem op_pow:OpR X (binaryOp .Pow) (rI qe7 fun i j=>.int (i ^ j.toNat)):=opI fun _ _ _ _ _ _ _ hc q=>pow_int_small hc.1 hc.2.1 hc.2.2 q
theorem qdI:OpR X (binaryOp .LShift) (rI qe7 fun i j=>.int (i*2 ^ j.toNat)):=opI fun _ _ _ _ _ _ _ hc q=>lshift_int_small hc.1 hc.2.1 hc.2.2 q
theorem op_shr:OpR X (binaryOp .RShift) (rI (fun _ j=>0<=j) fun i j=>.int (i / 2 ^ j.toNat)):=opI fun i j _ _ _ _ _ hc q =>
 rshift_int hc (by rw[Int.fdiv_eq_ediv_of_nonneg i (two_pow_nn _)];show q)
theorem op_and:OpR X (binaryOp .BitAnd) (rI0 fun i j=>.int (Builtin.bitAnd i j)):=qeJ fun _ _ _ _ _ _ _ q=>and_int q
theorem qep:OpR X (binaryOp .BitOr) (rI0 fun i j=>.int (Builtin.bitOr i j)):=qeJ fun _ _ _ _ _ _ _ q=>or_int q
theorem unI{f:Value->Sem Value}{g:Int->Int}
  (a:∀(i:Int) (t:Tok) (s:Shared) (Q:Value->Shared->Prop) (E:Value->Shared->Prop),Q (.int (g i) s.toks) { s with toks:=s.toks+1 }->wpAny (model X.prog X.w) X.A (f (.int i t)) Q E s) :
  UnR X f (rU fun i=>.int (g i)):=by
 intro pins s σ H x v Q I b h;obtain⟨i,rfl,q⟩:=h;obtain⟨t,rfl⟩:=b;show a i t s _ _ ⟨.int (g i),H,I.tok _,⟨_,rfl⟩,q⟩
theorem qaP:UnR X (unaryOp .USub) (rU fun i=>.int (-i)):=unI fun _ _ _ _ _ q=>neg_int q
end
noncomputable def scal:V->V->Bool
 | .non,.non=>true | .non,.int _=>true | .int _,.non=>true | .non,.bl _=>true | .bl _,.non=>true | .non,.str _=>true | .str _,.non=>true
 | .int _,.int _=>true | .bl _,.bl _=>true | .str _,.str _=>true | .byt _,.byt _=>true
 | .int _,.str _=>true | .str _,.int _=>true | .bl _,.str _=>true | .str _,.bl _=>true
 | _,_=>false
def rEq:R2:=fun x y H Q=>scal x y=true/\Q (.bl (decide (x=y))) H
theorem dec_bl{i j:Bool}:decide (V.bl i=V.bl j)=(i==j):=by
 rw[Y8];simp
section
variable{X:Cx}{a b c:Expr}{ta tb tc:TE}{pos:Pos}
theorem fin_bl{Q:VK}{k k':Bool}(I:Inv X pins σ H s)(q:Q (.bl k) H)(e:k=k'):EP X pins σ Q (.bool k') s:=by
 subst e;show⟨.bl k,H,I,rfl,q⟩
theorem qcQ:OpR X (compareOp .Lt) (rI0 fun i j=>.bl (decide (i<j))):=qeO fun _ _ _ _ _ _ _ q=>lt_int q
theorem op_le:OpR X (compareOp .LtE) (rI0 fun i j=>.bl (decide (i<=j))):=qeO fun _ _ _ _ _ _ _ q=>le_int q
theorem qcH:OpR X (compareOp .Gt) (rI0 fun i j=>.bl (decide (j<i))):=qeO fun _ _ _ _ _ _ _ q=>gt_int q
theorem qy(b:Expr)(h:op≠.In:=by decide)(d:op≠.NotIn:=by decide):behindInMarks op b=false:=by
 have a:(op==CmpOp.In)=false:=by cases op<;>first | rfl | show absurd rfl h
 have c:(op==CmpOp.NotIn)=false:=by cases op<;>first | rfl | show absurd rfl d
 cases b<;>simp[behindInMarks,a,c]
theorem qN(g:OpR X (compareOp op) r)(e:PE X a ta)(hb:PE X b tb)(f:behindInMarks op b=false):PE X (.Compare a [op] [b] pos) (tOp r ta tb):=by
 intro pins s σ H Q I h;show wpAny_Compare1 (qeN e hb I h fun v u l x y c d i j q=>g pins l σ c x y v u Q d i j q) f
def qd4(t:TE):TT:=fun σ H Q=>t σ H fun x H'=>∃ k,x=.bl k/\Q k H'
theorem qt(o:OpR X (compareOp op) r)(m:PE X a ta)(hb:PE X b tb)(n:behindInMarks op b=false):PT X (.Compare a [op] [b] pos) (qd4 (tOp r ta tb)):=by
 intro pins s σ H Q I h
 show wpAny_isTrue_Compare1 (thn (m pins s σ H _ I h) fun v C ⟨x,d,i,w,p⟩=>thn (hb pins C σ d _ i p) fun u D ⟨y,f,j,A,q⟩ =>
  thn (o pins D σ f x y v u _ j w A q) fun c E ⟨z,g,l,B,k,e,t⟩=>?_) n
 subst e;cases B;show xk ⟨g,l,t⟩
def qcR(r r':R2)(ta tb tc:TE):TE:=fun σ H Q=>ta σ H fun x b=>tb σ b fun y c=>r x y c fun z a=>∃ k,z=.bl k /\
 (if k=true then tc σ a fun e d=>r' y e d Q else Q (.bl false) a)
theorem pe_chain(B:OpR X (compareOp op) r)(f:OpR X (compareOp op') r')(w:PE X a ta)(hb:PE X b tb)(hc:PE X c tc)
  (A:lastMarks [op,op'] [b,c]=false:=by with_unfolding_all rfl):PE X (.Compare a [op,op'] [b,c] pos) (qcR r r' ta tb tc):=by
 intro pins s σ H Q I h
 show Compare_chain (thn (w pins s σ H _ I h) fun v K ⟨x,m,p,F,C⟩=>chain_link (thn (hb pins K σ m _ p C) fun u L ⟨y,n,q,l,D⟩ =>
  thn (B pins L σ n x y v u _ q F l D) fun d M ⟨z,g,i,G,k,e,j⟩=>?_)) A
 subst e;cases G;show xk ?_
 cases k with
 | false=>show ite_ff ⟨.bl false,g,i,rfl,j⟩
 | true=>show ite_tt (chain_last (thn (hc pins M σ g _ i j) fun O N ⟨P,o,t,J,E⟩=>f pins N σ o y P u O Q t l J E))
theorem pt_chain(F:OpR X (compareOp op) r)(f:OpR X (compareOp op') r')(D:PE X a ta)(hb:PE X b tb)(hc:PE X c tc)
  (E:lastMarks [op,op'] [b,c]=false:=by with_unfolding_all rfl):PT X (.Compare a [op,op'] [b,c] pos) (qd4 (qcR r r' ta tb tc)):=by
 intro pins s σ H Q I h
 show isTrue_chain (thn (D pins s σ H _ I h) fun v S ⟨x,m,q,N,J⟩=>test_link (thn (hb pins S σ m _ q J) fun u T ⟨y,n,t,l,K⟩ =>
  thn (F pins T σ n x y v u _ t N l K) fun d U ⟨z,g,i,O,k,e,j⟩=>?_)) E
 subst e;cases O;show xk ?_
 cases k with
 | false =>
  obtain⟨k',B,G⟩:=j;cases B;show ite_ff ⟨g,i,G⟩
 | true =>
  show ite_tt (test_last (thn (hc pins U σ g _ i j) fun Y W ⟨Z,o,w,P,L⟩=>thn (f pins W σ o y Z u Y _ w l P L) fun d' s5 ⟨z2,p,A,R,k2,C,M⟩=>?_));subst C;cases R;show xk ⟨p,A,M⟩
theorem qaQ:(sizeLine:Nat)<2 ^ 63:=by rw[yX];decide
theorem op_add_str:OpR X (binaryOp .Add) (fun x y H Q=>∃ i j,x=.str i/\y=.str j/\i.length+j.length<=sizeLine/\Q (.str (i++j)) H):=by
 intro pins s σ H x y v u Q I a b h;obtain⟨i,j,rfl,rfl,hz,q⟩:=h;obtain⟨t,rfl⟩:=a;obtain⟨t',rfl⟩:=b;show add_str (fun t' tk=>⟨.str (i++j),H,I.tok _,⟨_,rfl⟩,q⟩) hz
theorem qap{x:V}(r:Vals [x] us):∃ u,us=[u]/\RelV x u:=by
 cases r with
 | cons r1 r2=>cases r2;show⟨_,rfl,r1⟩
theorem qd5{x:V}(r:Vals [x,y] us):∃ u a,us=[u,a]/\RelV x u/\RelV y a:=by
 cases r with
 | cons r1 r2 =>
  cases r2 with
  | cons r3 r4=>cases r4;show⟨_,_,rfl,r1,r3⟩
theorem call_max2(hc:X.calm=true):zA X (.builtin "max") (fun xs H Q=>∃ i j,xs=[.int i,.int j]/\Q (.int (if j>i then j else i)) H):=by
 intro pins s σ H xs us Q I r h;obtain⟨i,j,rfl,q⟩:=h;obtain⟨u,b,rfl,⟨t,rfl⟩,⟨t',rfl⟩⟩:=qd5 r;show max_two_ints (I.ok.hd hc) fun h' tk k=>⟨_,H,I.kept k,?_,q⟩;by_cases a:j>i
 .rw [yF a,yF a];show⟨_,rfl⟩
 .rw [yz a,yz a];show⟨_,rfl⟩
theorem qbt:zA X (.type "int") (fun xs H Q=>(∃ i,xs=[.int i]/\Q (.int i) H)\/∃ k,xs=[.bl k]/\Q (.int (if k then 1 else 0)) H):=by
 intro pins s σ H xs us Q I r h;rcases h with⟨i,rfl,q⟩ | ⟨k,rfl,q⟩
 .obtain⟨u,rfl,t,rfl⟩:=qap r;show call_int_int ⟨.int i,H,I,⟨_,rfl⟩,q⟩
 .obtain⟨u,rfl,a⟩:=qap r;cases a;show call_int_bool ⟨.int (if k then 1 else 0),H,I.tok _,⟨_,rfl⟩,q⟩
end
structure ObjM(h:Heap)(x dx C:Addr)(mA:Str->Option Value):Prop where
 obj:h.get? x=some (PySem.W.instObj C dx)
 ns:h.Ns1 dx mA
 ne:dx≠x
theorem qbu(n:h.Ns1 dx mA):∃ od,h.get? dx=some od/\∀ name,PySem.W.lookIn name od=some (mA name):=by
 obtain⟨o,es,ep,i,d,f,_,g⟩:=n;show⟨o,i,fun name=>?_⟩;have e:=g name;unfold nsFind findBy at e;rw[<- Array.find?_toList] at e;unfold PySem.W.lookIn;rw[d];dsimp only;split
 .rename_i y q
  rw[q] at e;show congrArg some e
 .rename_i q
  rw[q] at e
  have a:es.toList.any (·.refKey)=false:=by
   rw[List.any_eq_false];intro y j;obtain⟨z,t,b⟩:=f y (Array.mem_toList_iff.mp j);simp[DictEntry.refKey,b]
  have c:¬ es.toList.any (·.refKey)=true:=by rw[a];show Yh
  rw[yz c];show congrArg some e
theorem ObjM.look{x:Addr}(I:ObjM h x dx C mA):∃ od,PySem.W.InstAt h x (PySem.W.instObj C dx) C (some od)/\∀ name,PySem.W.lookIn name od=some (mA name):=
 let ⟨od,ho,hl⟩:=qbu I.ns
 ⟨od,⟨I.obj,rfl,rfl,ho⟩,hl⟩
section
variable{prog:Program}{w:World}{A:Around}{E:Value->Shared->Prop}{s:Shared}{K:yg}{x dx C f:Addr}{mA:Str->Option Value}{name:Str}{v:Value}
theorem get_map{a:Bool}{Q:Value->Shared->Prop}(X:K.In s.heap)(I:ObjM s.heap x dx C mA)(d:PySem.W.plainGet K C name=true)(e:PySem.W.hasDictIn K C=true)
  (c:PySem.W.findIn K (.ref C) name=some none) (hv:mA name=some v) (b:PySem.W.handedIn v=true) (h:Q v { s with toks:=s.toks+1 }) :
  wpAny (model prog w) A (getAttr (.ref x) name a) Q E s:=by
 obtain⟨od,J,hl⟩:=I.look;show PySem.W.get_value X J (XD d).1 (PySem.W.findObj_own e c rfl (by rw[hl,hv])) b h
theorem get_meth{pl:Sem Bool}{Q:Value×List Value->Shared->Prop}(X:K.In s.heap)(I:ObjM s.heap x dx C mA)(a:PySem.W.plainGet K C name=true)
  (b:PySem.W.findIn K (.ref C) name=some (some (.ref f))) (c:PySem.W.isFn K (.ref f)=true) (hv:mA name=none) (h:Q (.ref f,[.ref x]) s) :
  wpAny (model prog w) A (getMethod (.ref x) name pl) Q E s:=by
 obtain⟨od,J,hl⟩:=I.look;show PySem.W.method_fn X J (XD a).1 (XD a).2 b (yY.mp c) (by show(PySem.W.lookIn name od).map (·.isSome)=some false;rw[hl,hv];rfl) h
theorem set_map{ns:LS}{Q:Unit->Shared->Prop}(X:K.In s.heap)(I:ObjM s.heap x dx C mA)
  (o:PySem.W.findIn K (.ref C) "__setattr__"=some (some (.builtin "object.__setattr__"))) (n:PySem.W.plainOver K C=true) (p:PySem.W.takerIn K C name=some none) (m:PySem.W.hasDictIn K C=true)
  (hw:PySem.Within mA ns) (hsz:ns.length<=sizeLine)
  (h:∀ h',ObjM h' x dx C (fun y=>if y=name then some v else mA y)->Heap.SameBut dx s.heap h'->Q () { s with heap:=h',toks:=s.toks+2 }) :
  wpAny (model prog w) A (setAttr (.ref x) name v) Q E s:=by
 obtain⟨od,J,hl⟩:=I.look;show PySem.W.set_plain X J o (PySem.W.osa_open (s:={ s with toks:=s.toks+1 }) (r:=none) X J n p fun b=>?_);obtain⟨t,hc,f⟩:=xr m;have q:s.heap.get? x=some ⟨.ref C,some dx,.plain,#[]⟩:=I.obj;show yr (yu (yr (yr (wpAny_loadPart q (yr (PySem.W.Looks.here (s:={ s with toks:=s.toks+1 }) (XE X hc) ?_))))));rw[f];show yu (a:=some dx) (yr (yu (yr ?_)));show wpAny_nsSet1 (s:={ s with toks:=s.toks+1 }) I.ns fun h' c d=>?_;obtain⟨u,l,j,i,g,e⟩:=c.count (PySem.Within.cons name v hw);show yr (wpAny_lookBehind i (by rw[g];show pastItsLine_dict (yi e (by rw[yM];lk))) ?_);show yu (h _ ⟨(d.2 _ (Yn I.ne)).trans I.obj,c,I.ne⟩ d)
theorem make_map{R:Result->Shared->Prop}{vs:List Value}(X:K.In s.heap)(c:PySem.W.makesIn K C=true)
  (b:PySem.W.findIn K (.ref C) "__init__"=some (some (.ref f))) (a:PySem.W.typeIn K (.ref f)=some (.type "function"))
  (h:codeAny (model prog w) (A.under (.builtin "type.__call__" ⟨.ref C::vs,kw⟩)) (.call (.ref f) ⟨.ref (s.heap.objs.size+1)::vs,kw⟩) (PySem.W.InitBack (s.heap.objs.size+1) R)
   { s with heap:=(s.heap.push PySem.W.emptyDict).push (PySem.W.instObj C s.heap.objs.size) }) :
  codeAny (model prog w) A (.call (.ref C) ⟨vs,kw⟩) R s:=by
 obtain⟨e,g,d,t,i⟩:=s;show PySem.W.make_core (PySem.W.makes_of X c) (YT X b) (fun self=>PySem.W.bind_fn X self a) (.inl rfl) h
end
noncomputable def jv(f:Str)(v:V):List (Str×V)->List (Str×V)
 | []=>[(f,v)]
 | (g,x)::r=>if g=f then(g,v)::r else(g,x)::jv f v r
theorem qz(f g:Str)(v:V):∀ fs:List (Str×V),(jv f v fs).lookup g=if g=f then some v else fs.lookup g
 | []=>by
  show List.lookup g [(f,v)]=_;by_cases h:g=f
  .have hb:(g==f)=true:=yY.mpr h;simp only[List.lookup,hb,yF h]
  .have hb:(g==f)=false:=Yy.mpr h;simp only[List.lookup,hb,yz h]
 | (k,x)::r=>by
  have b:=qz f g v r;rw[show jv f v ((k,x)::r)=(if k=f then(k,v)::r else(k,x)::jv f v r) from rfl];by_cases a:k=f
  .rw [yF a];by_cases h:g=k
   .have hb:(g==k)=true:=yY.mpr h;simp only[List.lookup,hb,yF (h.trans a)]
   .have hb:(g==k)=false:=Yy.mpr h;simp only[List.lookup,hb,yz (fun e:g=f=>h (e.trans a.symm))]
  .rw [yz a];by_cases h:g=k
   .have hb:(g==k)=true:=yY.mpr h;simp only[List.lookup,hb,yz (fun e:g=f=>a (h.symm.trans e))]
   .have hb:(g==k)=false:=Yy.mpr h;simp only[List.lookup,hb];show b
theorem qaq(f:Str)(v:V):∀ fs:List (Str×V),f∈(jv f v fs).map (·.1)/\∀ g,g∈fs.map (·.1)->g∈(jv f v fs).map (·.1)
 | []=>⟨by simp[jv],fun g h=>by simp at h⟩
 | (k,x)::r=>by
  obtain⟨b,c⟩:=qaq f v r;rw[show jv f v ((k,x)::r)=(if k=f then(k,v)::r else(k,x)::jv f v r) from rfl];by_cases a:k=f
  .rw [yF a];subst a;show⟨by simp,fun g h=>by simpa using h⟩
  .rw [yz a];show⟨?_,fun g h=>?_⟩
   .rw [yV];show yw _ b
   .rw [yV] at h ⊢;rcases yE.mp h with e | e
    .show yE.mpr (.inl e)
    .show yw _ (c g e)
theorem jD(f:Str)(v:V):∀ fs:List (Str×V),(jv f v fs).length<=fs.length+1
 | []=>by simp[jv]
 | (k,x)::r=>by
  have b:=jD f v r;rw[show jv f v ((k,x)::r)=(if k=f then(k,v)::r else(k,x)::jv f v r) from rfl];by_cases a:k=f
  .rw [yF a,yM,yM];lk
  .rw [yz a,yM,yM];lk
theorem RelO.some_of{o:Option Value}(r:RelO (some v) o):∃ u,o=some u/\RelV v u:=by
 cases o with
 | none=>show(show False from r).elim
 | some u=>show⟨u,rfl,r⟩
theorem RelO.none_of{o:Option Value}(r:RelO none o):o=none:=by
 cases o with
 | none=>rfl
 | some u=>show(show False from r).elim
theorem qbv(r:RelV v u):PySem.W.handedIn u=true:=by
 cases v with
 | non=>cases (show u=Value.none from r);rfl
 | bl b=>cases (show u=Value.bool b from r);rfl
 | int i=>obtain⟨t,e⟩:=(show ∃ t,u=Value.int i t from r);cases e;rfl
 | str x=>obtain⟨t,e⟩:=(show ∃ t,u=Value.str x t from r);cases e;rfl
 | byt b=>obtain⟨t,e⟩:=(show ∃ t,u=Value.bytes b t from r);cases e;rfl
 | flt b=>obtain⟨t,e⟩:=(show ∃ t,u=Value.float b t from r);cases e;rfl
 | ref a=>cases (show u=Value.ref a from r);rfl
 | ty n=>cases (show u=Value.type n from r);rfl
section
variable{P:Program}{w:World}{H H':Hp}{h h':Heap}{a C dx:Addr}{fs fs':List (Str×V)}
theorem zZ(b:HOk P w H h)(e:H a=some (.ins C dx fs)):∃ mA,ObjM h a dx C mA/\(∀ f,RelO (fs.lookup f) (mA f))/\PySem.Within mA (fs.map (·.1))/\fs.length<=1000/\H dx=some (.own a):=by
 obtain⟨d,z,ne,c,mA,n,r,q⟩:=(show ObjOk P w H h a (.ins C dx fs) from b a _ e);show⟨mA,⟨c,n,ne⟩,r,q,z,d⟩
end
structure Cls(K:yg)(C:Addr):Prop where
 pg:PySem.W.plainGet K C Str.empty=true
 hd:PySem.W.hasDictIn K C=true
 po:PySem.W.plainOver K C=true
 sa:PySem.W.findIn K (.ref C) "__setattr__"=some (some (.builtin "object.__setattr__"))
theorem Cls.get{K:yg}(c:Cls K C)(f:Str):PySem.W.plainGet K C f=true:=c.pg
def NoAttr(K:yg)(C:Addr)(f:Str):Prop:=PySem.W.findIn K (.ref C) f=some none
theorem NoAttr.taker{K:yg}{f:Str}(n:NoAttr K C f):PySem.W.takerIn K C f=some none:=by
 unfold PySem.W.takerIn;rw[show PySem.W.findIn K (.ref C) f=some none from n];rfl
structure Con(K:yg)(C:Addr)(f:Str)(v:V)(u:Value):Prop where
 at_:PySem.W.findIn K (.ref C) f=some (some u)
 rel:RelV v u
 get:PySem.W.specialIn K u "__get__"=some none
 cp:PySem.W.copiedNames.contains f=false
structure Meth(K:yg)(C:Addr)(m:Str)(f:Addr):Prop where
 at_:PySem.W.findIn K (.ref C) m=some (some (.ref f))
 fn:PySem.W.isFn K (.ref f)=true
 kp:PySem.W.keepIn K (.ref f)=true
section
variable{X:Cx}{pins:List (Addr×Obj)}{σ:St}{H:Hp}{s:Shared}{a C dx:Addr}{fs:List (Str×V)}{f:Str}{v:V}{A:Around}{E:Value->Shared->Prop}
theorem getattr_ok{b:Bool}{Q:Value->Shared->Prop}(I:Inv X pins σ H s)(e:H a=some (.ins C dx fs))(c:Cls X.K C)(n:NoAttr X.K C f)(l:fs.lookup f=some v)
  (h:∀ u s',Inv X pins σ H s'->RelV v u->Q u s'):wpAny (model X.prog X.w) A (getAttr (.ref a) f b) Q E s:=by
 obtain⟨mA,O,r,_,_,_⟩:=zZ I.hok e;obtain⟨u,g,d⟩:=RelO.some_of (v:=v) (o:=mA f) (by rw[<- l];show r f);show get_map I.kIn O (c.get f) c.hd n g (qbv d) (h u _ (I.tok _) d)
theorem qaR{m:Str}{g:Addr}{pl:Sem Bool}{Q:Value×List Value->Shared->Prop}(I:Inv X pins σ H s)(e:H a=some (.ins C dx fs))(c:Cls X.K C)(k:Meth X.K C m g)(l:fs.lookup m=none)
  (h:Q (.ref g,[.ref a]) s):wpAny (model X.prog X.w) A (getMethod (.ref a) m pl) Q E s:=by
 obtain⟨mA,O,r,_,_,_⟩:=zZ I.hok e;have b:mA m=none:=RelO.none_of (by rw[<- l];show r m);show get_meth I.kIn O (c.get m) k.at_ k.fn b h
theorem setattr_ok{Q:Unit->Shared->Prop}(I:Inv X pins σ H s)(e:H a=some (.ins C dx fs))(c:Cls X.K C)(n:NoAttr X.K C f)(hl:fs.length<1000)(p:RelV y u)
  (h:∀ s',Inv X pins σ (upd H a (.ins C dx (jv f y fs))) s'->Q () s'):wpAny (model X.prog X.w) A (setAttr (.ref a) f u) Q E s:=by
 obtain⟨mA,O,r,j,_,i⟩:=zZ I.hok e;have hz:(fs.map (·.1)).length<=sizeLine:=by rw[ya,yX];lk
 show set_map I.kIn O c.sa c.po n.taker c.hd j hz fun h' d t=>h _ ?_;have l:∃ o,h'.get? dx=some o:=let ⟨o,_,_,e',_⟩:=d.ns;⟨o,e'⟩;show I.write (x:=a) (e:=dx) (by rw[e];show YH) (.inr i) (fun b q hb z=>(t.2 b hb).trans z) l ?_;show⟨by rw[qh O.ne];show i,?_,O.ne,d.obj,_,d.ns,fun g=>?_,fun g m=>?_⟩
 .have:=jD f y fs;lk
 .show RelO ((jv f y fs).lookup g) (if g=f then some u else mA g);rw[qz];by_cases q:g=f
  .rw [yF q,yF q];show p
  .rw [yz q,yz q];show r g
 .by_cases q:g=f
  .rw [q];show(qaq f y fs).1
  .show(qaq f y fs).2 g (j g fun z=>m ?_);show(if g=f then some u else mA g)=none;rw[yz q];show z
theorem Inv.made(I:Inv X pins σ H s):Inv X pins σ (upd (upd H s.heap.objs.size (.own (s.heap.objs.size+1))) (s.heap.objs.size+1) (.ins C s.heap.objs.size []))
  { s with heap:=(s.heap.push PySem.W.emptyDict).push (PySem.W.instObj C s.heap.objs.size) }:=by
 have c:(s.heap.push PySem.W.emptyDict).get? s.heap.objs.size=some PySem.W.emptyDict:=yJ s.heap rfl
 have f:((s.heap.push PySem.W.emptyDict).push (PySem.W.instObj C s.heap.objs.size)).get? (s.heap.objs.size+1)=some (PySem.W.instObj C s.heap.objs.size):=by
  have:=yJ (s.heap.push PySem.W.emptyDict) (o:=PySem.W.instObj C s.heap.objs.size) rfl
  rwa[YZ] at this
 have g:(s.heap.push PySem.W.emptyDict).Ns s.heap.objs.size (fun _=>none):=⟨PySem.W.emptyDict,#[],_,c,rfl,(fun e h=>absurd h (by simp)),fun _=>rfl⟩;have d:=I.laid (a:=s.heap.objs.size) (o:=.own (s.heap.objs.size+1)) (h':=s.heap.push PySem.W.emptyDict) (t':=s.toks) (fun b u q=>yt _ q) (yh _) ⟨_,c⟩;show d.laid (a:=s.heap.objs.size+1) (o:=.ins C s.heap.objs.size []) (t':=s.toks) (fun b u q=>yt _ q) (Xc (YZ _ _)) ?_;have ne:s.heap.objs.size≠s.heap.objs.size+1:=yy (YN _);show⟨by rw[qh ne,qb],Yi _,ne,f,fun _=>none,(Heap.Ns1.of_empty g).at fun o q=>yt _ q,fun _=>YH,fun y i=>absurd rfl i⟩
theorem attr_of{prog:Program}{env:Env}{f:Str}{pos:Pos}{Q:Value->Shared->Prop}(hb:attributeBase e f env (eval e env)=eval e env)
  (h:wpAny (model prog w) A (eval e env) (fun o a=>wpAny (model prog w) A (getAttr o f true) Q E a) E s):wpAny (model prog w) A (eval (.Attribute e f pos) env) Q E s:=
 Attribute_any_ h (by rw[arm_eval_Attribute,hb])
end
section
variable{X:Cx}{o e value:Expr}{f:Str}{pos pos' tpos:Pos}{ta tv:TE}
end
section
variable{X:Cx}{pins:List (Addr×Obj)}{σ:St}{H:Hp}{s:Shared}{A:Around}{E:Value->Shared->Prop}{Q:Value->Shared->Prop}{c:Value}{b:Bool}
inductive TyOf(K:yg)(H:Hp):V->Value->Prop where
 | non:TyOf K H .non (.type "NoneType")
 | bl (x:Bool):TyOf K H (.bl x) (.type "bool")
 | int (i:Int):TyOf K H (.int i) (.type "int")
 | str (x:Str):TyOf K H (.str x) (.type "str")
 | flt (x:UInt64):TyOf K H (.flt x) (.type "float")
 | lst {a:Addr} {xs:List V} (e:H a=some (.lst xs)):TyOf K H (.ref a) (.type "list")
 | frz {a:Addr} {o:Obj} {xs:List V} (e:H a=some (.frz o (.lst xs))):TyOf K H (.ref a) (.type "list")
 | tup {a:Addr} {xs:List V} (e:H a=some (.tup xs)):TyOf K H (.ref a) (.type "tuple")
 | dK {a:Addr} {kvs:List (Key×V)} (e:H a=some (.dK kvs)):TyOf K H (.ref a) (.type "dict")
 | dT {a:Addr} {kvs:List (List Key×V)} (e:H a=some (.dT kvs)):TyOf K H (.ref a) (.type "dict")
 | ins {a C dx:Addr} {fs:List (Str×V)} (e:H a=some (.ins C dx fs)) (cl:Cls K C) (ha:PySem.W.findIn K (.ref C) "__class__"=some (some (.builtin "object.__class__")))
   (hn:PySem.W.specialIn K (.builtin "object.__class__") "__get__"=some (some (.builtin "getset_descriptor.__get__"))) (htk:PySem.W.takesIn K (.builtin "object.__class__")=some true)
   (hm:PySem.W.mroIn K C (.type "object")=some true):TyOf K H (.ref a) (.ref C)
end
structure Room(k:Nat)(A:Around):Prop where
 hd:A.handled=none
 dp:A.depth+3*k+5<recursionLimit
 un:A.units+16*k+200<cLine
 gd:A.guards=some []
theorem Room.mono{k:Nat}(r:Room k A)(h:j<=k):Room j A:=⟨r.hd,by have:=r.dp;lk,by have:=r.un;lk,r.gd⟩
theorem Room.deeper{k:Nat}(r:Room (k+1) A)(env:Env):Room k (A.deeper env):=
 ⟨r.hd,by have:=r.dp;show A.depth+1+3*k+5<_;lk,by have:=r.un;show A.units+3+16*k+200<_;lk,r.gd⟩
theorem Room.in1{k:Nat}(r:Room (k+1) A):Room k A.in1:=
 ⟨r.hd,by have:=r.dp;show A.depth+3*k+5<_;lk,by have:=r.un;show A.units+1+16*k+200<_;lk,r.gd⟩
theorem make_depth:(A.under (.builtin "type.__call__" ⟨.ref C::us,kw⟩)).depth=A.depth+1:=by
 first | rfl | simp[Around.under,Code.weight,Code.isCreation,Code.isGuard,Code.isCaller,Code.frames,Code.isFrame,guardIds]
theorem make_units:(A.under (.builtin "type.__call__" ⟨.ref C::us,kw⟩)).units=A.units+1:=by
 first | rfl | simp[Around.under,Code.cUnits,Code.frames,Code.isFrame]
theorem make_guards:(A.under (.builtin "type.__call__" ⟨.ref C::us,kw⟩)).guards=A.guards:=by
 first | rfl | simp[Around.under,Code.guards,Code.isGuard,guardIds,pushGuards]
theorem Room.make{k:Nat}(r:Room (k+1) A)(C:Addr)(us:List Value)(kw:List (Str×Value)):Room k (A.under (.builtin "type.__call__" ⟨.ref C::us,kw⟩)):=
 ⟨r.hd,by have:=r.dp;rw[make_depth];lk,by have:=r.un;rw[make_units];lk,by rw[make_guards];show r.gd⟩
theorem Room.depth{k:Nat}(r:Room k A):A.depth<recursionLimit:=by have:=r.dp;lk
def qeq:TA:=fun _ H Q=>Q [] H
def qdu(c:TE)(d:TA):TA:=fun σ H Q=>c σ H fun x a=>d σ a fun xs b=>Q (x::xs) b
section
variable{X:Cx}{e:Expr}{es:List Expr}{te:TE}{t:TA}{pos:Pos}
theorem qd:PA X [] qeq:=fun _ _ _ _ H Q I h=>XS ⟨[],H,I,.nil,h⟩
theorem qa(f:PE X e te)(g:PA X es t)(i:starEach (e::es) X.env=(false,eval e X.env)::starEach es X.env:=by rfl):PA X (e::es) (qdu te t):=by
 intro pos pins s σ H Q I h;rw[i];show wpAny _ _ (spliced ((false,eval e X.env)::backTo pos (starEach es X.env))) _ _ s;show XI (thn (f pins s σ H _ I h) fun u o ⟨x,a,c,m,j⟩=>?_);show thn (g pos pins o σ a _ c j) fun us p ⟨xs,b,d,n,l⟩=>⟨x::xs,b,d,.cons m n,l⟩
inductive NewT(xs:List V)(H:Hp)(Q:VK):Prop|mk (_:xs.length<=sizeLine) (_:∀ p,H p=none->Q (.ref p) (upd H p (.tup xs)))
inductive NewL(xs:List V)(H:Hp)(Q:VK):Prop|mk (_:xs.length<=sizeLine) (_:∀ p,H p=none->Q (.ref p) (upd H p (.lst xs)))
def qe8(t:TA):TE:=fun σ H Q=>t σ H fun xs a=>NewT xs a Q
def qe9(t:TA):TE:=fun σ H Q=>t σ H fun xs a=>NewL xs a Q
theorem jw{x1}(h:PA X es t):PE X (.Tuple es x1 pos) (qe8 t):=by
 intro pins s σ H Q I g;show wpAny_Tuple_spliced (thn (h pos pins s σ H _ I g) fun us a ⟨xs,c,d,r,z,q⟩=>⟨by rw[<- r.length];show z,?_⟩);have f:c a.heap.objs.size=none:=d.hok.fresh (yh _);show⟨.ref a.heap.objs.size,upd c a.heap.objs.size (.tup xs),d.laid (t':=a.toks) (fun b u e=>yt _ e) (yh _) ?_,rfl,q _ f⟩;show⟨z,us,r,⟨_,yJ _ rfl,rfl,_,rfl⟩⟩
theorem jo(h:PA X es t):PE X (.List es pos) (qe9 t):=by
 intro pins s σ H Q I g;show wpAny_List_spliced (thn (h pos pins s σ H _ I g) fun us a ⟨xs,c,d,r,z,q⟩=>⟨by rw[<- r.length];show z,?_⟩);have f:c a.heap.objs.size=none:=d.hok.fresh (yh _);show⟨.ref a.heap.objs.size,upd c a.heap.objs.size (.lst xs),d.laid (t':=a.toks) (fun b u e=>yt _ e) (yh _) ?_,rfl,q _ f⟩;show⟨z,us,0,r,yJ _ rfl⟩
end
abbrev Sp:=List V->Hp->VK->XK->Prop
abbrev CXT:=List Env->Hp->Shared->XK->Value->Shared->Prop
structure Env0(P:Program)(w:World)(K:yg)(mg:Str->Option Value)(base:Heap)(A:Around)(outer:List Env)(s:Shared)(H:Hp):Prop where
 frames:A.frames=some outer
 mod:Mod K mg base
 bs:∀ b o,base.get? b=some o->s.heap.get? b=some o/\H b=none
 bsz:base.objs.size<=s.heap.objs.size
 funs:s.heap.FunFrames base outer
 frf:∀ b∈frs outer,H b=none
 hok:HOk P w H s.heap
 bare:AllBare s.gens
def CE(outer:List Env)(P:Program)(w:World)(H:Hp)(s:Shared)(Q:VK)(u:Value)(s':Shared):Prop:=
 ∃ v H',s'.os=s.os/\AllBare s'.gens/\Un (frs outer) [] H H' s.heap s'.heap/\HOk P w H' s'.heap/\RelV v u/\Q v H'
def CR(CX:CXT)(outer:List Env)(P:Program)(w:World)(H:Hp)(s:Shared)(Q:VK)(E:XK)(r:Result)(s':Shared):Prop:=
 match r with
 | .ok (.ret u)=>CE outer P w H s Q u s'
 | .ok _=>False
 | .error e=>CX outer H s E e s'
structure FnOk(P:Program)(w:World)(K:yg)(mg:Str->Option Value)(base:Heap)(CX:CXT)(k:Nat)(f:Addr)(fd:FuncData)(ps:LS)(sp:Sp):Prop where
 len:∀ vs H Q E,sp vs H Q E->vs.length=ps.length
 run:∀(A:Around) (outer:List Env) (s:Shared) (H:Hp) (args:Args) (us:List Value) (vs:List V) (Q:VK) (E:XK),Room k A->Env0 P w K mg base A outer s H->BindsTo s fd args (ps.zip us)->Vals vs us->sp vs H Q E ->
  codeAny (model P w) A (.call (.ref f) args) (CR CX outer P w H s Q E) s
theorem Env0.make{K:yg}(e:Env0 P w K mg base A outer s H)(C:Addr)(us:List Value)(kw:List (Str×Value)) :
  Env0 P w K mg base (A.under (.builtin "type.__call__" ⟨.ref C::us,kw⟩)) outer s H:=⟨by first | show e.frames | (simpa [Around.under,Code.envs,Code.isFrame,pushEnvs] using e.frames),e.mod,e.bs,e.bsz,e.funs,e.frf,e.hok,e.bare⟩
section
variable{X:Cx}{pins:List (Addr×Obj)}{σ:St}{H:Hp}{s s':Shared}
theorem Inv.env0(I:Inv X pins σ H s):Env0 X.prog X.w X.K X.mg X.base X.A X.stack s H:=
 ⟨I.ok.frames,I.ok.mod,I.bs,yi I.ok.bsz I.sz,I.stack,I.stkFree,I.hok,I.bare⟩
theorem Inv.after{Q:VK}(I:Inv X pins σ H s)(h:CE X.stack X.prog X.w H s Q u s'):EP X pins σ Q u s':=by
 obtain⟨v,H',i,a,un,c,r,q⟩:=h;obtain⟨f,g,d,t,e⟩:=s';obtain rfl:e=s.os:=i;show⟨v,H',I.call (h':=f) (g':=g) (d':=d) (t':=t) (ch:=[]) un c a (fun b z=>absurd z (by simp)),r,q⟩
end
def qdv(sp:Sp)(a:List V)(E:XK)(t:TA):TE:=fun σ H Q=>t σ H fun vs b=>sp (vs++a) b Q E
inductive MeR(C:Addr)(m:Str)(x:V)(H:Hp)(k:Prop):Prop|mk (a dx:Addr) (fs:List (Str×V)) (_:x=.ref a) (_:H a=some (.ins C dx fs)) (_:fs.lookup m=none) (_:k)
def qcS(C:Addr)(m:Str)(sp:Sp)(a:List V)(E:XK)(d:TE)(t:TA):TE:=fun σ H Q=>d σ H fun x b=>MeR C m x b (t σ b fun vs c=>sp (x::(vs++a)) c Q E)
def qd6(C:Addr)(sp:Sp)(b:List V)(E:XK)(t:TA):TE:=fun σ H Q=>t σ H fun vs a=>∀ x dx,a x=none->a dx=none->dx≠x ->
 sp (.ref x::(vs++b)) (upd (upd a dx (.own x)) x (.ins C dx [])) (fun v c=>v=.non/\Q (.ref x) c) E
def Binds(K:yg)(b:FuncData)(ps:LS)(a:List Value):Prop:=
 ∀(s:Shared) (us:List Value),K.In s.heap->(us++a).length=ps.length->BindsTo s b ⟨us,[]⟩ (ps.zip (us++a))
theorem Binds.all{K:yg}{a:FuncData}(h:∀ us:List Value,us.length=ps.length->bindArgs a ⟨us,[]⟩=pure (ps.zip us)):Binds K a ps []:=fun s us _ hl=>by
 rw[Yg] at hl ⊢;show .of_eq (h us hl)
def qaf(CX:CXT)(X:Cx)(E:XK):Prop:=∀(pins:List (Addr×Obj)) (σ:St) (H:Hp) (s:Shared) (e:Value) (s':Shared),Inv X pins σ H s->CX X.stack H s E e s'->X.xe e s'
section
variable{X:Cx}{CX:CXT}{k:Nat}{f C:Addr}{fd:FuncData}{ps:LS}{sp:Sp}{dvs:List V}{ds:List Value}{E:XK}{x m:Str}{p pos apos:Pos}{e o:Expr}{es:List Expr}{ta:TE}{t:TA}
theorem qcT{Q:VK}(F:FnOk X.prog X.w X.K X.mg X.base CX k f fd ps sp)(d:Room k X.A)(hb:Binds X.K fd ps ds)(c:Vals dvs ds)(g:qaf CX X E)
  (I:Inv X pins σ H s) (r:Vals vs us) (h:sp (vs++dvs) H Q E):wpAny (model X.prog X.w) X.A (call (.ref f) us) (EP X pins σ Q) X.xe s:=by
 have b:Vals (vs++dvs) (us++ds):=r.append c;have hl:(us++ds).length=ps.length:=by rw[<- b.length];show F.len _ _ _ _ h
 show Xk (XH (F.run X.A X.stack s H ⟨us,[]⟩ (us++ds) (vs++dvs) Q E d I.env0 (hb s us I.kIn hl) b h) fun r s' a=>?_)
 cases r with
 | error e=>show g pins σ H s e s' I a
 | ok fl =>
  cases fl with
  | ret u=>show I.after a
  | next=>show False.elim a
  | brk=>show False.elim a
  | cont=>show False.elim a
theorem pe_call(F:FnOk X.prog X.w X.K X.mg X.base CX k f fd ps sp)(n:Room k X.A)(j:Gl X x)(m:X.mg x=some (.ref f))(l:PySem.W.keepIn X.K (.ref f)=true)(hb:Binds X.K fd ps ds)(g:Vals dvs ds)(o:qaf CX X E)
  (d:PA X (e::es) t) (a:(x==("__debug__":Str))=false:=by decide) (i:starEach (e::es) X.env=(false,eval e X.env)::starEach es X.env:=by rfl) (b:(backTo pos (starEach es X.env)).any (·.1)=false:=by rfl) :
  PE X (.Call (.Name x p) (e::es) [] pos) (qdv sp dvs E t):=by
 intro pins s σ H Q I h;show xz (qbW I j m ?_ a);show XJ (h₀:=X.base) I.ok.mod.kin l (thn (d pos pins s σ H _ I h) fun us v ⟨vs,u,c,r,q⟩=>⟨c.kIn,?_⟩) i b;show qcT F n hb g o c r q
theorem pe_meth{pl:Sem Bool}(B:PE X o ta)(c:Cls X.K C)(j:Meth X.K C m f)(F:FnOk X.prog X.w X.K X.mg X.base CX k f fd ps sp)(D:Room k X.A)(hb:Binds X.K fd ps ds)(z:Vals dvs ds)(J:qaf CX X E)(y:PA X (e::es) t)
  (d:starEach (e::es) X.env=(false,eval e X.env)::starEach es X.env:=by rfl) (b:(backTo pos (starEach es X.env)).any (·.1)=false:=by rfl)
  (G:eval (.Call (.Attribute o m apos) (e::es) [] pos) X.env=(do
   let ov <- eval o X.env
   standAt apos.atName
   let (f,first) <- holding [ov] (getMethod ov m pl)
   callWith pos f first (backTo pos (starEach (e::es) X.env)) (backToKw pos (keywordEach [] X.env))):=by rfl) :
  PE X (.Call (.Attribute o m apos) (e::es) [] pos) (qcS C m sp dvs E ta t):=by
 intro pins s σ H Q I h;show PySem.W.methodCall_KW (pl:=pl) (thn (B pins s σ H _ I h) fun u N ⟨x,n,g,M,a,dx,fs,v,p,l,q⟩=>?_) G;subst v;obtain rfl:u=Value.ref a:=M;show qaR g p c j l ?_;show XJ (first:=[.ref a]) (h₀:=X.base) I.ok.mod.kin j.kp (thn (y pos pins N σ n _ g q) fun us P ⟨vs,O,i,r,L⟩=>⟨i.kIn,?_⟩) d b;show qcT (us:=.ref a::us) (vs:=.ref a::vs) F D hb z J i (.cons rfl r) L
theorem pe_meth0{pl:Sem Bool}(j:PE X o ta)(c:Cls X.K C)(d:Meth X.K C m f)(F:FnOk X.prog X.w X.K X.mg X.base CX k f fd ps sp)(n:Room k X.A)(hb:Binds X.K fd ps ds)(i:Vals dvs ds)(r:qaf CX X E)
  (p:eval (.Call (.Attribute o m apos) [] [] pos) X.env=(do
   let ov <- eval o X.env
   standAt apos.atName
   let (f,first) <- holding [ov] (getMethod ov m pl)
   callWith pos f first (backTo pos (starEach [] X.env)) (backToKw pos (keywordEach [] X.env))):=by rfl) :
  PE X (.Call (.Attribute o m apos) [] [] pos) (qcS C m sp dvs E ta qeq):=by
 intro pins s σ H Q I h;show PySem.W.methodCall_KW (pl:=pl) (thn (j pins s σ H _ I h) fun u y ⟨x,v,b,t,a,dx,fs,g,e,l,q⟩=>?_) p;subst g;obtain rfl:u=Value.ref a:=t;show qaR b e c d l ?_;show PySem.W.callWith_K0 (first:=[.ref a]) b.kIn d.kp (qcT (us:=[.ref a]) (vs:=[.ref a]) F n hb i r b (.cons rfl .nil) q)
structure Mk(K:yg)(C f:Addr):Prop where
 makes:PySem.W.makesIn K C=true
 init:PySem.W.findIn K (.ref C) "__init__"=some (some (.ref f))
 fn:PySem.W.isFn K (.ref f)=true
 kp:PySem.W.keepIn K (.ref C)=true
theorem run_make{Q:VK}(M:Mk X.K C f)(F:FnOk X.prog X.w X.K X.mg X.base CX k f fd ps sp)(m:Room (k+1) X.A)(hb:Binds X.K fd ps ds)(l:Vals dvs ds)
  (n:qaf CX X E) (I:Inv X pins σ H s) (r:Vals vs us)
  (h:∀ x dx,H x=none->H dx=none->dx≠x->sp (.ref x::(vs++dvs)) (upd (upd H dx (.own x)) x (.ins C dx [])) (fun v g=>v=.non/\Q (.ref x) g) E) :
  wpAny (model X.prog X.w) X.A (call (.ref C) us) (EP X pins σ Q) X.xe s:=by
 have c:=h (s.heap.objs.size+1) s.heap.objs.size (I.hok.fresh (Xs _)) (I.hok.fresh (yh _)) (yy (YN _));have b:=Inv.made (C:=C) I;have d:Vals (V.ref (s.heap.objs.size+1)::(vs++dvs)) (Value.ref (s.heap.objs.size+1)::(us++ds)):=.cons rfl (r.append l)
 have hl:(Value.ref (s.heap.objs.size+1)::us++ds).length=ps.length:=by
  have e:=d.length;rw[F.len _ _ _ _ c] at e;show e.symm
 show Xk (make_map (f:=f) I.kIn M.makes M.init (yY.mp M.fn) (XH (F.run _ X.stack _ _ ⟨Value.ref (s.heap.objs.size+1)::us,[]⟩ (Value.ref (s.heap.objs.size+1)::(us++ds)) _ _ E (m.make C us [])
  (b.env0.make C us []) (hb _ (Value.ref (s.heap.objs.size+1)::us) b.kIn hl) d c) fun r s' a=>?_))
 cases r with
 | error e=>show n pins σ _ _ e s' b a
 | ok fl =>
  cases fl with
  | ret u =>
   obtain⟨v,H',i,p,j,o⟩:=b.after a;subst j;show⟨p,⟨V.ref (s.heap.objs.size+1),H',i,rfl,o⟩⟩
  | next=>show False.elim a
  | brk=>show False.elim a
  | cont=>show False.elim a
theorem pe_make(M:Mk X.K C f)(F:FnOk X.prog X.w X.K X.mg X.base CX k f fd ps sp)(m:Room (k+1) X.A)(j:Gl X x)(l:X.mg x=some (.ref C))(hb:Binds X.K fd ps ds)(g:Vals dvs ds)(n:qaf CX X E)
  (d:PA X (e::es) t) (a:(x==("__debug__":Str))=false:=by decide) (i:starEach (e::es) X.env=(false,eval e X.env)::starEach es X.env:=by rfl) (b:(backTo pos (starEach es X.env)).any (·.1)=false:=by rfl) :
  PE X (.Call (.Name x p) (e::es) [] pos) (qd6 C sp dvs E t):=by
 intro pins s σ H Q I h;show xz (qbW I j l ?_ a);show XJ (h₀:=X.base) I.ok.mod.kin M.kp (thn (d pos pins s σ H _ I h) fun us u ⟨vs,o,c,r,q⟩=>⟨c.kIn,?_⟩) i b;show run_make M F m hb g n c r q
end
section
variable{X:Cx}{CX:CXT}{k:Nat}{f C:Addr}{fd:FuncData}{ps ks:LS}{sp:Sp}{E:XK}{x m:Str}{p pos apos kpos:Pos}{e o:Expr}{es:List Expr}{kws:List Keyword}{te ta:TE}{t tk:TA}{nm:Option Str}
structure KBinds(K:yg)(fd:FuncData)(ps ks:LS)(g:List Value->List Value->List Value)(gV:List V->List V->List V):Prop where
 to:∀(s:Shared) (us ws:List Value),K.In s.heap->(g us ws).length=ps.length->BindsTo s fd ⟨us,ks.zip ws⟩ (ps.zip (g us ws))
 rel:∀{vs:List V} {us:List Value} {zs:List V} {ws:List Value},Vals vs us->Vals zs ws->Vals (gV vs zs) (g us ws)
variable{g:List Value->List Value->List Value}{gV:List V->List V->List V}
end
structure FnScope(N P:LS)(sc:Scope):Prop where
 kind:sc.kind=.function
 co:sc.isCoroutine=false
 gen:sc.isGenerator=false
 nd:N.Nodup
 pre:N.take P.length=P
 par:∀ x∈P,sc.names.lookup x=some .local\/sc.names.lookup x=some .cell
 nofree:∀ y∈sc.names,y.2≠.free
theorem fS{P:LS}(a:sc.kind=.function:=by rfl)(b:sc.isCoroutine=false:=by rfl)(c:sc.isGenerator=false:=by rfl)(d:N.Nodup:=by room)(e:N.take P.length=P:=by rfl)(f:∀ x∈P,sc.names.lookup x=some .local\/sc.names.lookup x=some .cell:=by room)(g:∀ y∈sc.names,y.2≠.free:=by room):FnScope N P sc:=⟨a,b,c,d,e,f,g⟩
theorem qbw:∀{binds:List (Str×Value)} {m:Str->Option Value},(∀ v,(x,v)∉binds)->bindL kindOf binds m x=m x
 | [],_,_=>rfl
 | (n,v)::r,m,h=>by
  unfold bindL;rw[qbw fun w hw=>h w (yw _ hw)];split
  .have:x≠n:=by rintro rfl;show h v yC
   simp[this]
  .rfl
theorem qbx:∀{binds:List (Str×Value)} {m:Str->Option Value},(∀ v,(x,v)∉binds)->bindC kindOf binds m x=m x
 | [],_,_=>rfl
 | (n,v)::r,m,h=>by
  unfold bindC;rw[qbx fun w hw=>h w (yw _ hw)];split
  .rfl
  .have:x≠n:=by rintro rfl;show h v yC
   simp[this]
theorem qby{v:Value}:∀{P:LS} {vs:List Value} {i:Nat} {m:Str->Option Value},P.Nodup->P[i]?=some x->vs[i]?=some v->kindOf x=some .local ->
  bindL kindOf (P.zip vs) m x=some v
 | [],_,_,_,_,h,_,_=>by simp at h
 | _::_,[],_,_,_,_,h,_=>by simp at h
 | p::P,w::vs,0,m,nd,h1,h2,hk=>by
  simp at h1 h2;subst h1;subst h2;show bindL kindOf ((p,w)::P.zip vs) m p=_;unfold bindL;rw[qbw fun v hv=>(yo.mp nd).1 (kc hv).1,yF hk];simp
 | p::P,w::vs,i+1,m,nd,h1,h2,hk=>by
  show bindL kindOf ((p,w)::P.zip vs) m x=_;unfold bindL;show qby (i:=i) (yo.mp nd).2 (by simpa using h1) (by simpa using h2) hk
theorem qbz{v:Value}:∀{P:LS} {vs:List Value} {i:Nat} {m:Str->Option Value},P.Nodup->P[i]?=some x->vs[i]?=some v->kindOf x≠some .local ->
  bindC kindOf (P.zip vs) m x=some v
 | [],_,_,_,_,h,_,_=>by simp at h
 | _::_,[],_,_,_,_,h,_=>by simp at h
 | p::P,w::vs,0,m,nd,h1,h2,hk=>by
  simp at h1 h2;subst h1;subst h2;show bindC kindOf ((p,w)::P.zip vs) m p=_;unfold bindC;rw[qbx fun v hv=>(yo.mp nd).1 (kc hv).1,yz hk];simp
 | p::P,w::vs,i+1,m,nd,h1,h2,hk=>by
  show bindC kindOf ((p,w)::P.zip vs) m x=_;unfold bindC;show qbz (i:=i) (yo.mp nd).2 (by simpa using h1) (by simpa using h2) hk
noncomputable def start(N:LS)(vs:List V):St:=vs.map some++List.replicate (N.length-vs.length) none
noncomputable def qd7(CX:CXT)(P:Program)(w:World)(K:yg)(mg:Str->Option Value)(base:Heap)(N:LS)(qual:Str)(scope:Scope)(f:Addr)(b:Value)(A:Around)(outer:List Env)(s:Shared)(H:Hp)(E:XK):Cx where
 prog:=P
 w:=w
 K:=K
 mg:=mg
 base:=base
 A:=A.deeper (envOfC qual scope s.heap.objs.size f b)
 N:=N
 s₀:=s
 H₀:=H
 env:=envOfC qual scope s.heap.objs.size f b
 outer:=outer
 stack:=envOfC qual scope s.heap.objs.size f b::outer
 ex:=[]
 calm:=true
 fn:=fun _=>true
 pn:=[]
 xe:=fun e s'=>wpAny (model P w) (A.deeper (envOfC qual scope s.heap.objs.size f b)) (leaving (envOfC qual scope s.heap.objs.size f b) e) (fun _ a=>CX outer H s E e a) (fun c a=>CX outer H s E c a) s'
theorem qch(h:sc.names.lookup x=some .cell):∃ c,(cellsFrom n sc.names []).lookup x=some c:=by
 have q:=PySem.W.cellsFrom_some sc.names n [] (.inl h);show xS.mp q
theorem inv_start{K:yg}{f:Addr}{o:Value}{D:Shared}{E:XK}
  (S:FnScope N ps scope) (G:A.handled=none) (g:Env0 P w K mg base A outer s H) (hl:vs.length=ps.length) (r:Vals vs us)
  (x:InCallC s s.heap.objs.size (bindL (envOfC qual scope s.heap.objs.size f o).kindOf (ps.zip us) fun _=>none) (cellsFrom (s.heap.objs.size+1) scope.names []) (bindC (envOfC qual scope s.heap.objs.size f o).kindOf (ps.zip us) fun _=>none) D) :
  Inv (qd7 CX P w K mg base N qual scope f o A outer s H E) [] (start N vs) H D:=by
 have I:ps.length<=N.length:=by have:=congrArg List.length S.pre;rw[yI] at this;lk
 obtain⟨h1,tk,rfl,B⟩:=x.done;have j:∀ b:Addr,b∉(qd7 CX P w K mg base N qual scope f o A outer s H E).ex:=fun b z=>absurd (show b∈([]:LI) from z) (by simp);show⟨⟨g.mod,S.kind,rfl,rfl,yh _,fun y z c h1 d=>?_,fun y hy=>?_,fun y c _ h=>?_,fun _=>G,Around.frames_deeper g.frames,.inr ⟨rfl,rfl⟩,fun b z=>absurd z (j b),g.bs,g.bsz,fun b _ _=>j b,fun b z=>absurd z (j b),g.funs,g.frf⟩,
  rfl,g.bare,Un.kept B,⟨_,x.toInCall.ns,fun i y v h1 d L=>?_⟩,fun y c h=>⟨_,x.cell y c h⟩,g.hok.fresh (yh _),fun y c h=>?_,fun p l=>absurd (show p∈([]:List (Addr×Obj)) from l) (by simp),g.hok.kept B,?_⟩
 .show name_of_addr x.apart (YJ h1) (YJ d)
 .have hy:scope.names.lookup y=some .cell\/scope.names.lookup y=some .free:=hy;rcases hy with hy | hy
  .show qch hy
  .show absurd rfl (S.nofree _ (YJ hy))
 .show yR (x.above y c (YJ h))
 .have t:i<vs.length:=by
   unfold start at d;by_cases t:i<vs.length
   .show t
   .rw [Yb (by simpa using t)] at d;rw[Xa] at d;split at d<;>cases d
  have F:vs[i]?=some v:=by
   unfold start at d;rw[yP (by simpa using t),yd] at d
   cases e:vs[i]? with
   | none=>rw[e] at d;cases d
   | some a=>rw[e] at d;cases d;rfl
  obtain⟨u,C,J⟩:=r.get F
  have l:ps[i]?=some y:=by
   rw[<- S.pre,List.getElem?_take_of_lt (by lk)];show h1
  have m:ps.Nodup:=by rw[<- S.pre];show S.nd.sublist (Xd _ _)
  show⟨u,J,?_⟩;rcases S.par y (ye l) with k | k
  .show .inl ⟨k,qby m l C k⟩
  .obtain⟨c,e⟩:=qch (n:=s.heap.objs.size+1) k;show .inr ⟨.inl k,c,e,?_⟩;have q:=x.cell y c e;rw[qbz m l C (by show scope.names.lookup y≠_;rw[k];decide)] at q;show q
 .show g.hok.fresh (yR (x.above y c (YJ h)))
 .unfold start;show _=N.length;rw[yx,ya,YC];lk
theorem qer{K:yg}{k:Nat}{f:Addr}{name:Str}{c:Arguments}{M kV j O a ct oc:Value}{L od:Option Addr}
  {D:Array (Option Value)} {sp:Sp} (lk:K.lookup f=some ⟨oc,od,.func (PySem.W.fnOf name qual c body scope M kV j O L a ct),D⟩) (z:PySem.W.codeIn K a qual=true) (S:FnScope N ps scope)
  (len:∀ vs H Q E,sp vs H Q E->vs.length=ps.length)
  (g:∀(A:Around) (outer:List Env) (s:Shared) (H:Hp) (vs:List V) (Q:VK) (E:XK),Room k (A.deeper (envOfC qual scope s.heap.objs.size f a))->sp vs H Q E ->
   ∃ t,PSs (qd7 CX P w K mg base N qual scope f a A outer s H E) body t/\t { nx:=fun _ H'=>Q .non H',rt:=Q } (start N vs) H) :
  FnOk P w K mg base CX (k+1) f (PySem.W.fnOf name qual c body scope M kV j O L a ct) ps sp:=by
 show⟨len,fun A outer s H args us vs Q E B l hb r p=>?_⟩;have hl:=len _ _ _ _ p;have G:K.In s.heap:=l.mod.kin.keeps fun b o e=>(l.bs b o e).1;have C:s.heap.NoLimit:=l.mod.nolimit.keeps fun b o e=>(l.bs b o e).1
 have h:∀ y∈ps.zip us,scope.names.lookup y.1=some .local\/(scope.names.lookup y.1=some .cell/\((cellsFrom (s.heap.objs.size+1) scope.names []).lookup y.1).isSome=true):=fun⟨n,v⟩ Z=>by
  rcases S.par n (kc Z).1 with q | q
  .show .inl q
  .show .inr ⟨q,PySem.W.cellsFrom_some _ _ _ (.inl q)⟩
 show codeAny_call_function B.depth (G _ _ lk) rfl S.co S.gen rfl (PySem.W.codeRec_of G z) (hb _ _ _ _ ?_);show wpAny_newFunctionEnv_cells S.kind h fun env U R x=>?_;subst U;show⟨C.keeps x.toInCall.keep,codeAny_func ?_⟩;obtain⟨t,Y,X⟩:=g A outer s H vs Q E (B.deeper _) p;have I:Inv (qd7 CX P w K mg base N qual scope f a A outer s H E) [] (start N vs) H R:=inv_start S B.hd l hl r x;show Yz (Y [] R (start N vs) H _ I X) (fun T s' i=>?_) fun e s' i=>i
 have m:∀{d:St} {H':Hp} {v:V} {u:Value},Inv (qd7 CX P w K mg base N qual scope f a A outer s H E) [] d H' s'->RelV v u->Q v H'->CE outer P w H s Q u s':=
  fun{d H' v u} J F q=>⟨v,H',J.os,J.bare,J.base,J.hok,F,q⟩
 cases T with
 | ret u =>
  obtain⟨v,d,H',J,F,q⟩:=i;show m J F q
 | next =>
  obtain⟨d,H',J,q⟩:=i;show m (v:=V.non) (u:=Value.none) J rfl q
 | brk =>
  obtain⟨_,_,_,q⟩:=i;show False.elim q
 | cont =>
  obtain⟨_,_,_,q⟩:=i;show False.elim q
section
variable{X:Cx}{x:Str}{p pos:Pos}{e:Expr}{es:List Expr}{t:TA}{id T:String}{r:List V->Hp->VK->Prop}
def tCB(r:List V->Hp->VK->Prop)(t:TA):TE:=fun σ H Q=>t σ H fun vs a=>r vs a Q
theorem qr(hc:zA X (.builtin id) r)(i:Gl X x)(j:X.mg x=none)(hv:bootBuiltins x=some (.builtin id))(f:PA X (e::es) t)(l:x≠"__name__":=by decide)(a:(x==("__debug__":Str))=false:=by decide)
  (g:starEach (e::es) X.env=(false,eval e X.env)::starEach es X.env:=by rfl) (b:(backTo pos (starEach es X.env)).any (·.1)=false:=by rfl):PE X (.Call (.Name x p) (e::es) [] pos) (tCB r t):=by
 intro pins s σ H Q I h;show xz (qae I i j hv ?_ l a);show PyProof.Rows.callWith_builtin1 (thn (f pos pins s σ H _ I h) fun us o ⟨vs,c,d,n,m⟩=>hc pins o σ c vs us Q d n m) g b
theorem zj(hc:zA X (.type T) r)(i:Gl X x)(j:X.mg x=none)(hv:bootBuiltins x=some (.type T))(f:PA X (e::es) t)(l:x≠"__name__":=by decide)(a:(x==("__debug__":Str))=false:=by decide)
  (g:starEach (e::es) X.env=(false,eval e X.env)::starEach es X.env:=by rfl) (b:(backTo pos (starEach es X.env)).any (·.1)=false:=by rfl):PE X (.Call (.Name x p) (e::es) [] pos) (tCB r t):=by
 intro pins s σ H Q I h;show xz (qae I i j hv ?_ l a);show YG (thn (f pos pins s σ H _ I h) fun us o ⟨vs,c,d,n,m⟩=>hc pins o σ c vs us Q d n m) g b
end
end L2
namespace HT
open PySem PyProof.Rows
variable{hi lo:Option Int}{sl t:Addr}{vl vu:Value}
noncomputable def lexLt:LQ->LQ->Bool
 | [],[]=>false
 | [],_::_=>true
 | _::_,[]=>false
 | x::xs,y::ys=>if x=y then lexLt xs ys else decide (x<y)
section
open PySem.SeqAt
open PySem.AutoSeq1 (wpAny_loadPart')
open PySem.MeetsSeq PySem.MeetsSeq2 PySem.MeetsSeq3
end
section
variable{prog:Program}{w:World}{A:Around}{E:Value->Shared->Prop}{s:Shared}
theorem cat_tup{b:Addr}{vs a:List Value}{Q:Value->Shared->Prop}(r:IsTup s.heap t vs.toArray)(hb:IsTup s.heap b a.toArray)(hv:vs≠[])
  (h1:a=[]->Q (.ref t) s) (q:a≠[]->Q (.ref s.heap.objs.size) { s with heap:=s.heap.push { cls:=.type "tuple",data:=.seq (vs++a).toArray } })
  (hsz:vs.length+a.length<=sizeLine):wpAny (model prog w) A (binaryOp .Add (.ref t) (.ref b)) Q E s:=by
 obtain⟨⟨cls,m,data,sl⟩,i,hc,n,o⟩:=id r;obtain⟨⟨l,d,j,h⟩,c,f,p,g⟩:=id hb;simp only at hc o f g;subst hc o f g;have e:vs.toArray++a.toArray=(vs++a).toArray:=by simp
 by_cases hw:a=[]
 .show concat_meets ⟨_,i,rfl⟩ ⟨_,c,rfl⟩ noFill_tuple_add seq_tuple_add PySem.F.slot_tuple_add PySem.F.entry_tuple_add (PySem.F.args_tuple_add_2 _ _)
   (tuple_addW1 t b vs.toArray a.toArray n p m d sl h (by simpa using hv) (by simp[hw])) ⟨i,c,h1 hw⟩
 .show concat_meets ⟨_,i,rfl⟩ ⟨_,c,rfl⟩ noFill_tuple_add seq_tuple_add PySem.F.slot_tuple_add PySem.F.entry_tuple_add (PySem.F.args_tuple_add_2 _ _)
   (tuple_addW2 t b vs.toArray a.toArray n p m d sl h (by simpa using hv) (by simpa using hw) (by rw[yv,yv];show hsz)) ⟨i,c,?_⟩
  rw[e];show q hw
noncomputable def sIx(n d:Nat):Option Int->Nat
 | none=>d
 | some v=>if v<0 then(v+(n:Int)).toNat else min v.toNat n
theorem sIx_none(n d:Nat):sIx n d none=d:=rfl
theorem sIx_nat(n d k:Nat):sIx n d (some (k:Int))=min k n:=by
 show(if (k:Int)<0 then((k:Int)+(n:Int)).toNat else min (k:Int).toNat n)=min k n;rw[yz (by lk),Yc]
theorem sIx_le(n d:Nat)(a:d<=n)(o:Option Int):sIx n d o<=n:=by
 cases o with
 | none=>show a
 | some v =>
  show(if v<0 then(v+(n:Int)).toNat else min v.toNat n)<=n;by_cases hv:v<0
  .rw [yF hv];lk
  .rw [yz hv];show X1 _ _
theorem qcU(v:Int)(n d:Nat):(if v<0 then max (v+(n:Int)) 0 else min v (n:Int))=((sIx n d (some v):Nat):Int):=by
 show(if v<0 then max (v+(n:Int)) 0 else min v (n:Int))=(((if v<0 then(v+(n:Int)).toNat else min v.toNat n):Nat):Int);by_cases hv:v<0
 .simp only[yF hv];lk
 .simp only[yz hv];lk
theorem adjust_gen(lo hi:Option Int)(n:Nat):Builtin.Slice.sliceAdjust lo hi 1 (n:Int)=(((sIx n 0 lo:Nat):Int),((sIx n n hi:Nat):Int)):=by
 have h1:¬ ((1:Int)<0):=by lk
 unfold Builtin.Slice.sliceAdjust;simp only[h1,xT];show X2 ?_ ?_
 .cases lo with
  | none=>rfl
  | some v=>show qcU v n 0
 .cases hi with
  | none=>rfl
  | some v=>show qcU v n n
theorem places_gen(i j:Nat):Builtin.Slice.slicePlaces (i:Int) (j:Int) 1=j-i:=by
 unfold Builtin.Slice.slicePlaces;have h1:(1:Int)>0:=by lk
 simp only[h1,xV,kr];split<;>lk
theorem qaS{v:Value}{o:Option Int}{Q:Option Int->Shared->Prop}(p:IsPart v o)(h:Q o s):wpAny (model prog w) A (Builtin.Slice.slicePartIndex v) Q E s:=by
 cases p with
 | none=>show slicePart_none h
 | int i t=>show slicePart_int h
theorem sliceApplied_gen{n:Nat}{Q:Int×Int×Nat->Shared->Prop}(d:s.heap.IsSliceOf sl vl vu .none)(pl:IsPart vl lo)(e:IsPart vu hi)
  (h:Q (((sIx n 0 lo:Nat):Int),1,sIx n n hi-sIx n 0 lo) s):wpAny (model prog w) A (Builtin.Slice.sliceApplied (.ref sl) (pure (n:Int))) Q E s:=by
 obtain⟨f,b,c,a⟩:=id d;unfold Builtin.Slice.sliceApplied Builtin.Slice.sliceFields;show yr (yr (xy b a (x:=vl) rfl (yr (xy b a (x:=vu) rfl (yr (xy b a (x:=.none) rfl (yu ?_)))))));show yr (slicePart_none ?_);show wpAny _ _ (if ((1:Int)==0)=true then _ else _) _ _ s;rw[yz (by decide)];show yr (qaS pl (yr (qaS e (yr (yu ?_)))));show wpAny _ _ (match Builtin.Slice.sliceAdjust lo hi 1 (n:Int) with | (lo,hi)=>pure (lo,(1:Int),Builtin.Slice.slicePlaces lo hi 1)) _ _ s;rw[adjust_gen lo hi n];show wpAny _ _ (pure (((sIx n 0 lo:Nat):Int),(1:Int),Builtin.Slice.slicePlaces ((sIx n 0 lo:Nat):Int) ((sIx n n hi:Nat):Int) 1)) _ _ s;rw[places_gen];show yu h
theorem pick_gen(xs:Array Value)(i k:Nat):((List.range k).filterMap fun(m:Nat)=>xs[((i:Int)+(m:Int)*1).toNat]?).toArray=((xs.toList.drop i).take k).toArray:=by
 have e:(fun(m:Nat)=>xs[((i:Int)+(m:Int)*1).toNat]?)=fun m=>xs[i+m]?:=by
  funext m;have:((i:Int)+(m:Int)*1).toNat=i+m:=by lk
  rw[this]
 rw[e];have:=pick_run xs i k;rw[List.filterMap_map] at this;have a:((fun x=>xs[x]?) ∘ fun x=>i+x)=fun m=>xs[i+m]?:=rfl;rw[a] at this;rw[this]
theorem getItem_tuple_cut{a:Array Value}{Q:Value->Shared->Prop}(c:IsTup s.heap t a)(i:s.heap.IsSliceOf sl vl vu .none)(pl:IsPart vl lo)(n:IsPart vu hi)
  (hw:¬ (sIx a.size 0 lo=0/\sIx a.size a.size hi=a.size))
  (h:Q (.ref s.heap.objs.size) { s with heap:=s.heap.push { cls:=.type "tuple",data:=.seq ((a.toList.drop (sIx a.size 0 lo)).take (sIx a.size a.size hi-sIx a.size 0 lo)).toArray } })
  (hsz:a.size<=sizeLine):wpAny (model prog w) A (getItem (.ref t) (.ref sl)) Q E s:=by
 have b:sizeOk (.seq ((a.toList.drop (sIx a.size 0 lo)).take (sIx a.size a.size hi-sIx a.size 0 lo)).toArray):=by
  show((a.toList.drop (sIx a.size 0 lo)).take (sIx a.size a.size hi-sIx a.size 0 lo)).toArray.size<=sizeLine;rw[yv,yI,YO,YA];lk
 have o:sIx a.size a.size hi<=a.size:=sIx_le _ _ (yh _) hi;obtain⟨l,g,e,j⟩:=id i;have d:s.TypeIs (.ref sl) "slice":=⟨l,g,e⟩;unfold getItem
 try with_reducible show Yd ?_
 first | show yr (yu ?_) | skip
 show yr (wpAny_sequenceKey c.typeIs (by decide) ?_);show yr (Xb (name:=Str.ofString "__getitem__") c.typeIs xn
  (Xl xn c.typeIs entry_tuple_getitem ?_ (args_tuple_getitem _ _)))
 show wpAny _ _ (Builtin.Tuple.tupleItemsOf (.ref t)>>=_) _ _ s;show yr (tupleItemsOf_ c ?_);show yr (wpAny_typeOf d ?_);rw[yF (by decide)];show yr (sliceApplied_gen i pl n ?_)
 have f:¬ ((((sIx a.size 0 lo:Nat):Int)==0&&(1:Int)==1&&(sIx a.size a.size hi-sIx a.size 0 lo)==a.size)=true):=by
  intro q;rw[yS,yS] at q;have p:((sIx a.size 0 lo:Nat):Int)=0:=eq_of_beq q.1.1;have r:sIx a.size a.size hi-sIx a.size 0 lo=a.size:=eq_of_beq q.2;show hw ⟨by lk,by lk⟩
 show wpAny _ _ (if (((sIx a.size 0 lo:Nat):Int)==0&&(1:Int)==1&&(sIx a.size a.size hi-sIx a.size 0 lo)==a.size)=true then _ else _) _ _ s;rw[yz f,pick_gen]
 first
  | show yr (m:=Builtin.Tuple.tupleExact _) (xJ (yu ⟨_,rfl,yu h⟩) b)
  | show yr (m:=Builtin.Tuple.tupleExact _) (xJ (yr (yu (yu ⟨_,rfl,yu h⟩))) b)
  | show yr (yr (m:=Builtin.Tuple.tupleExact _) (xJ (yu (yu ⟨_,rfl,yu h⟩)) b))
  | show yr (yr (m:=Builtin.Tuple.tupleExact _) (xJ (yu ⟨_,rfl,yu h⟩) b))
end
end HT
namespace L2
open PySem PySem.Spec PyProof.Rows
variable{A:Around}{H H':Hp}{P:Program}{X:Cx}{a p:Addr}{h':Heap}{i:Int}{its its' us:List Value}{j n t':Nat}{kvs:List (List Key×V)}{o:Option V}{pins:List (Addr×Obj)}{r:R2}{s:Shared}{u v:Value}{w:World}{x y:V}{xs:List V}{α:Type}{σ:St}
abbrev TO:=St->Hp->(Option Int->Hp->Prop)->Prop
def PO(X:Cx)(e:Option Expr)(t:TO):Prop:=
 ∀(pins:List (Addr×Obj)) (s:Shared) (σ:St) (H:Hp) (Q:Option Int->Hp->Prop),Inv X pins σ H s->t σ H Q ->
  wpAny (model X.prog X.w) X.A (evalPart e X.env) (fun u a=>∃ o H',Inv X pins σ H' a/\IsPart u o/\Q o H') X.xe s
def qcV:TO:=fun _ H Q=>Q none H
def qes(t:TE):TO:=fun σ H Q=>t σ H fun x a=>∃ i,x=.int i/\Q (some i) a
section
variable{X:Cx}{e:Expr}{te:TE}{lo hi:Option Expr}{tl th:TO}{pos p2:Pos}
theorem zl:PO X none qcV:=by
 intro pins s σ H Q I h;rw[evalPart_none];show yu ⟨none,H,I,.none,h⟩
theorem jE(h:PE X e te):PO X (some e) (qes te):=by
 intro pins s σ H Q I hw;rw[evalPart_some];show thn (h pins s σ H _ I hw) fun u f ⟨x,a,b,d,c⟩=>?_;obtain⟨i,rfl,q⟩:=c;obtain⟨t,rfl⟩:=d;show⟨some i,a,b,.int i t,q⟩
def SlR(X:Cx)(r:V->Option Int->Option Int->Hp->VK->Prop):Prop:=
 ∀(pins:List (Addr×Obj)) (s:Shared) (σ:St) (H:Hp) (x:V) (v b c:Value) (lo hi:Option Int) (a:Addr) (Q:VK),Inv X pins σ H s->RelV x v->s.heap.IsSliceOf a b c .none->IsPart b lo->IsPart c hi->r x lo hi H Q ->
  ∃ T id,typeLookup (.type T) "__getitem__"=pure (some (.builtin id))/\s.TypeIs v T/\wpAny (model X.prog X.w) X.A (getItem v (.ref a)) (EP X pins σ Q) X.xe s
def tSl(r:V->Option Int->Option Int->Hp->VK->Prop)(te:TE)(tl th:TO):TE:=fun σ H Q=>te σ H fun x a=>tl σ a fun l b=>th σ b fun u c=>r x l u c Q
theorem jy{r:V->Option Int->Option Int->Hp->VK->Prop}(z:SlR X r)(t:PE X e te)(hl:PO X lo tl)(C:PO X hi th):PE X (.Subscript e (.Slice lo hi none p2) pos) (tSl r te tl th):=by
 intro pins s σ H Q I h;show Subscript_ (thn (t pins s σ H _ I h) fun v K ⟨x,g,j,J,E⟩=>?_);show wpAny_Slice (thn (hl pins K σ g _ j E) fun c L ⟨l,i,m,pl,F⟩=>thn (C pins L σ i _ m F) fun d a ⟨u,f,n,D,G⟩=>?_);rw[evalPart_none];show yu ?_;have o:Inv X pins σ f { a with heap:=a.heap.push { cls:=.type "slice",data:=.fields #[c,d,.none] } }:=n.kept (t':=a.toks) fun b M q=>yt _ q;obtain⟨T,id,p,B,y⟩:=z pins { a with heap:=a.heap.push { cls:=.type "slice",data:=.fields #[c,d,.none] } } σ f x v c d l u a.heap.objs.size Q o J (Heap.IsSliceOf.new ..) pl D G;show wpAny (model X.prog X.w) X.A (subscriptTail e (.Slice lo hi none p2) v (.ref a.heap.objs.size)) (EP X pins σ Q) X.xe { a with heap:=a.heap.push { cls:=.type "slice",data:=.fields #[c,d,.none] } };show tail_any (ops:=[.ref a.heap.objs.size,v]) B p y (by with_unfolding_all rfl)
noncomputable def qcM(xs:List V)(lo hi:Option Int):List V:=(xs.drop (HT.sIx xs.length 0 lo)).take (HT.sIx xs.length xs.length hi-HT.sIx xs.length 0 lo)
theorem qar(xs:List V)(lo hi:Option Int):(qcM xs lo hi).length<=xs.length:=by
 unfold qcM;rw[yI,YO];lk
inductive rSlT(K:yg)(x:V)(lo:Option Int)(hi:Option Int)(H:Hp)(Q:VK):Prop|mk (a xs:_) (_:x=.ref a) (_:SqT K H a xs) (_:¬ (HT.sIx xs.length 0 lo=0/\HT.sIx xs.length xs.length hi=xs.length)) (_:∀ p,H p=none->Q (.ref p) (upd H p (.tup (qcM xs lo hi))))
theorem sl_tup:SlR X (rSlT X.K):=by
 intro pins s σ H x v m n lo hi l Q I i e pl g h;obtain⟨a,xs,rfl,f,hw,q⟩:=h;cases i;obtain⟨its,r,d,hz⟩:=I.tuple f;have c:its.toArray.size=xs.length:=by rw[yv];show r.length.symm
 show⟨"tuple",_,xn.lookup,d.typeIs,?_⟩;show HT.getItem_tuple_cut d e pl g (by rw[c];show hw) ?_ (by rw[c];show hz);rw[c];show⟨.ref s.heap.objs.size,_,I.laid (t':=s.toks) (o:=.tup (qcM xs lo hi)) (fun b j q=>yt _ q) (yh _) ?_,rfl,q _ (I.hok.fresh (yh _))⟩;show⟨yi (qar xs lo hi) hz,_,(r.drop (HT.sIx xs.length 0 lo)).take (HT.sIx xs.length xs.length hi-HT.sIx xs.length 0 lo),IsTup.new _ _⟩
inductive rLtT(K:yg)(x:V)(y:V)(H:Hp)(Q:VK):Prop|mk (a b ns ms:_) (_:x=.ref a) (_:y=.ref b) (_:SqT K H a (ns.map V.int)) (_:SqT K H b (ms.map V.int)) (_:Q (.bl (HT.lexLt ns ms)) H)
inductive rCatT(K:yg)(x:V)(y:V)(H:Hp)(Q:VK):Prop|mk (a b xs ys:_) (_:x=.ref a) (_:y=.ref b) (_:SqT K H a xs) (_:SqT K H b ys) (_:xs≠[]) (_:xs.length+ys.length<=sizeLine) (_:(ys=[]->Q (.ref a) H)) (_:(ys≠[]->∀ p,H p=none->Q (.ref p) (upd H p (.tup (xs++ys)))))
theorem Vals.nil_iff(r:Vals xs us):us=[]↔xs=[]:=by
 cases r with
 | nil=>simp
 | cons _ _=>simp
theorem op_catT:OpR X (binaryOp .Add) (rCatT X.K):=by
 intro pins s σ H x y v u Q I m n h;obtain⟨a,b,xs,ys,rfl,rfl,f,hb,g,hz,j,l⟩:=h;cases m;cases n;obtain⟨its,d,i,_⟩:=I.tuple f;obtain⟨e,c,p2,_⟩:=I.tuple hb;show HT.cat_tup i p2 (fun z=>g (d.nil_iff.mp z)) (fun z=>⟨.ref a,H,I,rfl,j (c.nil_iff.mp z)⟩) (fun z=>?_) (by rw[<- d.length,<- c.length];show hz);show⟨.ref s.heap.objs.size,_,I.laid (t':=s.toks) (o:=.tup (xs++ys)) (fun b p q=>yt _ q) (yh _) ?_,rfl,l (fun w=>z (c.nil_iff.mpr w)) _ (I.hok.fresh (yh _))⟩;show⟨by rw[yx];show hz,_,d.append c,IsTup.new _ _⟩
end
noncomputable def ixN(n:Nat)(i:Int):Option Nat:=if 0<=i then(if i<n then some i.toNat else none) else if -(n:Int)<=i then some (i+n).toNat else none
noncomputable def atI{α:Type}(xs:List α)(i:Int):Option α:=(ixN xs.length i).bind fun j=>xs[j]?
theorem qcW(h:ixN n i=some j):seqIndex? i n=some j/\j<n/\-(n:Int)<=i/\i<n:=by
 unfold ixN at h;by_cases a:0<=i
 .rw [yF a] at h;by_cases h1:i<n
  .rw [yF h1] at h;have e:i.toNat=j:=ym h;show⟨by rw[seqIndex_of a h1,e],by lk,by lk,h1⟩
  .rw [yz h1] at h;cases h
 .rw [yz a] at h;by_cases h1:-(n:Int)<=i
  .rw [yF h1] at h;have e:(i+n).toNat=j:=ym h;show⟨by rw[seqIndex_neg (by lk) h1,e],by lk,h1,by lk⟩
  .rw [yz h1] at h;cases h
theorem qbZ{xs:List α}{v:α}(h:atI xs i=some v):∃ j,seqIndex? i xs.length=some j/\xs[j]?=some v/\j<xs.length/\-(xs.length:Int)<=i/\i<xs.length:=by
 unfold atI at h
 cases e:ixN xs.length i with
 | none=>rw[e] at h;cases h
 | some j =>
  rw[e] at h;obtain⟨h1,a,b,c⟩:=qcW e;show⟨j,h1,h,a,b,c⟩
theorem qp{xs:List α}{v:α}(h:xs[j]?=some v):atI xs (j:Int)=some v:=by
 have a:j<xs.length:=(yc.mp h).1
 have e:ixN xs.length (j:Int)=some j:=by
  unfold ixN;rw[yF (by lk),yF (by lk)];simp
 unfold atI;rw[e];show h
def PlainIx(b:Expr):Prop:=∀ o i,subscripted b false o i=operate [o,i] (getItem o i)
def IxR(X:Cx)(r:R2):Prop:=
 ∀(b a:Expr) (pins:List (Addr×Obj)) (s:Shared) (σ:St) (H:Hp) (x y:V) (v u:Value) (Q:VK),Inv X pins σ H s->RelV x v->RelV y u->r x y H Q ->
  subscripted a false v u=operate [v,u] (getItem v u)->wpAny (model X.prog X.w) X.A (subscriptTail b a v u) (EP X pins σ Q) X.xe s
def MtR(X:Cx)(id:String)(r:V->List V->Hp->VK->Prop):Prop:=
 ∀(pins:List (Addr×Obj)) (s:Shared) (σ:St) (H:Hp) (x:V) (xs:List V) (v:Value) (us:List Value) (Q:VK),Inv X pins σ H s->RelV x v->Vals xs us->r x xs H Q ->
  wpAny (model X.prog X.w) X.A (call (.builtin id) (v::us)) (EP X pins σ Q) X.xe s
section
variable{X:Cx}{a b:Expr}{ta tb:TE}{pos:Pos}
theorem IxR.or{d:R2}(h:IxR X r)(h':IxR X d):IxR X (fun x y H Q=>r x y H Q\/d x y H Q):=by
 intro b a pins s σ H x y v u Q I e f q c;rcases q with q | q
 .show h b a pins s σ H x y v u Q I e f q c
 .show h' b a pins s σ H x y v u Q I e f q c
theorem qu(f:IxR X r)(e:PE X a ta)(hb:PE X b tb)(g:PlainIx b):PE X (.Subscript a b pos) (tOp r ta tb):=by
 intro pins s σ H Q I h;show Subscript_ (qeN e hb I h fun v u l x y c d i j q=>f a b pins l σ c x y v u Q d i j q (g _ _))
inductive rIxL(K:yg)(x:V)(y:V)(H:Hp)(Q:VK):Prop|mk (p xs i v:_) (_:x=.ref p) (_:y=.int i) (_:SqL K H p xs) (_:atI xs i=some v) (_:Q v H)
inductive rIxT(K:yg)(x:V)(y:V)(H:Hp)(Q:VK):Prop|mk (p xs i v:_) (_:x=.ref p) (_:y=.int i) (_:SqT K H p xs) (_:atI xs i=some v) (_:Q v H)
inductive rIxS(x:V)(y:V)(H:Hp)(Q:VK):Prop|mk (z i c:_) (_:x=.str z) (_:y=.int i) (_:z.length<=sizeLine) (_:atI z.cps.toList i=some c) (_:Q (.str ⟨#[c]⟩) H)
theorem ix_list:IxR X (rIxL X.K):=by
 intro e d pins s σ H x y v u Q I C D h l;obtain⟨p,xs,i,z,rfl,rfl,B,A,q⟩:=h;cases C;obtain⟨t,rfl⟩:=D;obtain⟨its,r,pl,hz⟩:=I.list B;obtain⟨j,h1,m,F,n,o⟩:=qbZ A;obtain⟨w,f,c⟩:=r.get m;have hl:=r.length;have G:=qaQ;have a:EP X pins σ Q w s:=⟨z,H,I,c,q⟩;by_cases g:0<=i
 .have b:i.toNat=j:=by
   rw[seqIndex_of g o] at h1;show ym h1
  show item_listR pl.isList g (by lk) (by rw[b];simpa using f) a l
 .have b:(i+(its.toArray.size:Int)).toNat=j:=by
   rw[seqIndex_neg (by lk) n] at h1;rw[yv,<- hl];show ym h1
  show subscriptTail_builtinR (x:=w) pl.isList.typeIs XT.lookup
   (wpAny_getItem_list_neg (Q:=fun r E=>r=w/\EP X pins σ Q r E) pl.isList (by lk) (by rw[yv]<;>lk) (by lk) (by rw[b];simpa using f) ⟨rfl,a⟩) l
theorem ix_tup:IxR X (rIxT X.K):=by
 intro d c pins s σ H x y v u Q I n o h m;obtain⟨p,xs,i,z,rfl,rfl,l,g,q⟩:=h;cases n;obtain⟨t,rfl⟩:=o;obtain⟨its,r,pl,hz⟩:=I.tuple l;obtain⟨j,h1,f,B,C,D⟩:=qbZ g;obtain⟨w,e,b⟩:=r.get f;have hl:=r.length;have E:=qaQ;have a:EP X pins σ Q w s:=⟨z,H,I,b,q⟩;show subscriptTail_builtinR (x:=w) pl.typeIs slot_tuple_getitem.lookup
  (getItem_tuple (j:=j) (Q:=fun r A=>r=w/\EP X pins σ Q r A) pl (by lk) (by lk) (by rw[yv,<- hl];show h1) (by simpa using e) ⟨rfl,a⟩) m
theorem ix_str:IxR X rIxS:=by
 intro b a pins s σ H x y v u Q I o p h n;obtain⟨z,i,c,rfl,rfl,hz,m,q⟩:=h;obtain⟨t,rfl⟩:=o;obtain⟨t',rfl⟩:=p;obtain⟨j,h1,f,r,g,l⟩:=qbZ m;have hl:z.cps.toList.length=z.length:=by simp[Str.length]
 rw[hl] at h1 g l;have w:=qaQ
 show tail_any (typeIs_str s z t) slot_str_getitem.lookup (getItem_str (c:=c) (by
  have d:decide (i < -(2 ^ 63:Int))=false:=yl (by lk);have e:decide (i ≥ 2 ^ 63)=false:=yl (by lk);rw[d,e,XX]) (by rw[h1];simpa using f) ⟨.str ⟨#[c]⟩,H,I.tok _,⟨_,rfl⟩,q⟩) n
def rIx(K:yg):R2:=fun x y H Q=>rIxL K x y H Q\/rIxT K x y H Q\/rIxS x y H Q
theorem ix_seq:IxR X (rIx X.K):=ix_list.or (ix_tup.or ix_str)
theorem mapSeq_set(its:List Value)(n j:Nat)(u:Value):Obj.mapSeq (·.setIfInBounds j u) { cls:=.type "list",data:=.seq its.toArray n }={ cls:=.type "list",data:=.seq (its.set j u).toArray n }:=by
 simp[Obj.mapSeq]
theorem Inv.lst(I:Inv X pins σ H s)(h:H p=some (.lst xs)) :
  ∃(its:List Value) (n:Nat),Vals xs its/\s.heap.get? p=some { cls:=.type "list",data:=.seq its.toArray n }/\xs.length<=sizeLine:=by
 obtain⟨z,its,n,r,e⟩:=I.hok p _ h;show⟨its,n,r,e,z⟩
theorem Inv.lstUpd{ys:List V}{a:Nat}{f:Obj->Obj}(I:Inv X pins σ H s)(h:H p=some (.lst xs))
  (d:s.heap.get? p=some { cls:=.type "list",data:=.seq its.toArray n }) (c:f { cls:=.type "list",data:=.seq its.toArray n }={ cls:=.type "list",data:=.seq its'.toArray a }) (r:Vals ys its') (hz:ys.length<=sizeLine) (t:Nat) :
  Inv X pins σ (upd H p (.lst ys)) { s with heap:=s.heap.update p f,toks:=t }:=by
 have e:(s.heap.update p f).get? p=some { cls:=.type "list",data:=.seq its'.toArray a }:=by
  rw[YM f d (by rw[c]<;>rfl),c]
 show I.write (x:=p) (e:=p) (by rw[h];trivial) (.inl rfl) (fun b u hb q=>(Heap.get?_update_other _ _ (Yn hb)).trans q) ⟨_,e⟩ ?_;show⟨hz,its',a,r,e⟩
inductive rSetL(o:V)(i:V)(v:V)(H:Hp)(Q:(Hp->Prop)):Prop|mk (p xs k j:_) (_:o=.ref p) (_:i=.int k) (_:H p=some (.lst xs)) (_:ixN xs.length k=some j) (_:Q (upd H p (.lst (xs.set j v))))
theorem set_list:qeM X rSetL:=by
 intro pins s σ H o i v B A u Q I w m x h;obtain⟨p,xs,k,j,rfl,rfl,g,l,q⟩:=h;cases w;obtain⟨t,rfl⟩:=m;obtain⟨its,n,r,b,hz⟩:=I.lst g;obtain⟨h1,y,e,f⟩:=qcW l;have hl:=r.length;have z:=qaQ
 have c:Inv X pins σ (upd H p (.lst (xs.set j v))) { s with heap:=s.heap.update p (Obj.mapSeq (·.setIfInBounds j u)) }:=
  I.lstUpd g b (mapSeq_set its n j u) (r.set x j) (by rw[Xv];show hz) s.toks
 by_cases d:0<=k
 .have a:k.toNat=j:=by
   rw[seqIndex_of d f] at h1;show ym h1
  show PySem.W.ki_setAt b d (by lk) (by rw[yv,<- hl];show f) (by rw[a];show⟨_,c,q⟩)
 .have a:(k+(its.toArray.size:Int)).toNat=j:=by
   rw[seqIndex_neg (by lk) e] at h1;rw[yv,<- hl];show ym h1
  show PySem.W.ki_setBack b (by lk) (by rw[yv,<- hl];show e) (by lk) (by rw[a];show⟨_,c,q⟩)
theorem slice_bounds(lo a:Option Int)(n:Nat):(sliceBounds lo a none n).1=((HT.sIx n 0 lo:Nat):Int)/\(sliceBounds lo a none n).2.1=((HT.sIx n n a:Nat):Int)/\(sliceBounds lo a none n).2.2=1:=by
 show⟨?_,?_,rfl⟩
 .cases lo with
  | none=>simp[sliceBounds,HT.sIx]
  | some i =>
   simp only[sliceBounds,HT.sIx,Option.getD_none,show(1:Int)>0 by decide,xV];by_cases h:i<0
   .simp only[h,xV]<;>lk
   .simp only[h,xT]<;>lk
 .cases a with
  | none=>simp[sliceBounds,HT.sIx]
  | some i =>
   simp only[sliceBounds,HT.sIx,Option.getD_none,show(1:Int)>0 by decide,xV];by_cases h:i<0
   .simp only[h,xV]<;>lk
   .simp only[h,xT]<;>lk
theorem slicePick_cut(its:List Value)(lo a:Option Int):slicePick its.toArray lo a none=((its.drop (HT.sIx its.length 0 lo)).take (HT.sIx its.length its.length a-HT.sIx its.length 0 lo)).toArray:=by
 obtain⟨h1,b,c⟩:=slice_bounds lo a its.toArray.size;unfold slicePick;rw[h1,b,c];simp only[sliceRange_one,pick_run,yv]<;>rfl
inductive rSlL(K:yg)(x:V)(lo:Option Int)(hi:Option Int)(H:Hp)(Q:VK):Prop|mk (a xs:_) (_:x=.ref a) (_:SqL K H a xs) (_:∀ p,H p=none->Q (.ref p) (upd H p (.lst (qcM xs lo hi))))
theorem sl_list:SlR X (rSlL X.K):=by
 intro pins s σ H x v n p lo d m Q I j f pl i h;obtain⟨a,xs,rfl,g,q⟩:=h;cases j;obtain⟨its,r,e,hz⟩:=I.list g;have c:=r.length;show⟨"list",_,XT.lookup,e.isList.typeIs,?_⟩;show wpAny_getItem_list_slice e.isList f pl i .none (by simp) ?_ (by rw[yv]<;>lk);rw[slicePick_cut,<- c];show⟨.ref s.heap.objs.size,_,I.laid (t':=s.toks) (o:=.lst (qcM xs lo d)) (fun b l q=>yt _ q) (yh _) ?_,rfl,q _ (I.hok.fresh (yh _))⟩;show⟨yi (qar xs lo d) hz,_,0,(r.drop (HT.sIx xs.length 0 lo)).take (HT.sIx xs.length xs.length d-HT.sIx xs.length 0 lo),yJ _ rfl⟩
noncomputable def jF:V->Bool
 | .non=>true
 | .bl _=>true
 | .int _=>true
 | .str _=>true
 | _=>false
noncomputable def eqV:V->V->Bool
 | .non,.non=>true
 | .bl a,.bl b=>a==b
 | .bl a,.int b=>(if a then 1 else 0)==b
 | .int a,.bl b=>a==(if b then 1 else 0)
 | .int a,.int b=>a==b
 | .str a,.str b=>a==b
 | _,_=>false
theorem qcX(e:RelV y u)(c:RelV x v)(f:jF y=true)(d:jF x=true):SeqAt.EqAt A s u v (eqV y x):=by
 cases y with
 | non =>
  cases e
  cases x with
  | non=>cases c;show Xw _
  | bl b=>cases c;show SeqAt.EqAt.none_bool b
  | int b=>obtain⟨t,rfl⟩:=c;show SeqAt.EqAt.none_int b t
  | str b=>obtain⟨t,rfl⟩:=c;show SeqAt.EqAt.none_str b t
  | _=>show absurd (show false=true from d) Yh
 | bl a =>
  cases e
  cases x with
  | non=>cases c;show SeqAt.EqAt.bool_none a
  | bl b=>cases c;show SeqAt.EqAt.bool_bool a b
  | int b=>obtain⟨t,rfl⟩:=c;show SeqAt.EqAt.bool_int a b t
  | str b=>obtain⟨t,rfl⟩:=c;show SeqAt.EqAt.bool_str a b t
  | _=>show absurd (show false=true from d) Yh
 | int a =>
  obtain⟨t',rfl⟩:=e
  cases x with
  | non=>cases c;show SeqAt.EqAt.int_none a t'
  | bl b=>cases c;show SeqAt.EqAt.int_bool a t' b
  | int b=>obtain⟨t,rfl⟩:=c;show SeqAt.EqAt.int_int a t' b t
  | str b=>obtain⟨t,rfl⟩:=c;show SeqAt.EqAt.int_str a t' b t
  | _=>show absurd (show false=true from d) Yh
 | str a =>
  obtain⟨t',rfl⟩:=e
  cases x with
  | non=>cases c;show SeqAt.EqAt.str_none a t'
  | bl b=>cases c;show SeqAt.EqAt.str_bool a t' b
  | int b=>obtain⟨t,rfl⟩:=c;show SeqAt.EqAt.str_int a t' b t
  | str b=>obtain⟨t,rfl⟩:=c;show SeqAt.EqAt.str_str a t' b t
  | _=>show absurd (show false=true from d) Yh
 | _=>show absurd (show false=true from f) Yh
noncomputable def eqU(x:V)(u:Value):Bool:=match u with
 | .none=>eqV .non x
 | .bool b=>eqV (.bl b) x
 | .int i _=>eqV (.int i) x
 | .str z _=>eqV (.str z) x
 | _=>false
theorem qdJ(r:RelV y u)(f:jF y=true):eqU x u=eqV y x:=by
 cases y with
 | non=>cases r;rfl
 | bl b=>cases r;rfl
 | int i=>obtain⟨t,rfl⟩:=r;rfl
 | str z=>obtain⟨t,rfl⟩:=r;rfl
 | _=>show absurd (show false=true from f) Yh
theorem qas:∀{xs:List V} {us:List Value},Vals xs us->xs.all jF=true->us.any (eqU x)=xs.any fun y=>eqV y x
 | _,_,.nil,_=>rfl
 | y::xs,u::us,.cons r t,f=>by
  rw[XY,yS] at f;rw[Xq,Xq,qdJ r f.1,qas t f.2]
theorem zL(b:RelV x v)(a:jF x=true):∀{xs:List V} {us:List Value},Vals xs us->xs.all jF=true->∀ u∈us,SeqAt.EqAt A s u v (eqU x u)
 | _,_,.nil,_=>fun u hu=>by cases hu
 | y::xs,u::us,.cons r t,f=>fun c hu=>by
  rw[XY,yS] at f;rcases yE.mp hu with rfl | hu
  .rw [qdJ r f.1];show qcX r b f.1 a
  .show zL b a t f.2 c hu
noncomputable def inV(x:V)(xs:List V):Bool:=xs.any fun y=>eqV y x
inductive rIn(K:yg)(neg:Bool)(x:V)(y:V)(H:Hp)(Q:VK):Prop|mk (p xs:_) (_:y=.ref p) (_:(SqL K H p xs\/SqT K H p xs)) (_:jF x=true) (_:xs.all jF=true) (_:Q (.bl (if neg then !inV x xs else inV x xs)) H)
theorem op_in_seq:OpR X (compareOp .In) (rIn X.K false):=by
 intro pins s σ H x y v u Q I b c h;obtain⟨p,xs,rfl,hq,a,fs,q⟩:=h;cases c;rcases hq with hq | hq
 .obtain⟨its,r,pl,hz⟩:=I.list hq;show SeqAt.in_listAt (eqU x) pl.isList (fun w hw=>zL b a r fs w (by simpa using hw)) ⟨.bl _,H,I,rfl,?_⟩;rw[show its.toArray.any (eqU x)=its.any (eqU x) by simp,qas r fs];show q
 .obtain⟨its,r,pl,hz⟩:=I.tuple hq;show SeqAt.in_tupleAt (eqU x) pl (fun w hw=>zL b a r fs w (by simpa using hw)) ⟨.bl _,H,I,rfl,?_⟩;rw[show its.toArray.any (eqU x)=its.any (eqU x) by simp,qas r fs];show q
theorem op_notIn_seq:OpR X (compareOp .NotIn) (rIn X.K true):=by
 intro pins s σ H x y v u Q I b c h;obtain⟨p,xs,rfl,hq,a,fs,q⟩:=h;cases c;rcases hq with hq | hq
 .obtain⟨its,r,pl,hz⟩:=I.list hq;show SeqAt.notIn_listAt (eqU x) pl.isList (fun w hw=>zL b a r fs w (by simpa using hw)) ⟨.bl _,H,I,rfl,?_⟩;rw[show its.toArray.any (eqU x)=its.any (eqU x) by simp,qas r fs];show q
 .obtain⟨its,r,pl,hz⟩:=I.tuple hq;show SeqAt.notIn_tupleAt (eqU x) pl (fun w hw=>zL b a r fs w (by simpa using hw)) ⟨.bl _,H,I,rfl,?_⟩;rw[show its.toArray.any (eqU x)=its.any (eqU x) by simp,qas r fs];show q
theorem call_len_seq:zA X (.builtin "len") (fun xs H Q=>∃ p ys,xs=[.ref p]/\(SqL X.K H p ys\/SqT X.K H p ys)/\Q (.int ys.length) H):=by
 intro pins s σ H xs us Q I r h;obtain⟨p,ys,rfl,hq,q⟩:=h;obtain⟨u,rfl,c⟩:=qap r;cases c;have d:=qaQ;rcases hq with hq | hq
 .obtain⟨its,b,pl,hz⟩:=I.list hq;have a:=b.length;show Calls.call_len_list pl.isList (by simp only[yv]<;>lk) ⟨.int ys.length,H,I.tok _,⟨s.toks+1,by rw[yv,a]⟩,q⟩
 .obtain⟨its,b,pl,hz⟩:=I.tuple hq;have a:=b.length;show len_tuple pl (by simp only[yv]<;>lk) ⟨.int ys.length,H,I.tok _,⟨s.toks+1,by rw[yv,a]⟩,q⟩
theorem call_len_str:zA X (.builtin "len") (fun xs H Q=>∃ z,xs=[.str z]/\z.length<=sizeLine/\Q (.int z.length) H):=by
 intro pins s σ H xs us Q I r h;obtain⟨z,rfl,hz,q⟩:=h;obtain⟨u,rfl,t,rfl⟩:=qap r;have a:=qaQ;show len_str (by lk) ⟨.int z.length,H,I.tok _,⟨_,rfl⟩,q⟩
theorem call_list_of:zA X (.type "list") (fun xs H Q=>∃ p ys,xs=[.ref p]/\(SqL X.K H p ys\/SqT X.K H p ys)/\∀ l,H l=none->Q (.ref l) (upd H l (.lst ys))):=by
 intro pins s σ H xs us Q I r h;obtain⟨p,ys,rfl,hq,q⟩:=h;obtain⟨u,rfl,m⟩:=qap r;cases m;have d:∀(its:List Value),Vals ys its->ys.length<=sizeLine->∀(h':Heap) (a:Nat),(∀ b j,s.heap.get? b=some j->h'.get? b=some j) ->
   h'.get? s.heap.objs.size=some { cls:=.type "list",dict:=none,data:=.seq its.toArray a,slots:=#[] }->EP X pins σ Q (.ref s.heap.objs.size) { s with heap:=h' }:=fun its c hz h' a kp e =>
  ⟨.ref s.heap.objs.size,_,I.laid (t':=s.toks) kp (yh _) (show ObjOk X.prog X.w _ h' _ (.lst ys) from⟨hz,its,a,c,e⟩),rfl,q _ (I.hok.fresh (yh _))⟩
 rcases hq with hq | hq
 .obtain⟨its,c,pl,hz⟩:=I.list hq;have f:=c.length;obtain⟨o,i,hc,n,g⟩:=pl.isList;show call_list_seq p (.inl rfl) i hc g (fun h' a kp e=>d its c hz h' a kp e) (by simp only[yv]<;>lk)
 .obtain⟨its,c,pl,hz⟩:=I.tuple hq;have f:=c.length;obtain⟨o,i,hc,n,g⟩:=pl;show call_list_seq p (.inr rfl) i hc g (fun h' a kp e=>d its c hz h' a kp e) (by simp only[yv]<;>lk)
def tyV(K:yg)(T:String)(x:V)(H:Hp):Prop:=match x with
 | .str _=>T="str"
 | .int _=>T="int"
 | .ref p=>(T="list"/\∃ xs,SqL K H p xs)\/(T="tuple"/\∃ o,K.lookup p=some o/\o.cls=.type "tuple"/\o.dict=none) \/
   (T="dict"/\((∃ kvs,H p=some (.dK kvs))\/∃ kvs,H p=some (.dT kvs)))\/(T="set"/\∃ S n,H p=some (.set S n))
 | _=>False
theorem tyV_is{T:String}(I:Inv X pins σ H s)(r:RelV x v)(ty:tyV X.K T x H) :
  s.TypeIs v T/\∀ a,v=.ref a->∃ h,s.heap.get? a=some h/\h.dict=none:=by
 cases x with
 | str z =>
  obtain⟨t,rfl⟩:=r;cases (show T="str" from ty);show⟨typeIs_str s z t,fun _ e=>nomatch e⟩
 | int i =>
  obtain⟨t,rfl⟩:=r;cases (show T="int" from ty);show⟨typeIs_int s i t,fun _ e=>nomatch e⟩
 | ref p =>
  cases r;rcases ty with⟨rfl,xs,j⟩ | ⟨rfl,o,b,hc,g⟩ | ⟨rfl,b⟩ | ⟨rfl,S,n,b⟩
  .obtain⟨its,_,pl,_⟩:=I.list j;show⟨pl.isList.typeIs,fun a e=>?_⟩;cases e;obtain⟨o,n,e,c,g,_⟩:=pl;show⟨o,e,g⟩
  .show⟨⟨o,I.kIn p o b,hc⟩,fun a e=>?_⟩;cases e;show⟨o,I.kIn _ o b,g⟩
  .have z:∃ o,s.heap.get? p=some o/\o.ExactDict:=by
    rcases b with⟨kvs,b⟩ | ⟨kvs,b⟩
    .obtain⟨_,_,_,_,o,_,_,e,d,_⟩:=I.hok p _ b;show⟨o,e,d⟩
    .obtain⟨_,_,_,_,o,_,_,e,d,_⟩:=I.hok p _ b;show⟨o,e,d⟩
   obtain⟨o,e,d⟩:=z;show⟨⟨o,e,d.1⟩,fun a f=>?_⟩;cases f;show⟨o,e,d.2.1⟩
  .obtain⟨o,_,_,_,e,d,_⟩:=I.hok p _ b;show⟨⟨o,e,d.1⟩,fun a f=>?_⟩;cases f;show⟨o,e,d.2.1⟩
 | _=>show False.elim ty
def tBM0(K:yg)(T:String)(r:V->List V->Hp->VK->Prop)(b:TE):TE:=fun σ H Q=>b σ H fun x a=>tyV K T x a/\r x [] a Q
def tBM(K:yg)(T:String)(r:V->List V->Hp->VK->Prop)(c:TE)(t:TA):TE:=fun σ H Q=>c σ H fun x a=>tyV K T x a/\t σ a fun xs b=>r x xs b Q
variable{o e:Expr}{es:List Expr}{to:TE}{t:TA}{name:Str}{apos cpos:Pos}{T id:String}{r:V->List V->Hp->VK->Prop}
theorem pe_bm(A:PlainAttrs T)(f:Slot T name id)(g:typeOf (.builtin id)=pure (.type "method_descriptor"))(w:MtR X id r)(y:PE X o to)(u:PA X (e::es) t)
  (b:attributeBase o name X.env (eval o X.env)=eval o X.env:=by rfl)
  (d:((backTo cpos (starEach (e::es) X.env)).all (fun x=>!x.1)&&(backToKw cpos (keywordEach [] X.env)).all (fun x=>x.1.isSome)
   && decide ((e::es).length+([]:List Keyword).length+(if ([]:List Keyword).isEmpty then 0 else 1)<30))=true:=by rfl)
  (c:(apos.endLine==cpos.line)=true:=by rfl) (z:starEach (e::es) X.env=(false,eval e X.env)::starEach es X.env:=by rfl) (a:(backTo cpos (starEach es X.env)).any (·.1)=false:=by rfl) :
  PE X (.Call (.Attribute o name apos) (e::es) [] cpos) (tBM X.K T r to t):=by
 intro pins s σ H Q I h;show wpAny_Call_method_late b d c rfl (thn (y pins s σ H _ I h) fun v E ⟨x,m,i,l,ty,B⟩=>?_);obtain⟨h1,q⟩:=tyV_is i l ty;show⟨T,id,A,f,g,h1,q,?_⟩;have j:=u cpos pins E σ m _ i B;rw[z] at j ⊢;show Calls.callWith_builtin (by show(false||(backTo cpos (starEach es X.env)).any (·.1))=false;rw[a]<;>rfl) (Calls.evalArgs_plain ?_);show thn j fun us F ⟨vs,n,p,D,C⟩=>w pins F σ n x vs v us Q p l D C
end
def MtM(X:Cx)(id:String)(r:V->List V->Hp->VK->Prop):Prop:=
 ∀(pins:List (Addr×Obj)) (s:Shared) (σ:St) (H:Hp) (x:V) (xs:List V) (v:Value) (us:List Value) (Q:VK),Inv X pins σ H s->RelV x v->Vals xs us->r x xs H Q ->
  wpAny (model X.prog X.w) X.A (call (.builtin id) (v::us)) (EP X pins σ Q) X.xe s
theorem Vals.one:∀{x:V} {us:List Value},Vals [x] us->∃ u,us=[u]/\RelV x u
 | _,_,.cons r .nil=>⟨_,rfl,r⟩
theorem Vals.eraseIdx:∀{xs:List V} {us:List Value} (i:Nat),Vals xs us->Vals (xs.eraseIdx i) (us.eraseIdx i)
 | _,_,_,.nil=>.nil
 | _,_,0,.cons _ t=>t
 | _,_,i+1,.cons r t=>.cons r (Vals.eraseIdx i t)
theorem Vals.rep(h:Vals xs us):∀ k:Nat,Vals (List.replicate k xs).flatten (List.replicate k us).flatten
 | 0=>.nil
 | k+1=>by
  rw[YU,YU,xl,xl];show Vals.append h (Vals.rep h k)
theorem qbA:∀(l:List α) (i:Nat),(l.eraseIdx i).length<=l.length
 | [],_=>yh _
 | _::_,0=>Xs _
 | _::r,i+1=>X3 (qbA r i)
theorem qbB(its:List Value):∀(k:Nat) (acc:List Value),
  List.foldl (fun b c=>b++c) acc.toArray (List.replicate k its.toArray)=(acc++(List.replicate k its).flatten).toArray
 | 0,acc=>by simp
 | k+1,acc=>by
  have e:acc.toArray++its.toArray=(acc++its).toArray:=by simp
  have a:(acc++its)++(List.replicate k its).flatten=acc++(List.replicate (k+1) its).flatten:=by
   rw[YU,xl,Yo]
  rw[<- a,<- qbB its k (acc++its),<- e,YU,List.foldl_cons]
section
variable{X:Cx}{pins:List (Addr×Obj)}{σ:St}{H:Hp}{s:Shared}{l b:Addr}{xs ys zs:List V}
theorem Inv.lset{f:Array Value->Array Value}(I:Inv X pins σ H s)(a:H l=some (.lst xs))
  (e:s.heap.get? l=some { cls:=.type "list",data:=.seq its.toArray n }) (b:f its.toArray=its'.toArray) (hv:Vals ys its') (hz:ys.length<=sizeLine) :
  Inv X pins σ (upd H l (.lst ys)) { s with heap:=s.heap.update l (Obj.mapSeq f),toks:=t' }:=by
 have q:=PySem.IsL.update e f;rw[b] at q;show I.write (x:=l) (e:=l) (by rw[a];show trivial) (.inl rfl) (fun d u hb c=>(Heap.get?_update_other s.heap (Obj.mapSeq f) (Yn hb)).trans c) ⟨_,q⟩ ?_;show⟨hz,its',_,hv,q⟩
theorem Inv.lnew(I:Inv X pins σ H s)(hv:Vals ys its)(hz:ys.length<=sizeLine) :
  Inv X pins σ (upd H s.heap.objs.size (.lst ys)) { s with heap:=s.heap.push { cls:=.type "list",data:=.seq its.toArray },toks:=t' }:=
 I.laid (fun _ _ q=>yt _ q) (yh _) ⟨hz,its,0,hv,yJ _ rfl⟩
theorem Inv.fresh(I:Inv X pins σ H s):H s.heap.objs.size=none:=I.hok.fresh (yh _)
theorem Inv.lstM(I:Inv X pins σ H s)(a:H l=some (.lst xs)):xs.length<=sizeLine/\∃(its:List Value) (n:Nat),Vals xs its/\xs.length=its.length/\s.heap.get? l=some { cls:=.type "list",data:=.seq its.toArray n }:=by
 obtain⟨z,its,n,r,e⟩:=I.hok l _ a;show⟨z,its,n,r,r.length,e⟩
theorem notLongL(h:n<=sizeLine):Builtin.List.listTooLong n=false:=by
 unfold Builtin.List.listTooLong;show yl (by lk)
end
section
variable{X:Cx}
inductive rAppend(x:V)(vs:List V)(H:Hp)(Q:VK):Prop|mk (l xs y:_) (_:x=.ref l) (_:vs=[y]) (_:H l=some (.lst xs)) (_:xs.length<sizeLine) (_:Q .non (upd H l (.lst (xs++[y]))))
theorem mt_append:MtM X "list.append" rAppend:=by
 intro pins s σ H x vs v us Q I d c h;obtain⟨l,xs,y,rfl,rfl,a,hz,q⟩:=h;cases d;obtain⟨u,rfl,b⟩:=c.one;obtain⟨z,its,n,r,hl,e⟩:=I.lstM a;show call_meets F.slot_list_append ⟨_,e,rfl⟩ F.entry_list_append (F.args_list_append_2 _ _) (PySem.list_append l its.toArray n u (by rw[yv];lk)) ⟨e,?_⟩;show⟨.non,_,I.lset (its':=its++[u]) a e (by simp) (r.append (.cons b .nil)) ?_,rfl,q⟩;rw[yx,List.length_singleton];lk
inductive rExtend(x:V)(vs:List V)(H:Hp)(Q:VK):Prop|mk (l b xs zs:_) (_:x=.ref l) (_:vs=[.ref b]) (_:H l=some (.lst xs)) (_:H b=some (.lst zs)) (_:xs.length+zs.length<=sizeLine) (_:Q .non (upd H l (.lst (xs++zs))))
inductive rPop(x:V)(vs:List V)(H:Hp)(Q:VK):Prop|mk (l xs y:_) (_:x=.ref l) (_:vs=[]) (_:H l=some (.lst xs)) (_:xs[xs.length-1]?=some y) (_:Q y (upd H l (.lst xs.dropLast)))
inductive rPopAt(x:V)(vs:List V)(H:Hp)(Q:VK):Prop|mk (l xs i k y:_) (_:x=.ref l) (_:vs=[.int i]) (_:H l=some (.lst xs)) (_:-(2 ^ 63)<=i) (_:i<2 ^ 63) (_:seqIndex? i xs.length=some k) (_:xs[k]?=some y) (_:Q y (upd H l (.lst (xs.eraseIdx k))))
theorem mt_popAt:MtM X "list.pop" rPopAt:=by
 intro pins s σ H x vs v us Q I m j h;obtain⟨l,xs,i,k,y,rfl,rfl,b,h1,c,d,f,q⟩:=h;cases m;obtain⟨u,rfl,g⟩:=j.one;obtain⟨t,rfl⟩:=g;obtain⟨z,its,n,r,hl,e⟩:=I.lstM b;obtain⟨w,hw,a⟩:=r.get f;show call_meets F.slot_list_pop ⟨_,e,rfl⟩ F.entry_list_pop (F.args_list_pop_2 _ _)
  (MeetsSeq.list_pop_at l its.toArray n i t k w (fitsIndex_both h1 c) (by rw[yv,<- hl];show d) (by rw[<- Y5];show hw) (by rw[yv];lk)) ⟨e,?_⟩
 show⟨y,_,I.lset (its':=its.eraseIdx k) b e ?_ (r.eraseIdx k) ?_,a,q⟩
 .show its.toArray.eraseIdxIfInBounds k=(its.eraseIdx k).toArray;rw[List.eraseIdxIfInBounds_toArray]
 .have:=qbA xs k;lk
inductive rReverse(x:V)(vs:List V)(H:Hp)(Q:VK):Prop|mk (l xs:_) (_:x=.ref l) (_:vs=[]) (_:H l=some (.lst xs)) (_:Q .non (upd H l (.lst xs.reverse)))
inductive rClear(x:V)(vs:List V)(H:Hp)(Q:VK):Prop|mk (l xs:_) (_:x=.ref l) (_:vs=[]) (_:H l=some (.lst xs)) (_:Q .non (upd H l (.lst [])))
inductive rCat(x:V)(y:V)(H:Hp)(Q:VK):Prop|mk (l b xs zs:_) (_:x=.ref l) (_:y=.ref b) (_:H l=some (.lst xs)) (_:H b=some (.lst zs)) (_:xs.length+zs.length<=sizeLine) (_:∀ p,H p=none->Q (.ref p) (upd H p (.lst (xs++zs))))
theorem op_cat:OpR X (binaryOp .Add) rCat:=by
 intro pins s σ H x y v u Q I m o h;obtain⟨l,b,xs,w,rfl,rfl,g,f,hz,q⟩:=h;cases m;cases o;obtain⟨z,its,n,r,hl,e⟩:=I.lstM g;obtain⟨t,a,p,j,i,c⟩:=I.lstM f;show PySem.P.add_list e c ?_ (by rw[yv,yv];lk);have d:its.toArray++a.toArray=(its++a).toArray:=by simp
 rw[d];show⟨.ref _,_,I.lnew (t':=s.toks) (r.append j) (by rw[yx];lk),rfl,q _ I.fresh⟩
inductive rRep(x:V)(y:V)(H:Hp)(Q:VK):Prop|mk (l k xs:_) (_:x=.ref l) (_:y=.int k) (_:H l=some (.lst xs)) (_:-(2 ^ 63)<=k) (_:k<2 ^ 63) (_:xs.length*k.toNat<=sizeLine) (_:∀ p,H p=none->Q (.ref p) (upd H p (.lst (List.replicate k.toNat xs).flatten)))
theorem len_rep(xs:List α)(k:Nat):(List.replicate k xs).flatten.length=k*xs.length:=by
 induction k with
 | zero=>simp
 | succ k ih=>rw[YU,xl,yx,ih,Nat.succ_mul,Nat.add_comm]
theorem qdK:OpR X (binaryOp .Mult) rRep:=by
 intro pins s σ H x y v u Q I A B h;obtain⟨l,k,xs,rfl,rfl,w,h1,p,hz,q⟩:=h;cases A;obtain⟨t,rfl⟩:=B;obtain⟨z,its,n,r,hl,e⟩:=I.lstM w;have f:its.toArray.size*k.toNat<=sizeLine:=by rw[yv,<- hl];show hz
 have c:¬ its.toArray.size*k.toNat>(2 ^ 63-1) / 8:=by
  have:(sizeLine:Nat)<=(2 ^ 63-1) / 8:=by decide
  lk
 have d:¬ (!Builtin.List.listFitsIndex k)=true:=by
  rw[fitsIndex_both h1 p];show Yh
 have b:¬ Builtin.List.listTooLong (its.toArray.size*k.toNat)=true:=by
  rw[notLongL f];show Yh
 have g:List.foldl (fun i j=>i++j) #[] (List.replicate (if its.toArray.isEmpty=true then 0 else k.toNat) its.toArray)=(List.replicate k.toNat its).flatten.toArray:=by
  have o:∀ m:Nat,List.foldl (fun i j=>i++j) #[] (List.replicate m its.toArray)=(List.replicate m its).flatten.toArray:=fun m=>by
   have:=qbB its m [];rw[xE] at this;show this
  rw[o]
  cases its with
  | nil=>simp
  | cons a r'=>rw[yz (by simp)]
 show wpAny_binaryOp_repeat_ref (T:="list") (U:="int") (by decide) ⟨_,e,rfl⟩ (fun C=>typeIs_int C k t) noFill_list_mul F.fills_int_mul F.slot_int_rmul repeat_list F.slot_int_index.lookup
  (call_meets F.slot_int_rmul (typeIs_int s k t) F.entry_int_rmul (F.args_int_rmul_2 _ _) (int___rmul___int_list k t l its.toArray n)
   ⟨e,rfl,⟨_,e,rfl⟩,call_meets F.slot_list_mul ⟨_,e,rfl⟩ F.entry_list_mul (F.args_list_mul_2 _ _) (AutoListH.list___mul___list_int_3 l its.toArray n k t d c b) ⟨e,?_⟩⟩)
 rw[g];show⟨.ref _,_,I.lnew (t':=s.toks) (r.rep k.toNat) (by rw[len_rep,Nat.mul_comm];show hz),rfl,q _ I.fresh⟩
end
section
variable{prog:Program}{w:World}{A:Around}{E:Value->Shared->Prop}{s:Shared}
set_option maxRecDepth 100000 in
end
section
variable{X:Cx}
end
section
variable{κ:Type}[DecidableEq κ]
noncomputable def jG(kvs:List (κ×V))(k:κ):Option V:=(kvs.find? fun a=>decide (a.1=k)).map (·.2)
noncomputable def zm(kvs:List (κ×V))(k:κ)(v:V):List (κ×V):=
 if (kvs.any fun a=>decide (a.1=k))=true then kvs.map (fun a=>if a.1=k then(a.1,v) else a) else kvs++[(k,v)]
noncomputable def dropK(kvs:List (κ×V))(k:κ):List (κ×V):=kvs.filter fun a=>decide (a.1≠k)
theorem qL{p:κ×V}{r:List (κ×V)}{k:κ}(e:p.1=k):jG (p::r) k=some p.2:=by simp[jG,Y9,e]
theorem qH{p:κ×V}{r:List (κ×V)}{k:κ}(e:¬ p.1=k):jG (p::r) k=jG r k:=by simp[jG,Y9,e]
theorem zq(k:κ):∀ kvs:List (κ×V),(kvs.any fun a=>decide (a.1=k))=(jG kvs k).isSome
 | []=>rfl
 | p::r=>by
  rw[Xq];by_cases e:p.1=k
  .simp only[qL e,yH e,Bool.true_or,Option.isSome_some]
  .rw [qH e,yl e,Bool.false_or];show zq k r
theorem qci(k j:κ)(y:V):∀ kvs:List (κ×V),jG (kvs.map fun a=>if a.1=k then(a.1,y) else a) j=(jG kvs j).map fun x=>if j=k then y else x
 | []=>rfl
 | p::r=>by
  have b:=qci k j y r;rw[yV];by_cases h:p.1=k
  .rw [yF h];by_cases e:p.1=j
   .rw [qL (p:=(p.1,y)) e,qL e,Xx,yF (e.symm.trans h)]
   .rw [qH (p:=(p.1,y)) e,qH e,b]
  .rw [yz h];by_cases e:p.1=j
   .rw [qL (p:=p) e,qL e,Xx,yz (fun z=>h (e.trans z))]
   .rw [qH (p:=p) e,qH e,b]
theorem qbC(k j:κ)(y:V):∀ kvs:List (κ×V),jG kvs k=none->jG (kvs++[(k,y)]) j=if j=k then some y else jG kvs j
 | [],_=>by
  by_cases e:k=j
  .rw [yF e.symm];show qL (p:=(k,y)) e
  .rw [yz (fun z=>e z.symm)];show qH (p:=(k,y)) e
 | p::r,hn=>by
  rw[Xm];have a:¬ p.1=k:=fun z=>by rw[qL z] at hn;cases hn
  rw[qH a] at hn;have b:=qbC k j y r hn;by_cases e:p.1=j
  .rw [qL e,qL e,yz (fun z=>a (e.trans z))]
  .rw [qH e,qH e,b]
theorem qag(kvs:List (κ×V))(k j:κ)(y:V):jG (zm kvs k y) j=if j=k then some y else jG kvs j:=by
 unfold zm;by_cases a:(kvs.any fun c=>decide (c.1=k))=true
 .rw [yF a,qci];rw[zq] at a;by_cases e:j=k
  .obtain⟨x,b⟩:=xS.mp a;rw[yF e,e,b,Xx,yF rfl]
  .rw [yz e]
   cases jG kvs j with
   | none=>rfl
   | some x=>rw[Xx,yz e]
 .rw [yz a];show qbC k j y kvs ?_;rw[zq] at a
  cases q:jG kvs k with
  | none=>rfl
  | some x=>rw[q] at a;show(a rfl).elim
theorem qO(kvs:List (κ×V))(k:κ)(v:V):(zm kvs k v).length<=kvs.length+1:=by
 unfold zm;split
 .rw [ya];lk
 .rw [yx,yM,Ym];lk
theorem qah{kvs:List (κ×V)}{k:κ}(v:V)(h:jG kvs k=none):zm kvs k v=kvs++[(k,v)]:=by
 unfold zm;rw[zq,h];show yz (by decide)
theorem RelO.isSome_eq{u:Option Value}(r:RelO o u):o.isSome=u.isSome:=by
 cases o with
 | none=>cases u with
  | none=>rfl
  | some _=>show(show False from r).elim
 | some _=>cases u with
  | none=>show(show False from r).elim
  | some _=>rfl
theorem RelO.getD{u:Option Value}{d:V}{d':Value}(r:RelO o u)(a:RelV d d'):RelV (o.getD d) (u.getD d'):=by
 cases o with
 | none=>cases u with
  | none=>show a
  | some _=>show(show False from r).elim
 | some _=>cases u with
  | none=>show(show False from r).elim
  | some _=>show r
theorem KV.val{kvs:List (κ×V)}{vs:List (κ×Value)}(r:KV kvs vs)(k:κ):RelO (jG kvs k) (valueAt vs k):=by
 unfold KV at r
 induction r with
 | nil=>show YH
 | @cons p q ps qs h t ih =>
  obtain⟨h1,c⟩:=h;by_cases e:p.1=k
  .have a:q.1=k:=h1.symm.trans e;have b:valueAt (q::qs) k=some q.2:=by simp[valueAt,Y9,a]
   rw[qL e,b];show c
  .have a:¬ q.1=k:=fun z=>e (h1.trans z);have b:valueAt (q::qs) k=valueAt qs k:=by simp[valueAt,Y9,a]
   rw[qH e,b];show ih
theorem KV.any{kvs:List (κ×V)}{vs:List (κ×Value)}(r:KV kvs vs)(k:κ):(kvs.any fun a=>decide (a.1=k))=vs.any fun a=>decide (a.1=k):=by
 unfold KV at r
 induction r with
 | nil=>rfl
 | cons h t ih=>rw[Xq,Xq,ih,h.1]
theorem KV.repl{kvs:List (κ×V)}{vs:List (κ×Value)}(r:KV kvs vs)(k:κ)(c:RelV y u) :
  KV (kvs.map fun a=>if a.1=k then(a.1,y) else a) (vs.map fun a=>if a.1=k then(a.1,u) else a):=by
 unfold KV at r ⊢
 induction r with
 | nil=>show .nil
 | @cons p q ps qs h t ih =>
  rw[yV,yV];show .cons ?_ ih;obtain⟨h1,b⟩:=h;by_cases e:p.1=k
  .rw [yF e,yF (h1.symm.trans e)];show⟨h1,c⟩
  .rw [yz e,yz (fun z=>e (h1.trans z))];show⟨h1,b⟩
theorem KV.put{kvs:List (κ×V)}{vs:List (κ×Value)}(r:KV kvs vs)(k:κ)(a:RelV y u):KV (zm kvs k y) (stored vs k u):=by
 unfold zm stored;rw[r.any k];by_cases e:(vs.any fun b=>decide (b.1=k))=true
 .rw [yF e,yF e];show r.repl k a
 .rw [yz e,yz e];show Paired.snoc r ⟨rfl,a⟩
theorem KV.length{kvs:List (κ×V)}{vs:List (κ×Value)}(r:KV kvs vs):kvs.length=vs.length:=Xp r
end
theorem qcI{k:Key}(r:RelV (kV k) u):(qI P w).is k u=true:=by
 cases k with
 | inl i=>obtain⟨t,e⟩:=(show ∃ t,u=Value.int i t from r);subst e;show mixKind_int P w i t
 | inr x=>obtain⟨t,e⟩:=(show ∃ t,u=Value.str x t from r);subst e;show mixKind_str P w x t
theorem qbD:∀{ks:List Key} {us:List Value},Vals (ks.map kV) us->ItemsAre (qI P w) ks us
 | [],_,r=>by rw[Xe] at r;cases r;show .nil
 | k::ks,_,r=>by
  rw[yV] at r
  cases r with
  | cons h t=>show .cons (qcI h) (qbD t)
abbrev KT(H:Hp):List (List Key×V)->List (List Key×Addr×Value)->Prop:=Paired fun p q=>p.1=q.1/\H q.2.1=some (.tup (p.1.map kV))/\RelV p.2 q.2.2
theorem KT.val{xs:List (List Key×Addr×Value)}(r:KT H kvs xs)(k:List Key):RelO (jG kvs k) ((atKey xs k).map (·.2)):=by
 induction r with
 | nil=>show YH
 | @cons p q ps qs h t ih =>
  obtain⟨h1,_,c⟩:=h;by_cases e:p.1=k
  .have a:q.1=k:=h1.symm.trans e;have b:atKey (q::qs) k=some q.2:=by simp[atKey,Y9,a]
   rw[qL e,b];show c
  .have a:¬ q.1=k:=fun z=>e (h1.trans z);have b:atKey (q::qs) k=atKey qs k:=by simp[atKey,Y9,a]
   rw[qH e,b];show ih
theorem KT.repl{xs:List (List Key×Addr×Value)}(r:KT H kvs xs)(k:List Key)(d:RelV y u) :
  KT H (kvs.map fun a=>if a.1=k then(a.1,y) else a) (xs.map (putAt k u)):=by
 induction r with
 | nil=>show .nil
 | @cons p q ps qs h t ih =>
  rw[yV,yV];show .cons ?_ ih;obtain⟨h1,b,c⟩:=h;unfold putAt;by_cases e:p.1=k
  .rw [yF e,yF (h1.symm.trans e)];show⟨h1,b,d⟩
  .rw [yz e,yz (fun z=>e (h1.trans z))];show⟨h1,b,c⟩
theorem KT.put{xs:List (List Key×Addr×Value)}(r:KT H kvs xs)(k:List Key){b:Addr}(hb:H b=some (.tup (k.map kV)))(a:RelV y u) :
  KT H (zm kvs k y) (storedH xs k b u):=by
 have e:(kvs.any fun c=>decide (c.1=k))=(atKey xs k).isSome:=by
  rw[zq,(r.val k).isSome_eq,XU]
 unfold zm storedH;rw[e];by_cases q:(atKey xs k).isSome=true
 .rw [yF q,yF q];show r.repl k a
 .rw [yz q,yz q];show Paired.snoc r ⟨rfl,hb,a⟩
theorem KT.keeps{xs:List (List Key×Addr×Value)}(r:KT H kvs xs)(a:∀ b ys,H b=some (.tup ys)->H' b=some (.tup ys)):KT H' kvs xs:=
 Paired.mapP r fun _ _ z=>⟨z.1,a _ _ z.2.1,z.2.2⟩
section
variable{P:Program}{w:World}{H:Hp}{h:Heap}{a:Addr}
theorem qet{u:HO}(ok:HOk P w H h)(e:Rd H a u):ObjOk P w H h a u:=e.ok ok
theorem qbE{kvs:List (Key×V)}(ok:HOk P w H h)(e:Rd H a (.dK kvs)):kvs.length<=sizeLine/\(a==sysModules)=false/\∃ vs,KV kvs vs/\h.DictOf (qI P w) a vs:=
 show ObjOk P w H h a (.dK kvs) from qet ok e
theorem qd8{kvs:List (Key×V)}(ok:HOk P w H h)(e:H a=some (.dK kvs)):kvs.length<=sizeLine/\(a==sysModules)=false/\∃ vs,KV kvs vs/\h.DictOf (qI P w) a vs:=qbE ok (.inl e)
theorem qaT{ks:List Key}(ok:HOk P w H h)(e:H a=some (.tup (ks.map kV))):(tupleKind (qI P w)).is h ks a:=by
 obtain⟨_,its,r,o,h1,b,n,c⟩:=(show ObjOk P w H h a (.tup (ks.map kV)) from ok a _ e);show⟨o,its.toArray,n,h1,b,c,by simpa using qbD r⟩
theorem qb0(ok:HOk P w H h)(e:Rd H a (.dT kvs)):kvs.length<=sizeLine/\(a==sysModules)=false /\
  ∃ xs,KT H kvs xs/\h.DictOfH (tupleKind (qI P w)) a xs:=by
 obtain⟨z,y,xs,r,o,b,ep,h1,c,d,f,g⟩:=(show ObjOk P w H h a (.dT kvs) from qet ok e);show⟨z,y,xs,r,o,b,ep,h1,c,d,f,fun x hx=>?_,g⟩
 have all:∀{l:List (List Key×V)} {m:List (List Key×Addr×Value)},KT H l m->∀ x∈m,(tupleKind (qI P w)).is h x.1 x.2.1:=by
  intro l m q
  induction q with
  | nil=>intro x hx;show nomatch hx
  | @cons p q ps qs hq t ih =>
   intro x hx;rcases yE.mp hx with e | hx
   .subst e;show qaT ok (by rw[<- hq.1];show hq.2.1)
   .show ih x hx
 show all r x hx
theorem dt_of(ok:HOk P w H h)(e:H a=some (.dT kvs)):kvs.length<=sizeLine/\(a==sysModules)=false /\
  ∃ xs,KT H kvs xs/\h.DictOfH (tupleKind (qI P w)) a xs:=qb0 ok (.inl e)
end
def DGet(H:Hp)(a:Addr)(y:V)(r:Option V):Prop:=
 (∃ kvs k,Rd H a (.dK kvs)/\y=kV k/\r=jG kvs k)\/∃ kvs k b,Rd H a (.dT kvs)/\y=.ref b/\H b=some (.tup (k.map kV))/\r=jG kvs k
def DPut(H:Hp)(a:Addr)(y v:V)(H':Hp):Prop:=
 (∃ kvs k,H a=some (.dK kvs)/\y=kV k/\kvs.length<sizeLine/\H'=upd H a (.dK (zm kvs k v))) \/
 ∃ kvs k b,H a=some (.dT kvs)/\y=.ref b/\H b=some (.tup (k.map kV))/\kvs.length<sizeLine/\H'=upd H a (.dT (zm kvs k v))
theorem DGet.k{kvs:List (Key×V)}{k:Key}(e:H a=some (.dK kvs)):DGet H a (kV k) (jG kvs k):=.inl ⟨kvs,k,.inl e,rfl,rfl⟩
theorem DPut.k{kvs:List (Key×V)}{k:Key}{v:V}(e:H a=some (.dK kvs))(hl:kvs.length<sizeLine):DPut H a (kV k) v (upd H a (.dK (zm kvs k v))):=.inl ⟨kvs,k,e,rfl,hl,rfl⟩
section
variable{X:Cx}{pins:List (Addr×Obj)}{σ:St}{H:Hp}{s:Shared}{a:Addr}{y v:V}{u r:Value}{o:Option V}{A:Around}{E:Value->Shared->Prop}
theorem Inv.big(I:Inv X pins σ H s):sysModules<s.heap.objs.size:=by
 have h:mainGlobals<s.heap.objs.size:=(I.mod.glob.keeps I.bk).lt;show xQ (by decide) h
theorem d_getItem{Q:Value->Shared->Prop}(B:A.units+1<cLine)(I:Inv X pins σ H s)(g:DGet H a y (some v))(n:RelV y u)(h:∀ f q,Inv X pins σ H q->RelV v f->Q f q) :
  wpAny (model X.prog X.w) A (getItem (.ref a) u) Q E s:=by
 rcases g with⟨kvs,k,e,j,l⟩ | ⟨kvs,k,b,e,j,r,l⟩
 .subst j;obtain⟨z,t,vs,c,i⟩:=qbE I.hok e;obtain⟨f,hw,d⟩:=RelO.some_of (v:=v) (o:=valueAt vs k) (by rw[l];show c.val k);show wpAny_getItem_of (qcI n) i.mapOf hw (h f _ (I.tok _) d)
 .subst j;cases (show u=Value.ref b from n);obtain⟨z,t,xs,c,i⟩:=qb0 I.hok e;obtain⟨f,hw,d⟩:=RelO.some_of (v:=v) (o:=(atKey xs k).map (·.2)) (by rw[l];show c.val k);obtain⟨p,x,m⟩:=yn.mp hw;show wpAny_getItem_heap (xA B) (qaT I.hok r) i x ?_;rw[m];show h f _ (I.tok _) d
theorem d_in{Q:Value->Shared->Prop}(p:A.units+1<cLine)(I:Inv X pins σ H s)(g:DGet H a y o)(j:RelV y u)(h:∀ m,Inv X pins σ H m->Q (.bool o.isSome) m) :
  wpAny (model X.prog X.w) A (compareOp .In u (.ref a)) Q E s:=by
 rcases g with⟨kvs,k,e,f,l⟩ | ⟨kvs,k,b,e,f,n,l⟩
 .subst f;obtain⟨z,i,vs,c,d⟩:=qbE I.hok e;show wpAny_in_of (qcI j) i d.mapOf ?_;rw[<- (c.val k).isSome_eq,<- l];show h _ (I.tok _)
 .subst f;cases (show u=Value.ref b from j);obtain⟨z,i,xs,c,d⟩:=qb0 I.hok e;show wpAny_in_heap (xA p) (qaT I.hok n) i d ?_;have q:=(c.val k).isSome_eq;rw[XU] at q;rw[<- q,<- l];show h _ (I.tok _)
theorem d_notIn{Q:Value->Shared->Prop}(p:A.units+1<cLine)(I:Inv X pins σ H s)(g:DGet H a y o)(j:RelV y u)(h:∀ m,Inv X pins σ H m->Q (.bool (!o.isSome)) m) :
  wpAny (model X.prog X.w) A (compareOp .NotIn u (.ref a)) Q E s:=by
 rcases g with⟨kvs,k,e,f,l⟩ | ⟨kvs,k,b,e,f,n,l⟩
 .subst f;obtain⟨z,i,vs,c,d⟩:=qbE I.hok e;show wpAny_notIn_of (qcI j) i d.mapOf ?_;rw[<- (c.val k).isSome_eq,<- l];show h _ (I.tok _)
 .subst f;cases (show u=Value.ref b from j);obtain⟨z,i,xs,c,d⟩:=qb0 I.hok e;show wpAny_notIn_heap (xA p) (qaT I.hok n) i d ?_;have q:=(c.val k).isSome_eq;rw[XU] at q;rw[<- q,<- l];show h _ (I.tok _)
theorem qcY{c:HO}(I:Inv X pins σ H s)(g:Mut (H a))(f:Heap.SameBut a s.heap h')(d:∃ q,h'.get? a=some q)(new:ObjOk X.prog X.w (upd H a c) h' a c) :
  Inv X pins σ (upd H a c) { s with heap:=h',toks:=t' }:=
 I.write (x:=a) (e:=a) g (.inl rfl) (fun b q hb z=>(f.2 b hb).trans z) d new
theorem dk_new{kvs:List (Key×V)}{vs:List (Key×Value)}(z:kvs.length<=sizeLine)(d:(a==sysModules)=false)(b:KV kvs vs)(c:h'.DictOf (qI P w) a vs) :
  ObjOk P w H' h' a (.dK kvs):=⟨z,d,vs,b,c⟩
theorem d_setItem{Q:Unit->Shared->Prop}(N:A.units+1<cLine)(I:Inv X pins σ H s)(g:DPut H a y v H')(C:RelV y u)(B:RelV v r)(h:∀ D,Inv X pins σ H' D->Q () D) :
  wpAny (model X.prog X.w) A (setItem (.ref a) u r) Q E s:=by
 rcases g with⟨kvs,k,e,n,l,m⟩ | ⟨kvs,k,b,e,n,t,l,m⟩
 .subst n m;obtain⟨z,o,vs,d,j⟩:=qd8 I.hok e;have hz:vs.length<=sizeLine:=by rw[<- d.length];show z
  have hl:(zm kvs k v).length<=sizeLine:=by have:=qO kvs k v;lk
  show wpAny_setItem_pairs (hsz:=hz) (qcI C) j fun h' f p=>h _ ?_;have M:∃ q,h'.get? a=some q:=let ⟨q,_,_,i,_⟩:=f;⟨q,i⟩;show qcY I (by rw[e];show YH) p M (dk_new hl o (d.put k B) f)
 .subst n m;cases (show u=Value.ref b from C);obtain⟨z,o,xs,d,j⟩:=dt_of I.hok e;have hz:xs.length<=sizeLine:=by rw[<- Xp d];show z
  have hl:(zm kvs k v).length<=sizeLine:=by have:=qO kvs k v;lk
  show wpAny_setItem_heap (hsz:=hz) (xA N) (qaT I.hok t) j fun h' f p=>h _ ?_;obtain⟨q,F,ep,i,G,J,K,_,L⟩:=f;show qcY I (by rw[e];show YH) p ⟨q,i⟩ ⟨hl,o,_,(d.put k t B).keeps fun c ys x=>?_,q,F,ep,i,G,J,K,L⟩;rw[qh (jd x e (fun z=>nomatch z))];show x
end
section
variable{X:Cx}{pins:List (Addr×Obj)}{σ:St}{H:Hp}{s:Shared}{a:Addr}{kvs:List (Key×V)}{k:Key}{u:Value}{A:Around}{E:Value->Shared->Prop}
theorem d_len{Q:Value->Shared->Prop}(I:Inv X pins σ H s)(e:Rd H a (.dK kvs))(h:∀ t c,Inv X pins σ H c->Q (.int kvs.length t) c):wpAny (model X.prog X.w) A (call (.builtin "len") [.ref a]) Q E s:=by
 obtain⟨z,f,vs,b,d⟩:=qbE I.hok e;show call_len_dict f d (by rw[<- b.length];rw[yX] at z;lk) ?_;rw[<- b.length];show h _ _ (I.tok _)
end
theorem dict_typeIs(I:Inv X pins σ H s)(g:DGet H a y o):s.TypeIs (.ref a) "dict":=by
 rcases g with⟨kvs,k,e,_,_⟩ | ⟨kvs,k,b,e,_,_,_⟩
 .obtain⟨_,_,vs,_,c⟩:=qbE I.hok e;show c.typeIs
 .obtain⟨_,_,xs,_,c⟩:=qb0 I.hok e;show c.typeIs
section
variable{X:Cx}{o i e value:Expr}{pos pos' tpos:Pos}{td ty tv:TE}
end
theorem dk_empty(h:Heap)(hb:sysModules<h.objs.size):ObjOk P w H (h.push { cls:=.type "dict",data:=.dict #[] }) h.objs.size (.dK []):=
 ⟨Yi _,Yy.mpr (Yn (yy hb)),[],.nil,Heap.DictOf.new h⟩
def tDNewK:TE:=fun _ H Q=>∀ p,H p=none->Q (.ref p) (upd H p (.dK []))
section
variable{X:Cx}{pos:Pos}
theorem jz:PE X (.Dict [] [] pos) tDNewK:=fun pins s σ H Q I h =>
 wpAny_Dict_empty ⟨.ref s.heap.objs.size,_,I.laid (a:=s.heap.objs.size) (o:=.dK []) (t':=s.toks) (fun _ _ q=>yt _ q) (yh _) (dk_empty s.heap I.big),rfl,h _ (I.hok.fresh (yh _))⟩
end
structure M1(X:Cx)(o:Expr)(m:Str)(apos:Pos)(e:Expr)(cpos:Pos):Prop where
 base:attributeBase o m X.env (eval o X.env)=eval o X.env
 few:((backTo cpos (starEach [e] X.env)).all (fun x=>!x.1)&&(backToKw cpos (keywordEach [] X.env)).all (fun x=>x.1.isSome)
  && decide (([e]:List Expr).length+([]:List Keyword).length+(if ([]:List Keyword).isEmpty then 0 else 1)<30))=true
 line:(apos.endLine==cpos.line)=true
 trees:backTo cpos (starEach [e] X.env)=[(false,eval e X.env)]
structure M2(X:Cx)(o:Expr)(m:Str)(apos:Pos)(e f:Expr)(cpos:Pos):Prop where
 base:attributeBase o m X.env (eval o X.env)=eval o X.env
 few:((backTo cpos (starEach [e,f] X.env)).all (fun x=>!x.1)&&(backToKw cpos (keywordEach [] X.env)).all (fun x=>x.1.isSome)
  && decide (([e,f]:List Expr).length+([]:List Keyword).length+(if ([]:List Keyword).isEmpty then 0 else 1)<30))=true
 line:(apos.endLine==cpos.line)=true
 trees:backTo cpos (starEach [e,f] X.env)=[(false,eval e X.env),(false,eval f X.env)]
def IsD(H:Hp)(a:Addr):Prop:=(∃ kvs,Rd H a (.dK kvs))\/∃ kvs,Rd H a (.dT kvs)
theorem isD_at(I:Inv X pins σ H s)(d:IsD H a) :
  s.TypeIs (.ref a) "dict"/\(∀ b,Value.ref a=.ref b->∃ c,s.heap.get? b=some c/\c.dict=none)/\(a==sysModules)=false:=by
 rcases d with⟨kvs,e⟩ | ⟨kvs,e⟩
 .obtain⟨_,h,vs,_,f⟩:=qbE I.hok e;show⟨f.typeIs,fun b q=>?_,h⟩;cases q;obtain⟨c,_,_,h1,g,_⟩:=f;show⟨c,h1,g.2.1⟩
 .obtain⟨_,h,xs,_,f⟩:=qb0 I.hok e;show⟨f.typeIs,fun b q=>?_,h⟩;cases q;obtain⟨c,_,_,h1,g,_⟩:=f;show⟨c,h1,g.2.1⟩
section
variable{X:Cx}{pins:List (Addr×Obj)}{σ:St}{H:Hp}{s:Shared}{a:Addr}{y d:V}{u r:Value}{o:Option V}{A:Around}{E:Value->Shared->Prop}
theorem d_get1{Q:Value->Shared->Prop}(q:A.units+1<cLine)(I:Inv X pins σ H s)(g:DGet H a y o)(j:RelV y u)(h:∀ n m,Inv X pins σ H m->RelV (o.getD .non) n->Q n m) :
  wpAny (model X.prog X.w) A (call (.builtin "dict.get") [.ref a,u]) Q E s:=by
 rcases g with⟨kvs,k,e,f,l⟩ | ⟨kvs,k,b,e,f,p,l⟩
 .subst f;obtain⟨z,i,vs,c,d⟩:=qbE I.hok e;show call_meetsIn Xj d.typeIs PySem.F.entry_dict_get (PySem.F.args_dict_get_2 _ _) (meets_dict_get (qI X.prog X.w) a (qcI j) i) ⟨_,d.mapOf,h _ _ (I.tok _) ?_⟩;rw[l];show(c.val k).getD rfl
 .subst f;cases (show u=Value.ref b from j);obtain⟨z,i,xs,c,d⟩:=qb0 I.hok e;show call_meetsIn Xj d.typeIs PySem.F.entry_dict_get (PySem.F.args_dict_get_2 _ _) (meetsH_dict_get (tupleKind (qI X.prog X.w)) a b i) ⟨xA q,k,xs,qaT I.hok p,d,h _ _ (I.tok _) ?_⟩;rw[l];show(c.val k).getD rfl
end
def qdL(d ty:TE):TE:=fun σ H Q=>d σ H fun x b=>∃ a,x=.ref a/\IsD b a/\ty σ b fun y c=>∃ o,DGet c a y o/\Q (o.getD .non) c
def tDGet2(e ty f:TE):TE:=fun σ H Q=>e σ H fun x b=>∃ a,x=.ref a/\IsD b a/\ty σ b fun y d=>f σ d fun z c=>∃ o,DGet c a y o/\Q (o.getD z) c
section
variable{X:Cx}{o e f:Expr}{apos cpos:Pos}{td ty tx:TE}
theorem jr(r:X.A.units+1<cLine)(q:PE X o td)(p:PE X e ty)(m:M1 X o "get" apos e cpos):PE X (.Call (.Attribute o "get" apos) [e] [] cpos) (qdL td ty):=by
 intro pins s σ H Q I h;show wpAny_Call_method m.base m.few m.line PySem.F.plainAttrs_dict Xj PySem.F.type_dict_get (thn (q pins s σ H _ I h) fun u B ⟨x,f,c,w,a,n,d,t⟩=>?_);subst n;obtain rfl:u=Value.ref a:=w;obtain⟨C,D,_⟩:=isD_at c d;show⟨C,D,?_⟩;rw[m.trees];show Calls.callWith_builtin rfl (Calls.evalArgs_plain (XI (thn (p pins B σ f _ c t) fun E J ⟨y,i,j,z,G,g,v⟩=>XS ?_)));show d_get1 r j g z fun L K l b=>⟨_,i,l,b,v⟩
end
section
variable{X:Cx}{pins:List (Addr×Obj)}{σ:St}{H:Hp}{s:Shared}{a:Addr}{kvs:List (Key×V)}{A:Around}{E:Value->Shared->Prop}
end
section
variable{X:Cx}{pins:List (Addr×Obj)}{σ:St}{H:Hp}{s:Shared}{a:Addr}{y:V}{u:Value}{A:Around}{E:Value->Shared->Prop}
end
end L2
namespace Att
open PySem PySem.W PySem.Calls PyProof.Rows
variable{P:Params}{h:Heap}{l:OpenLaw}{n:Nat}
theorem ints_of_wellAll:∀(ns:LQ) (vs:List Value),WellAll P h vs (ns.map WData.int)->IntsAre vs ns:=by
 intro ns
 induction ns with
 | nil =>
  intro vs w;rw[Xe] at w;cases w;show .nil
 | cons n ns ih =>
  intro vs w;rw[yV] at w
  cases w with
  | cons a b =>
   cases a;show .cons _ _ (ih _ b)
theorem script_of(p:l.most=some n){args:List WData}{c:List Value}
  (b:l.row.toRowW.claim.pre args=true) (j:WellAll P h c args) :
  ∃ a vs ns,c=[Value.ref a]/\args=[WData.list (ns.map WData.int)]/\h.get? a=some { cls:=.type "list",data:=.seq vs.toArray }/\IntsAre vs ns/\ns.length<=n:=by
 have i:WShape.hasAll [] args [.list .int]=true:=(pre_splitW b).1;have hc:l.pre.holds [] { args:=args }=true:=(pre_splitW b).2;obtain⟨d,r,rfl,h1,m⟩:=hasAllW_cons i;obtain rfl:=hasAllW_nil m;obtain⟨xs,rfl,o⟩:=hasW_list h1;obtain⟨ns,rfl⟩:=items_int o
 have e:ns.length<=n:=by
  unfold OpenLaw.pre at hc
  have f:(WTm.not (.lt (.lit (.int (n:Int))) (.len (.arg 0)))).holds [] { args:=[.list (ns.map .int)] }=true:=by
   have f:=(holds_andW hc).1;rw[p] at f;show f
  have g:=condW_of f (w_not (w_lt w_lit (w_len_list (w_arg rfl))));rw[ya] at g;show Nat.le_of_not_lt fun q=>?_;have s:(n:Int)<((ns.length:Nat):Int):=by lk
  first
   | (rw[yH s] at g;show absurd g (by decide))
   | (simp at g;lk)
 cases j with
 | cons w1 w2 =>
  cases w2
  cases w1 with
  | list ho hall=>show⟨_,_,ns,rfl,rfl,ho,ints_of_wellAll ns _ hall,e⟩
theorem post_true(l:OpenLaw)(args:List WData):l.row.toRowW.claim.post args (.bool true) args=true:=
 postW_of (r:=l.row.toRowW) (X:=(true==true))
  (show WShape.has [] (.bool true) .bool=true by first | rfl | decide | simp[WShape.has,WShape.arms,WShape.armsAll])
  (show(WTm.eq .res (.lit (.bool true))).value [] { args:=args,res:=some (.bool true),after:=args }=some (.bool (true==true)) from w_eq_bool (w_res rfl) w_lit) rfl
theorem attach_call{q:Program}{loose:LS}{XP:(Str->Option Value)->Heap->Prop}{YP:World->Heap->Prop}{d:DefRec}
  (M:l.most=some n) (u:d.params.defaults=[])
  (call:∀(w:World) (c b:Shared) (mg y:Str->Option Value) (h:Addr) (o:Obj) (z p e:Value) (a:Addr) (vs:List Value) (ns:LQ),
   Ground q loose [] XP w c mg y b.heap->YP w b.heap ->
   b.heap.get? h=some o->o.data=.func (docDef d.name d.params d.body d.scope z p e)->b.heap.CodeRec p d.name->mg d.name=some (.ref h) ->
   b.heap.get? a=some { cls:=.type "list",data:=.seq vs.toArray }->IntsAre vs ns->ns.length<=n->b.gens=#[] ->
   codeAny (model l.prog w) callerA (.call (.ref h) ⟨[.ref a],[]⟩) (fun r s=>r=.ok (.ret (.bool true))/\OldK b.heap s.heap/\s.os=b.os/\AllBare s.gens) b) :
  WalkO q loose XP YP l.row.toRowW d [] (fun f vs=>PySem.call f vs):=by
 intro w c b mg y G Y h o z p e D kV N I t A v J args C R m B P x K;obtain rfl:D=.none:=Dflts.none A u;obtain rfl:kV=.none:=Dflts.noKw A;obtain⟨a,vs,ns,rfl,rfl,j,g,i⟩:=script_of M m x;show enter_call (XH (call w c b mg y h o z p e a vs ns G Y N (fd_plain I) t v j g i J) fun r s O=>?_);obtain⟨rfl,E,F,H⟩:=O;show⟨.inl ⟨.bool true,.bool true,[],rfl,fun _=>rfl,.bool true,post_true l _,fun _=>⟨List.Pairwise.nil,fun _ L=>(nomatch L)⟩⟩,E,F,H⟩
section
variable{prog:Program}{w:World}{A:Around}{E:Value->Shared->Prop}{s:Shared}{K:Frag}
noncomputable def ledger(h:Heap)(L d:Addr):List (Addr×Obj):=(List.range h.objs.size).filterMap fun a=>if a=L\/a=d then none else(h.get? a).map fun o=>(a,o)
end
end Att
namespace L2
open PySem PySem.Spec PyProof.Rows
variable{A B:Prop}{H H':Hp}{a f:Addr}{fd:FuncData}{n:Nat}{ps:LS}{qual x:Str}{sp:Sp}{st:Stmt}
theorem qat:∀{vs:List Value} {ns:LQ},IntsAre vs ns->Vals (ns.map V.int) vs
 | _,_,.nil=>.nil
 | _,_,.cons n t h=>.cons ⟨t,rfl⟩ (qat h)
def qeP(H:Hp):Prop:=∀ b,H b=none\/∃ o xs,H b=some (.frz o (.lst xs))
theorem law_call{P:Program}{w:World}{K:yg}{mg S:Str->Option Value}{CX:CXT}{k:Nat}{L:Addr}{c:Shared}{vs:List Value}{ns:LQ}
  (U:K.In c.heap) (B:c.heap.Ns mainGlobals mg) (hb:c.heap.Ns builtinsNs S) (N:∀ x:Str,x≠"__name__"->S x=bootBuiltins x) (A:c.heap.NoLimit) (hg:c.gens=#[])
  (I:c.heap.get? a=some { cls:=.type "list",data:=.seq vs.toArray }) (Z:IntsAre vs ns) (hl:ns.length<=sizeLine) (hr:Room k callerA)
  (F:∀ f:Heap,K.In f->f.Ns mainGlobals mg->FnOk P w K mg f CX k L fd [x] sp) (l:∀(s:Shared) (u:Value),BindsTo s fd ⟨[u],[]⟩ [(x,u)])
  (R:∀ H:Hp,qeP H->SqL K H a (ns.map V.int)->sp [.ref a] H (fun v _=>v=.bl true) fun _ _ _=>False)
  (M:∀ H e g,CX [] H c (fun _ _ _=>False) e g->False) :
  codeAny (model P w) callerA (.call (.ref L) ⟨[.ref a],[]⟩) (fun r g=>r=.ok (.ret (.bool true))/\OldK c.heap g.heap/\g.os=c.os/\AllBare g.gens) c:=by
 have rv:=qat Z;have E:=Z.length;have j:∀ H:Hp,qeP H->SqL K H a (ns.map V.int)->HOk P w H c.heap->(∀ b,H b≠none->b=a)->(H a≠none->K.lookup a=none) ->
   codeAny (model P w) callerA (.call (.ref L) ⟨[.ref a],[]⟩) (fun r g=>r=.ok (.ret (.bool true))/\OldK c.heap g.heap/\g.os=c.os/\AllBare g.gens) c:=by
  intro H Y hS C X hK;have base_of:∀{b:Addr} {o:Obj},c.heap.get? b=some o->H b=none->(qcc c.heap H).get? b=some o:=fun e n=>qcd e n
  have T:∀{b:Addr} {o:Obj} {t:Array DictEntry} {ep:Nat},c.heap.get? b=some o->o.data=.dict t ep->H b=none:=fun{b o t ep} e d=>by
   cases q:H b with
   | none=>rfl
   | some u =>
    have J:b=a:=X b (by rw[q];simp);subst J;rw[I] at e;cases e;have d':Data.seq vs.toArray _=Data.dict t ep:=d;cases d'
  have i:∀{b:Addr} {m:Str->Option Value},c.heap.Ns b m->(qcc c.heap H).Ns b m:=fun{b m} ⟨o,t,ep,e,d,r⟩=>⟨o,t,ep,base_of e (T e d),d,r⟩
  have y:K.In (qcc c.heap H):=fun b o e=>base_of (U b o e) (by
   cases q:H b with
   | none=>rfl
   | some u =>
    have J:b=a:=X b (by rw[q];simp);subst J;rw[hK (by rw[q];simp)] at e;cases e)
  have hM:Mod K mg (qcc c.heap H):=⟨y,i B,⟨S,i hb,N⟩,let ⟨mc,h1,h2⟩:=A;⟨mc,i h1,h2⟩⟩;have e0:Env0 P w K mg (qcc c.heap H) callerA [] c H:=⟨rfl,hM,fun b o e=>qcP e,Xc (qbo _ _),trivial,fun b hb=>absurd (show b∈([]:LI) from hb) (by simp),C,.of_eq hg⟩;show XH ((F _ y (i B)).run callerA [] c H ⟨[.ref a],[]⟩ [.ref a] [.ref a] _ _ hr e0 (l c (.ref a)) (.cons rfl .nil) (R H Y hS)) fun r g h=>?_
  cases r with
  | error e=>show(M H e g h).elim
  | ok fl =>
   cases fl with
   | next=>show False.elim h
   | brk=>show False.elim h
   | cont=>show False.elim h
   | ret u =>
    obtain⟨v,H',os,p,un,D,r',q⟩:=h;have q':v=.bl true:=q;subst q';obtain rfl:u=Value.bool true:=r';show⟨rfl,OldK.of_keep fun b o e=>?_,os,p⟩
    cases q:H b with
    | none=>show un.keep b o e q (by intro z;show absurd (show b∈([]:LI) from z) (by simp)) (by simp)
    | some u =>
     rcases Y b with z | ⟨ob,xs,z⟩
     .rw [q] at z;cases z
     .have z2:=un.frzs b ob _ z;obtain⟨W,_⟩:=C b _ z;obtain⟨e2,_⟩:=D b _ z2;rw[e] at W;cases W;show e2
 cases O:K.lookup a with
 | some o =>
  have e:=U a o O;rw[I] at e;cases e;show j (fun _=>none) (fun _=>.inl rfl) (.inr ⟨_,vs.toArray,_,O,rfl,rfl,rfl,by rw[yv,E];show hl,by simpa using rv⟩) (fun b u z=>by have G:(none:Option HO)=some u:=z;cases G) (fun b z=>absurd rfl z) fun z=>absurd rfl z
 | none =>
  show j (fun b=>if b=a then some (.frz { cls:=.type "list",data:=.seq vs.toArray } (.lst (ns.map V.int))) else none) (fun b=>?_) (.inl (.inr ⟨{ cls:=.type "list",data:=.seq vs.toArray },yF rfl⟩)) (fun b u z=>?_) (fun b z=>?_) fun _=>O
  .by_cases hb:b=a
   .show .inr ⟨_,_,yF hb⟩
   .show .inl (yz hb)
  .by_cases hb:b=a
   .have G:=(yF hb).symm.trans z;cases G;subst hb;show⟨I,by rw[ya];show hl,vs,_,rv,I⟩
   .have G:=(yz hb).symm.trans z;cases G
  .by_cases hb:b=a
   .show hb
   .show absurd (yz hb) z
noncomputable abbrev KOf{K:yg}{h:Heap}(_:K.In h):yg:=K
theorem walk_of{l:PySem.W.OpenLaw}{k:Nat}{q:Program}{loose:LS}{XP:(Str->Option Value)->Heap->Prop}{YP:World->Heap->Prop}{d:DefRec}{K:Params->yg}{CX:World->CXT}{sp:World->Sp}
  (R:l.most=some n) (A:n<=sizeLine) (y:d.params.defaults=[]) (S:Room k callerA)
  (N:∀(w:World) (h:Heap),YP w h->(K w.params).In h)
  (F:∀(w:World) (mg:Str->Option Value) (r:Addr) (h:Heap),(K w.params).In h->h.Ns mainGlobals mg->mg d.name=some (.ref r) ->
   ∃ fd:FuncData,(∀(s:Shared) (u:Value),BindsTo s fd ⟨[u],[]⟩ [(x,u)]) /\
    ∀ c:Heap,(K w.params).In c->c.Ns mainGlobals mg->FnOk l.prog w (K w.params) mg c (CX w) k r fd [x] (sp w))
  (B:∀(w:World) (H:Hp) (a:Addr) (ns:LQ),ns.length<=n->qeP H->SqL (K w.params) H a (ns.map V.int)->sp w [.ref a] H (fun v _=>v=.bl true) fun _ _ _=>False)
  (t:∀(w:World) (H:Hp) (s:Shared) (e:Value) (C:Shared),CX w [] H s (fun _ _ _=>False) e C->False) :
  PySem.W.WalkO q loose XP YP l.row.toRowW d [] (fun f vs=>PySem.call f vs):=by
 show Att.attach_call R y fun w E p mg mb r o pm U I a vs ns G Y Z X O z m j i P=>?_;have D:=N w _ Y;obtain⟨fd,hb,J⟩:=F w mg r _ D G.T.g z;show law_call D G.T.g G.T.b G.T.builtins G.T.nolimit P m j (yi i A) S J hb (fun H L M=>B w H a ns i L M) fun H e C=>t w H p e C
abbrev CX0:CXT:=fun _ _ _ _ _ _=>False
abbrev E0:XK:=fun _ _ _=>False
theorem qx{X:Cx}:qaf CX0 X E0:=fun _ _ _ _ _ _ _ h=>h.elim
structure Fun(K:yg)(x qual:Str)(st:Stmt)(f:Addr)(fd:FuncData):Prop where
 ex:∃(oc:Value) (od:Option Addr) (kV doc pm:Value) (an:Option Addr) (cdv ct:Value) (osl:Array (Option Value)),
  fd=PySem.W.fnOf x qual (zI st) (jU st) (qg st) .none kV doc pm an cdv ct/\K.lookup f=some ⟨oc,od,.func fd,osl⟩/\PySem.W.codeIn K cdv qual=true
 kp:PySem.W.keepIn K (.ref f)=true
section
variable{P:Program}{w:World}{K:yg}{mg:Str->Option Value}{base:Heap}
theorem Fun.ok{N:LS}{k:Nat}(F:Fun K x qual st f fd)(S:FnScope N ps (qg st)) (c:∀(b:Value) (A:Around) (a:List Env) (s:Shared) (H:Hp) (vs:List V) (Q:VK) (E:XK),Room k (A.deeper (envOfC qual (qg st) s.heap.objs.size f b))->sp vs H Q E ->
   ∃ t,PSs (qd7 CX0 P w K mg base N qual (qg st) f b A a s H E).nox (jU st) t/\t { nx:=fun _ H'=>Q .non H',rt:=Q } (start N vs) H) (len:∀ vs H Q E,sp vs H Q E->vs.length=ps.length:=by intro _ _ _ _ h;cases h;subst_vars;rfl):FnOk P w K mg base CX0 (k+1) f fd ps sp:=by
 obtain⟨n,od,kV,g,o,m,b,ct,l,rfl,j,d⟩:=F.ex;show qer j d S len fun A a s H vs Q E i e=>?_;obtain⟨t,h,q⟩:=c b A a s H vs Q E i e;show⟨t,h.nox,q⟩
theorem Fun.binds(F:Fun K x qual st f fd)
  (h:∀(kV b d:Value) (c:Option Addr) (a ct:Value) (us:List Value),us.length=ps.length->bindArgs (PySem.W.fnOf x qual (zI st) (jU st) (qg st) .none kV b d c a ct) ⟨us,[]⟩=pure (ps.zip us)):Binds K fd ps []:=by
 obtain⟨j,od,kV,b,d,c,a,ct,g,rfl,i,e⟩:=F.ex;show .all (h kV b d c a ct)
theorem fun_mk{h:Value}{od e:Option Addr}{d:Array (Option Value)}{kV b g a ct:Value}(l:K.lookup f=some ⟨h,od,.func (PySem.W.fnOf x qual (zI st) (jU st) (qg st) .none kV b g e a ct),d⟩)
  (c:PySem.W.codeIn K a qual=true) (k:PySem.W.keepIn K (.ref f)=true):Fun K x qual st f (PySem.W.fnOf x qual (zI st) (jU st) (qg st) .none kV b g e a ct):=⟨⟨h,od,kV,b,g,e,a,ct,d,rfl,l,c⟩,k⟩
end
theorem qi(h:n<=1000):n<sizeLine:=Y0 h (by decide)
section
variable{X:Cx}
theorem pv(i:Nat){pos:Pos}(b:X.N[i]?=some x:=by rfl)(hv:Vis X.env.scope x:=by first | show yN rfl | show Xf (yN rfl) | show Xf (Xf rfl))(c:(x==("__debug__":Str))=false:=by decide)
  (a:(x==("__classdict__":Str))=false:=by decide):PE X (.Name x pos) (qej i):=pe_var b hv c a
theorem call_lenD:zA X (.builtin "len") (fun xs H Q=>∃ a kvs,xs=[V.ref a]/\H a=some (.dK kvs)/\Q (.int kvs.length) H):=by
 intro b s g H xs us Q I r h;obtain⟨a,kvs,rfl,d,q⟩:=h;obtain⟨u,rfl,e⟩:=qap r;cases e;show d_len I (.inl d) fun t f c=>⟨.int kvs.length,H,c,⟨t,rfl⟩,q⟩
end
theorem qbT(h:A):if true=true then A else B:=by
 rw[yF rfl];show h
theorem qT{c:Prop}[Decidable c](h1:c->A)(a:¬ c->B):if c then A else B:=by
 by_cases h:c
 .rw [yF h];show h1 h
 .rw [yz h];show a h
def Same(H H':Hp):Prop:=∀ b o,H b=some o->H' b=some o
theorem Same.refl(H:Hp):Same H H:=fun _ _ h=>h
theorem Same.trans{d e:Hp}(a:Same H d)(b:Same d e):Same H e:=fun c o h=>b c o (a c o h)
theorem Same.free(e:Same H H'){l:Addr}(h:H' l=Option.none):H l=Option.none:=by
 cases q:H l with
 | none=>rfl
 | some o =>
  rw[e l o q] at h;cases h
theorem Same.seq{K:yg}{xs:List V}(e:Same H H')(h:SqL K H a xs):SqL K H' a xs:=by
 rcases h with(h | ⟨o,h⟩) | h
 .show .inl (.inl (e _ _ h))
 .show .inl (.inr ⟨o,e _ _ h⟩)
 .show .inr h
section
variable{κ:Type}[DecidableEq κ]
end
end L2
set_option maxHeartbeats 4000000
namespace L2
open PySem PySem.Spec PyProof.Rows
variable{C D c e it p:Addr}{E:Value->Shared->Prop}{H:Hp}{N:LS}{P:Program}{QO:Option Int->Hp->Prop}{R:It->Hp->Prop}{T:String}{X:Cx}{acc:List (Str×Addr)}{dx:Option Addr}{elt iter tg:Expr}{env:Env}{expr:Bool}{f:V->List V->Hp->VK->Prop}{fp:LI}{g:TG}{h:Heap}{i j:Int}{ifs:List Expr}{its:List Value}{ixs:LN}{n nl:Nat}{names:List (Str×NameKind)}{od:Option Obj}{ox:Obj}{pins:List (Addr×Obj)}{s:Shared}{sc scope:Scope}{t u:Value}{tc:TT}{te:TE}{tk:Tok}{v y:V}{w:World}{wi:TI}{x z:Str}{xs ys:List V}{σ:St}
section
variable{prog:Program}{w:World}{A:Around}{R:Result->Shared->Prop}{s:Shared}
theorem compLoop_own{a:Expr}{pos:Pos}{it acc:Value}(I:Nat->Shared->Prop)
  (turn:∀ n s,I n s->wpAny (model prog w) A (pyNext it) (fun r e=>match r with
   | none=>R (.ok .next) e
   | some v=>wpAny (model prog w) A (letOwnedTupleGo a it v) (fun _ b=>wpAny (model prog w) A (assign a env v) (fun _ i =>
     wpAny (model prog w) A (forIn ifs true fun c r=>if r=true then do let ok <- isTrue c env (eval c env);pure (ForInStep.yield ok) else pure (ForInStep.yield r)) (fun ok f =>
      if ok=true then wpAny (model prog w) A (eval elt env) (fun x j =>
       wpAny (model prog w) A (call (.builtin "list.append") [acc,x]) (fun _ l=>∃ m,m<n/\I m l) (fun _ _=>False) j) (fun _ _=>False) f
      else ∃ m,m<n/\I m f) (fun _ _=>False) i) (fun _ _=>False) b) (fun _ _=>False) e) (fun _ _=>False) s)
  (n:Nat) (h:I n s) :
  codeAny (model prog w) A (.compLoop (.ListComp elt [⟨a,iter,ifs,0⟩] scope pos) 0 it acc env) R s:=by
 show codeAny_loop rfl I (fun n s t=>?_) n h;show wpAny _ A ((compTurn (.ListComp elt [⟨a,iter,ifs,0⟩] scope pos) 0 it acc env).onRaise (fun x=>do noteFrame x env;theTreesLotGoes x)) _ _ s;show wpAny_noted ?_;rw[compTurn_list];show yr (XW (yr (Yz (turn n s t) (fun r e h1=>?_) fun _ _ h'=>h'.elim)))
 cases r with
 | none=>show yu h1
 | some v =>
  show yr (Yz h1 (fun _ b d=>?_) fun _ _ h'=>h'.elim);show yr (Yz d (fun _ i o=>yr (Yz o (fun ok f g=>?_) fun _ _ h'=>h'.elim)) fun _ _ h'=>h'.elim)
  cases ok with
  | false=>show yu ⟨rfl,g⟩
  | true =>
   show yr (yr (Yz g (fun x j p=>yr (Yz p (fun _ l q=>yu (yu ⟨rfl,q⟩)) fun _ _ h'=>h'.elim)) fun _ _ h'=>h'.elim))
end
noncomputable def qC(env:Env):List (Str×NameKind)->List (Str×Addr)->List (Str×Addr)
 | [],acc=>acc
 | (n,k)::r,acc=>qC env r (if (k==.free)=true then(n,(env.cells.lookup n).getD 0)::acc else acc)
theorem j0:∀{names:List (Str×NameKind)} {acc:List (Str×Addr)} {x:Str} {c:Addr},(qC env names acc).lookup x=some c ->
  ((x,NameKind.free)∈names/\c=(env.cells.lookup x).getD 0)\/acc.lookup x=some c
 | [],_,_,_,h=>.inr h
 | (n,k)::r,acc,x,c,h=>by
  unfold qC at h;rcases j0 h with⟨h1,f⟩ | h1
  .show .inl ⟨yw _ h1,f⟩
  .by_cases a:(k==NameKind.free)=true
   .rw [yF a,YX] at h1
    cases b:x==n with
    | true =>
     rw[b] at h1;have e:x=n:=yY.mp b;have d:k=.free:=yY.mp a;subst e d;show .inl ⟨yC,(ym h1).symm⟩
    | false =>
     rw[b] at h1;show .inr h1
   .rw [yz a] at h1;show .inr h1
theorem zM:∀{names:List (Str×NameKind)} {acc:List (Str×Addr)} {x:Str},(∃ c,acc.lookup x=some c)->∃ c,(qC env names acc).lookup x=some c
 | [],_,_,h=>h
 | (n,k)::r,acc,x,h=>by
  unfold qC;apply zM;by_cases a:(k==NameKind.free)=true
  .rw [yF a,YX]
   cases b:x==n with
   | true=>show⟨_,rfl⟩
   | false=>show h
  .rw [yz a];show h
theorem j3:∀{names:List (Str×NameKind)} {acc:List (Str×Addr)} {x:Str},(x,NameKind.free)∈names->∃ c,(qC env names acc).lookup x=some c
 | [],_,_,h=>by cases h
 | (n,k)::r,acc,x,h=>by
  unfold qC;rcases yE.mp h with e | e
  .cases e;apply zM;rw[show(NameKind.free==NameKind.free)=true from rfl,yF rfl,YX,YQ];show⟨_,rfl⟩
  .show j3 e
theorem zN(h:∀ n,(n,NameKind.free)∈scope.names->∃ c,env.cells.lookup n=some c):closureFor scope env=pure (qC env scope.names []):=by
 have f:∀(names:List (Str×NameKind)) (acc:List (Str×Addr)),(∀ n,(n,NameKind.free)∈names->∃ c,env.cells.lookup n=some c) ->
   (forIn names acc (fun(x:Str×NameKind) (r:List (Str×Addr))=>(if (x.2==NameKind.free)=true then(cellOf env x.1>>=fun c=>pure (ForInStep.yield ((x.1,c)::r))) else pure (ForInStep.yield r):Sem (ForInStep (List (Str×Addr))))))=(pure (qC env names acc):Sem (List (Str×Addr))):=by
  intro names
  induction names with
  | nil=>intro acc _;rfl
  | cons x r ih =>
   intro acc d;obtain⟨n,k⟩:=x;rw[ke];unfold qC;by_cases a:(k==NameKind.free)=true
   .have g:k=.free:=yY.mp a;subst g;obtain⟨c,hc⟩:=d n yC;have i:cellOf env n=pure c:=by unfold cellOf;rw[hc]
    simp only[a,xV,i,hc,Option.getD_some];show ih _ fun m b=>d m (yw _ b)
   .simp only[a,xT];show ih _ fun m b=>d m (yw _ b)
 have e:=f scope.names [] h;unfold closureFor;show Eq.trans (congrArg (fun m=>m>>=pure) e) rfl
@[reducible] noncomputable def Cx.comp(X:Cx)(N:LS)(scope:Scope)(C:Addr)(s0:Shared)(H0:Hp)(ex:LI):Cx where
 prog:=X.prog
 w:=X.w
 K:=X.K
 mg:=X.mg
 base:=X.base
 A:=X.A
 N:=N
 s₀:=s0
 H₀:=H0
 env:=compEnvC scope (cellsFrom (C+1) scope.names (qC X.env scope.names [])) C X.env
 outer:=X.stack
 stack:=X.stack
 ex:=ex
 fn:=fun x=>scope.names.lookup x==some NameKind.cell
 calm:=X.calm
 pn:=[]
 xe:=fun _ _=>False
theorem qW:∀(names:List (Str×NameKind)) (n:Nat) (acc:List (Str×Addr)),cellsFrom n names acc=cellsFrom n names []++acc
 | [],_,_=>rfl
 | (m,k)::r,n,acc=>by
  unfold cellsFrom;split
  .rw [qW r (n+1) ((m,n)::acc),qW r (n+1) [(m,n)],Yo];rfl
  .show qW r n acc
theorem zO:∀{names:List (Str×NameKind)} {n:Nat} {x:Str},(x,NameKind.cell)∈names->∃ c,(cellsFrom n names []).lookup x=some c
 | (m,k)::r,n,x,h=>by
  unfold cellsFrom;rcases yE.mp h with e | e
  .cases e;rw[yF (show(NameKind.cell==NameKind.cell)=true from rfl),qW,Y1]
   cases q:(cellsFrom (n+1) r []).lookup m with
   | some c=>show⟨c,rfl⟩
   | none=>show⟨n,by show List.lookup m [(m,n)]=some n;rw[YX,YQ]⟩
  .split
   .rw [qW,Y1];obtain⟨c,hc⟩:=zO (n:=n+1) e;show⟨c,by rw[hc];rfl⟩
   .show zO e
theorem qau:∀{names:List (Str×NameKind)} {n:Nat} {x:Str} {c:Addr},(x,c)∈cellsFrom n names []->(x,NameKind.cell)∈names
 | (m,k)::r,n,x,c,h=>by
  unfold cellsFrom at h;split at h
  .rename_i hk
   rw[qW] at h;rcases yB.mp h with z | z
   .show yw _ (qau z)
   .have e:(x,c)=(m,n):=yA.mp z;cases e;rw[yY.mp hk];show yC
  .show yw _ (qau h)
theorem qav(h:(cellsFrom n names acc).lookup x=some c):(x,c)∈cellsFrom n names []\/acc.lookup x=some c:=by
 rw[qW,Y1] at h
 cases e:(cellsFrom n names []).lookup x with
 | some d=>rw[e] at h;cases h;show .inl (mem_of_lookup e)
 | none=>rw[e] at h;show .inr h
theorem cells_some(h:(x,NameKind.cell)∈names\/∃ c,acc.lookup x=some c):∃ c,(cellsFrom n names acc).lookup x=some c:=by
 rw[qW,Y1]
 cases e:(cellsFrom n names []).lookup x with
 | some d=>show⟨d,rfl⟩
 | none =>
  rcases h with z | ⟨c,hc⟩
  .obtain⟨d,a⟩:=zO (n:=n) z;rw[e] at a;cases a
  .show⟨c,hc⟩
section
variable{M:Model}{A:Around}{E:Value->Shared->Prop}{s:Shared}
theorem newEnvK{c:Addr}{b:List (Str×Addr)}{g:Str}{f:Option Addr}{e:Value}{d:Env}{a:Addr}{Q:Env->Shared->Prop}
  (j:Q (newEnv scope s.heap.objs.size c (cellsFrom (s.heap.objs.size+1) scope.names b) g f e (some d) a) { s with heap:=pushCells (s.heap.push { cls:=.type "dict",data:=.dict #[] }) scope.names }) :
  wpAny M A (newFunctionEnv scope c b [] g f e (some d) a) Q E s:=by
 simp only[newFunctionEnv,Option.isSome_some,xV];show yr (wpAny_alloc ?_);show yr (wpAny_layCells _ (fun name kind h=>by cases i:kind==NameKind.cell<;>simp[i]) _ _ _ _ ?_);rw[show({ s with heap:=s.heap.push { cls:=.type "dict",data:=.dict #[] } }:Shared).heap.objs.size=s.heap.objs.size+1 from YZ ..];rw[ki];show yr (yu (yu j))
end
structure CompOk(sc scope:Scope):Prop where
 kind:scope.kind=.function
 cel:∀ y∈scope.names,y.2=.cell->scope.names.lookup y.1=some .cell
 loc:∀ y∈scope.names,y.2=.local->scope.names.lookup y.1=some .local
 free:∀ y∈scope.names,y.2=.free->sc.names.lookup y.1=some .cell\/sc.names.lookup y.1=some .free
 once:∀ y∈scope.names,y.2=.free->scope.names.lookup y.1=some .free
noncomputable def qdw(sc scope:Scope):Bool:=decide (scope.kind=.function)&&scope.names.all fun y=>match y.2 with
 | .local=>scope.names.lookup y.1==some .local
 | .free=>(sc.names.lookup y.1==some .cell||sc.names.lookup y.1==some .free)&&scope.names.lookup y.1==some .free
 | .cell=>scope.names.lookup y.1==some .cell
 | _=>true
theorem qcj(h:qdw sc scope=true):CompOk sc scope:=by
 unfold qdw at h;rw[yS] at h;have b:=Yq.mp h.2;show⟨yk h.1,fun y a e=>?_,fun y a e=>?_,fun y a e=>?_,fun y a e=>?_⟩
 .have:=b y a;rw[e] at this;show yY.mp this
 .have:=b y a;rw[e] at this;show yY.mp this
 .have:=b y a;rw[e,yS,Bool.or_eq_true] at this;show this.1.imp yY.mp yY.mp
 .have:=b y a;rw[e,yS] at this;show yY.mp this.2
noncomputable def qeQ(nl:Nat)(ixs:LN)(N XN:LS)(names:List (Str×NameKind)):Bool:=(List.range ixs.length).all fun k=>match ixs[k]?,N[nl+k]? with
 | some j,some x=>XN[j]?==some x&&names.any fun y=>y.1==x&&y.2==.free
 | _,_=>true
theorem qcZ{XN:LS}(h:qeQ nl ixs N XN names=true)(k j:Nat)(x:Str)(h1:ixs[k]?=some j)(c:N[nl+k]?=some x):XN[j]?=some x/\(x,NameKind.free)∈names:=by
 have d:k<ixs.length:=(yc.mp h1).1;have:=Yq.mp h k (YY.mpr d);rw[h1,c] at this;simp only[yS] at this;show⟨yY.mp this.1,?_⟩;obtain⟨⟨n,g⟩,f,e⟩:=xt.mp this.2;rw[yS] at e;have a:n=x:=yY.mp e.1;have b:g=.free:=yY.mp e.2;subst a b;show f
noncomputable def qcN(nl:Nat)(ixs:LN)(σ:St):St:=List.replicate nl none++ixs.map fun j=>(σ[j]?).getD none
theorem capS_len(nl:Nat)(ixs:LN)(σ:St):(qcN nl ixs σ).length=nl+ixs.length:=by
 unfold qcN;rw[yx,YC,ya]
theorem qck{i:Nat}(h:(qcN nl ixs σ)[i]?=some (some v)):nl<=i/\∃ j,ixs[i-nl]?=some j/\σ[j]?=some (some v):=by
 unfold qcN at h;by_cases a:i<nl
 .rw [yP (by rw[YC];show a),Xa] at h;split at h<;>cases h
 .rw [Yb (by rw[YC];lk),YC,yd] at h;show⟨by lk,?_⟩
  cases e:ixs[i-nl]? with
  | none=>rw[e] at h;cases h
  | some j =>
   rw[e] at h;have h':(σ[j]?).getD none=some v:=ym h
   cases q:σ[j]? with
   | none=>rw[q] at h';cases h'
   | some u =>
    rw[q] at h';show⟨j,rfl,by rw[q];show congrArg some h'⟩
noncomputable def qdx(env:Env)(y:Str×NameKind):Str×NameKind:=if (y.2==NameKind.free&&env.scope.kind==.function&&env.kindOf y.1==some .cell)=true then(y.1,NameKind.cell) else(y.1,y.2)
theorem relF_fst(env:Env)(y:Str×NameKind):(qdx env y).1=y.1:=by unfold qdx;split<;>rfl
theorem relF_snd(env:Env)(y:Str×NameKind):(qdx env y).2=y.2\/((qdx env y).2=.cell/\y.2=.free):=by
 unfold qdx;split
 .rename_i h
  rw[yS,yS] at h;show .inr ⟨rfl,yY.mp h.1.1⟩
 .show .inl rfl
theorem jM:∀{names:List (Str×NameKind)} {x:Str} {k:NameKind},(names.map (qdx env)).lookup x=some k->∃ b,names.lookup x=some b/\(x,b)∈names/\(k=b\/(k=.cell/\b=.free))
 | [],_,_,h=>by cases h
 | (n,k1)::r,x,k,h=>by
  rw[yV,show qdx env (n,k1)=((qdx env (n,k1)).1,(qdx env (n,k1)).2) from rfl,YX,relF_fst] at h;rw[YX]
  cases c:x==n with
  | true =>
   have e:x=n:=yY.mp c;subst e;have a:(x==(x,k1).1)=true:=c;rw[a] at h;have h':=ym h;show⟨k1,rfl,yC,?_⟩;rcases relF_snd env (x,k1) with z | ⟨z1,z2⟩
   .show .inl (h'.symm.trans z)
   .show .inr ⟨h'.symm.trans z1,z2⟩
  | false =>
   have a:(x==(n,k1).1)=false:=c;rw[a] at h;obtain⟨b,d,f,g⟩:=jM h;show⟨b,d,yw _ f,g⟩
section
variable{X:Cx}{pins:List (Addr×Obj)}{σ:St}{H:Hp}{s:Shared}
theorem comp_free_of{cl:List (Str×Addr)}(h:(compEnvC scope cl C X.env).kindOf x=some .cell\/(compEnvC scope cl C X.env).kindOf x=some .free):(x,NameKind.cell)∈scope.names\/(x,NameKind.free)∈scope.names:=by
 rcases h with h | h
 .obtain⟨b,_,a,e | ⟨_,e⟩⟩:=jM (env:=X.env) (names:=scope.names) h
  .rw [<- e] at a;show .inl a
  .rw [e] at a;show .inr a
 .obtain⟨b,_,a,e | ⟨e,_⟩⟩:=jM (env:=X.env) (names:=scope.names) h
  .rw [<- e] at a;show .inr a
  .cases e
theorem Inv.comp{S:Obj}{h1:Heap}{tk:Nat}(I:Inv X pins σ H s)(O:CompOk X.env.scope scope)
  (hN:N.length=nl+ixs.length) (G:∀(k j:Nat) (x:Str),ixs[k]?=some j->N[nl+k]?=some x->X.N[j]?=some x/\(x,NameKind.free)∈scope.names)
  (M:∀ b∈fp,qbY X pins H b) (J:∀ b∈fp,b<s.heap.objs.size) (L:s.heap.objs.size<=C) (W:s.heap.objs.size<=D) (Y:D≠C) (ac:h1.Ns C fun _=>none) (k:∀ b o,s.heap.get? b=some o->h1.get? b=some o)
  (ad:h1.get? D=some S) (aa:∀ v,S.data≠.cell v) (B:CellsOk h1 (C+1) (cellsFrom (C+1) scope.names [])):Inv (X.comp N scope C s H fp) [(D,S)] (qcN nl ixs σ) H { s with heap:=h1,toks:=tk }:=by
 have a:∀ x c,(qC X.env scope.names []).lookup x=some c->X.env.cells.lookup x=some c/\(x,NameKind.free)∈scope.names:=fun x c h=>by
  rcases j0 h with⟨h1,K⟩ | h1
  .obtain⟨F,l⟩:=I.ok.has x (by
    rcases O.free _ h1 rfl with z | z
    .show .inl z
    .show .inr z)
   rw[l] at K;show⟨by rw[l,K];rfl,h1⟩
  .cases h1
 have big:∀ c:Addr,C+1<=c->s.heap.objs.size<=c:=fun c h=>yi L (Nat.le_of_succ_le h);have R:∀{P:Prop} {c:Addr},C+1<=c->c<s.heap.objs.size->P:=fun h g=>absurd (yj g (big _ h)) (Yk _)
 have all:∀ x c,(cellsFrom (C+1) scope.names (qC X.env scope.names [])).lookup x=some c->((x,c)∈cellsFrom (C+1) scope.names []/\C+1<=c/\h1.IsCell c none)\/(X.env.cells.lookup x=some c/\c<s.heap.objs.size):=fun x c h=>by
  rcases qav h with z | z
  .show .inl ⟨z,(B.empty _ _ z).2,(B.empty _ _ z).1⟩
  .obtain⟨_,q⟩:=I.cell x c (a x c z).1;show .inr ⟨(a x c z).1,q.lt⟩
 show⟨⟨I.ok.mod,O.kind,I.ok.glob,I.ok.blt,L,fun x y c h1 K=>?inj,fun x hx=>cells_some ((comp_free_of hx).imp id j3),fun x c z h=>?cab,I.ok.hd,I.ok.frames,.inl rfl,
   fun b hb=>⟨yy (yj (J b hb) L),fun x c e=>?exf⟩,I.bs,yi I.ok.bsz I.sz,fun b o e hb=>?_,fun b hb z=>?_,I.stack,I.stkFree⟩,
  rfl,I.bare,Un.kept k,⟨_,ac,fun i x v e1 e2 e3=>?_⟩,fun x c e=>?_,I.hok.fresh L,fun x c e=>?fre,fun p hp=>?_,I.hok.kept k,?_⟩
 case inj =>
  rcases all x c h1 with⟨r,f,_⟩ | ⟨r,f⟩<;>rcases all y c K with⟨T,U,_⟩ | ⟨T,U⟩
  .show name_of_addr B.apart r T
  .show R f U
  .show R U f
  .show I.ok.inj x y c r T
 case cab =>
  rcases all x c h with⟨_,f,_⟩ | ⟨r,f⟩
  .show big _ f
  .exfalso;obtain⟨d,E⟩:=zO (n:=C+1) (mem_of_lookup (yY.mp z));have h:(cellsFrom (C+1) scope.names (qC X.env scope.names [])).lookup x=some c:=h;rw[qW,Y1,E] at h;cases h;show R (B.empty _ _ (mem_of_lookup E)).2 f
 case exf =>
  rcases all x c e with⟨_,f,_⟩ | ⟨r,_⟩
  .show fun z=>R f (by rw[z];show J b hb)
  .show(M b hb).2.2.2.2.1 x c r
 case fre =>
  rcases all x c e with⟨_,f,_⟩ | ⟨r,_⟩
  .show I.hok.fresh (big _ f)
  .show I.freeC x c r
 .rcases(M b hb).2.2.2.1 with z | z
  .show I.ok.noex b o e z
  .have:=(I.ok.bs b o e).1;show absurd (yj (yD this) z) (Yk _)
 .rcases yE.mp (I.stkSub b z) with e | e
  .show(M b hb).2.1 e
  .show(M b hb).2.2.1 e
 .obtain⟨hi,j,hj,hv⟩:=qck e2;obtain⟨hx,t⟩:=G (i-nl) j x hj (by rw[Nat.add_sub_cancel' hi];show e1);obtain⟨m,hn,hl⟩:=I.loc;have B:=O.free _ t rfl
  obtain⟨u,ru,lk⟩:=hl j x v hx hv (by
   rcases B with z | z
   .show .inr (.inl z)
   .show .inr (.inr z))
  show⟨u,ru,?_⟩;rcases lk with⟨ab,_⟩ | ⟨_,c,hc,A⟩
  .have w:X.env.scope.names.lookup x=some .local:=ab;rcases B with z | z<;>· rw[z] at w;cases w
  .obtain⟨F,l⟩:=j3 (env:=X.env) (acc:=[]) t
   have e:F=c:=by
    have:=(a x F l).1;rw[hc] at this;show(ym this).symm
   subst e
   have Z:(cellsFrom (C+1) scope.names (qC X.env scope.names [])).lookup x=some F:=by
    rw[qW,Y1]
    cases q:(cellsFrom (C+1) scope.names []).lookup x with
    | none=>show l
    | some d=>have:=O.cel _ (qau (mem_of_lookup q)) rfl;rw[O.once _ t rfl] at this;cases this
   show .inr ⟨?_,F,Z,?_⟩
   .rcases e3 with z | z | z
    .obtain⟨k0,z3,_,e | ⟨e,_⟩⟩:=jM (env:=X.env) (names:=scope.names) z
     .rw [O.once _ t rfl] at z3;cases z3;cases e
     .cases e
    .show .inl z
    .show .inr z
   .obtain⟨o,ho,E⟩:=A;show⟨o,k _ _ ho,E⟩
 .rcases all x c e with⟨_,_,a3⟩ | ⟨r,_⟩
  .show⟨none,a3⟩
  .obtain⟨v,o,ho,E⟩:=I.cell x c r;show⟨v,o,k _ _ ho,E⟩
 .have e:p=(D,S):=by simpa using hp
  subst e;show⟨ad,I.hok.fresh W,Y,fun z=>?_,aa⟩;rcases yE.mp (I.stkSub D z) with e | e
  .show absurd (show X.env.locals<D from yj I.lt W) (by rw[e];show Yk _)
  .show I.nofs W e
 .show(qcN nl ixs σ).length=N.length;rw[capS_len,hN]
theorem Inv.compBack{j:Shared}{H':Hp}{i:St}(I:Inv X pins σ H s)(g:∀ b∈fp,qbY X pins H b)(t:s.heap.objs.size<=C)(l:s.heap.objs.size<=D)
  (J:Inv (X.comp N scope C s H fp) [(D,{ cls:=.type "list",data:=.seq its.toArray n })] i H' j) (hv:Vals ys its) (hz:ys.length<=sizeLine):Inv X pins σ (upd H' D (.lst ys)) j:=by
 obtain⟨r,f,p,_,_⟩:=J.pin (D,{ cls:=.type "list",data:=.seq its.toArray n }) (yG _ (yA.mpr rfl));have h:∀ b o,s.heap.get? b=some o->b≠D:=fun b o e=>yy (yj (yD e) l);have a:=J.base;show I.call' (ch:=fp) J.os ⟨a.keep,a.slot,fun b o e n m=>?_,a.there,fun b xs e=>?_,fun b o u e=>?_,fun b ps e=>?_⟩ (fun b u e=>?_) J.bare fun b hb=>⟨(g b hb).2.2.2.1,(g b hb).2.1,(g b hb).2.2.2.2.1,(g b hb).2.2.2.2.2⟩
 .rw [qh (h b o e)];show a.free b o e n m
 .have q:=a.tups b xs e;rw[qh (qA q f)];show q
 .have q:=a.frzs b o u e;rw[qh (qA q f)];show q
 .obtain⟨d,q⟩:=a.tbls b ps e;show⟨d,by rw[qh (qA q f)];show q⟩
 .by_cases hb:b=D
  .subst hb;rw[qb] at e;cases e;show⟨hz,its,n,hv,r⟩
  .rw [qh hb] at e;show(J.hok b u e).stay (fun c v _ q=>q) (fun c q=>by rw[qh (qA q f)];show q) fun c xs q=>by rw[qh (qA q f)];show q
end
def qeR:TT:=fun _ H Q=>Q true H
def qd9(wi:TI)(g:TG)(tc:TT)(te:TE)(nl:Nat)(ixs:LN):TE:=fun σ H Q=>wi σ H fun J e =>
 ∃ W:Nat->Nat->List V->Hp->Prop,(∃ m,W 0 m [] e)/\∀ i m ys H,W i m ys H ->
  (J.stop i H/\ys.length<=sizeLine/\∀ p,H p=none->Q (.ref p) (upd H p (.lst ys))) \/
  (J.go i H/\∃ M:List V->Hp->Prop,(∀ ys' H',M ys' H'->∃ d,d<m/\W (i+1) d ys' H')/\∀ x H',J.yld i H x H'->g x (qcN nl ixs σ) H' fun a f=>tc a f fun b c =>
   if b=true then te a c fun v h=>ys.length<sizeLine/\M (ys++[v]) h else M ys c)
def qc0(nl:Nat)(g:TG):Prop:=∀ x σ H Q,g x σ H Q->g x σ H fun a b=>Q a b/\a.length=σ.length/\∀ i,nl<=i->a[i]?=σ[i]?
theorem jh{i:Nat}(h:i<nl:=by decide):qc0 nl (qaJ i):=fun x σ H Q q=>⟨q,Xv ..,fun j a=>xj (by lk)⟩
def qeu(X:Cx)(ifs:List Expr)(tc:TT):Prop:=
 ∀(pins:List (Addr×Obj)) (s:Shared) (σ:St) (H:Hp) (Q:Bool->Hp->Prop),Inv X pins σ H s->tc σ H Q ->
  wpAny (model X.prog X.w) X.A (forIn ifs true fun c r=>if r=true then do let ok <- isTrue c X.env (eval c X.env);pure (ForInStep.yield ok) else pure (ForInStep.yield r)) (TP X pins σ Q) X.xe s
theorem jN:qeu X [] qeR:=fun pins s σ H Q I h=>wpAny_tests_nil ⟨H,I,h⟩
theorem j4{c:Expr}(h:PT X c tc):qeu X [c] tc:=fun pins s σ H Q I q=>wpAny_tests_one (h pins s σ H Q I q)
section
variable{X:Cx}{pins:List (Addr×Obj)}{σ:St}{H:Hp}{s:Shared}
theorem qaU{tn:Nat->Heap->Prop}{J:It}{pos:Pos}{Q:V->Hp->Prop}
  {RR:Value->Addr->Result->Shared->Prop} (I:Inv X pins σ H s) (hc:X.calm=true) (O:CompOk X.env.scope scope)
  (hN:N.length=nl+ixs.length) (ai:∀(k j:Nat) (x:Str),ixs[k]?=some j->N[nl+k]?=some x->X.N[j]?=some x/\(x,NameKind.free)∈scope.names)
  (T:Turn X.prog X.w X.K tg J fp it tn) (st:tn 0 s.heap) (hf:∀ b∈fp,qbY X pins H b)
  (hg:∀ C s0 H0 ex,PG (X.comp N scope C s0 H0 ex) tg g) (gk:qc0 nl g) (hi:∀ C s0 H0 ex,qeu (X.comp N scope C s0 H0 ex) ifs tc) (he:∀ C s0 H0 ex,PE (X.comp N scope C s0 H0 ex) elt te)
  (h:∃ W:Nat->Nat->List V->Hp->Prop,(∃ m,W 0 m [] H)/\∀ i m ys H,W i m ys H ->
   (J.stop i H/\ys.length<=sizeLine/\∀ p,H p=none->Q (.ref p) (upd H p (.lst ys))) \/
   (J.go i H/\∃ M:List V->Hp->Prop,(∀ ys' H',M ys' H'->∃ m',m'<m/\W (i+1) m' ys' H')/\∀ x H',J.yld i H x H'->g x (qcN nl ixs σ) H' fun ao a=>tc ao a fun b H3 =>
    if b=true then te ao H3 fun v H4=>ys.length<sizeLine/\M (ys++[v]) H4 else M ys H3))
  (av:∀(D C:Addr) (l:Shared) (H':Hp) (R:St) (ys:List V) (its:List Value) (n:Nat),s.heap.objs.size<=C->s.heap.objs.size<=D->Inv (X.comp N scope C s H fp) [(D,{ cls:=.type "list",data:=.seq its.toArray n })] R H' l->Vals ys its->ys.length<=sizeLine ->
   (∀ p,H' p=none->Q (.ref p) (upd H' p (.lst ys)))->RR (.ref D) C (.ok .next) l) :
  wpAny (model X.prog X.w) X.A (newList []) (fun acc s3=>wpAny (model X.prog X.w) X.A (newFunctionEnv scope X.env.globals (qC X.env scope.names []) [] X.env.qual none .none (some X.env)) (fun U s4 =>
   codeAny (model X.prog X.w) X.A (.compStart (.ListComp elt [⟨tg,iter,ifs,0⟩] scope pos) 0 (.ref it) acc { U with scope:=relabel scope X.env }) (RR acc U.locals) s4) E s3) E s:=by
 obtain⟨W,⟨m0,w0⟩,turn⟩:=h;show xJ (newEnvK ?_);dsimp only;generalize ab:s.heap.push { cls:=.type "list",dict:=none,data:=.seq ([]:List Value).toArray }=a;have Z:(pushCells (a.push { cls:=.type "dict",data:=.dict #[] }) scope.names).Ns a.objs.size fun _=>none:=(Heap.Ns.new a (.type "dict")).keeps (pushCells_keeps _ _);have F:=cellsFrom_ok scope.names (a.push { cls:=.type "dict",data:=.dict #[] }) (a.objs.size+1) [] ⟨fun _ _ hm=>(nomatch hm),List.Pairwise.nil⟩ (by rw[YZ];show yh _);rw[YZ] at F;have ac:∀ b o,a.get? b=some o->(pushCells (a.push { cls:=.type "dict",data:=.dict #[] }) scope.names).get? b=some o:=fun b o e=>pushCells_keeps _ _ b o (yt _ e);generalize pushCells (a.push { cls:=.type "dict",data:=.dict #[] }) scope.names=h1 at Z F ac ⊢;have hC:a.objs.size=s.heap.objs.size+1:=by rw[<- ab,YZ]
 have au:s.heap.objs.size≠a.objs.size:=by rw[hC];show yy (YN _)
 have Y:s.heap.objs.size<=a.objs.size:=by rw[hC];show Xs _
 have f:∀ b,b<s.heap.objs.size->b≠a.objs.size/\b≠s.heap.objs.size:=fun b hb=>⟨by rw[hC];show yy (Xg hb),yy hb⟩;have ad:∀ b o,s.heap.get? b=some o->h1.get? b=some o:=fun b o e=>ac b o (ab ▸ yt _ e);have ag:h1.get? s.heap.objs.size=some { cls:=.type "list",data:=.seq ([]:List Value).toArray }:=ac _ _ (ab ▸ yJ _ rfl)
 have B:∀ b∈fp,b<s.heap.objs.size:=fun b hb=>by
  obtain⟨o,ho,_⟩:=T.obj 0 _ st b hb;show yD ho
 have aa:∀ s3:Shared,s3={ s with heap:=h1 } ->
   codeAny (model X.prog X.w) X.A (.compLoop (.ListComp elt [⟨tg,iter,ifs,0⟩] scope pos) 0 (.ref it) (.ref s.heap.objs.size) (compEnvC scope (cellsFrom (a.objs.size+1) scope.names (qC X.env scope.names [])) a.objs.size X.env)) (RR (.ref s.heap.objs.size) a.objs.size) s3:=by
  rintro s3 rfl;have I0:=I.comp (N:=N) (C:=a.objs.size) (D:=s.heap.objs.size) (h1:=h1) (tk:=s.toks) O hN ai hf B Y (yh _) au Z ad ag (fun v z=>by cases z) F
  have t:∀{H':Hp} {R:St} {l:Shared} {pl:List (Addr×Obj)},Inv (X.comp N scope a.objs.size s H fp) pl R H' l->(∀ p∈pl,p.1=s.heap.objs.size)->(∀ b∈fp,H' b=none)->∀ b∈fp,qbY (X.comp N scope a.objs.size s H fp) pl H' b:=fun{H' R l pl} J ax hn b hb =>
   ⟨hn b hb,(f b (B b hb)).1,fun z=>(by
     rcases yE.mp (I.stkSub b z) with e | e
     .show(hf b hb).2.1 e
     .show(hf b hb).2.2.1 e),.inl hb,J.ok.exf b hb |>.2,fun p L z=>by
    have e:=ax p (by simpa using L);rw[e] at z;show(f b (B b hb)).2 z.symm⟩
  show compLoop_own (fun k l=>∃ i H' ys its n,Inv (X.comp N scope a.objs.size s H fp) [(s.heap.objs.size,{ cls:=.type "list",data:=.seq its.toArray n })] (qcN nl ixs σ) H' l/\tn i l.heap/\(∀ b∈fp,H' b=none)/\Vals ys its/\W i k ys H') ?_ m0
   ⟨0,H,[],[],0,I0,T.keep _ _ _ st fun b _ o e=>ad b o e,fun b hb=>(hf b hb).1,.nil,w0⟩
  rintro k l ⟨i,H',ys,its,n,J1,am,af,v1,w1⟩
  have one:∀ p∈[((s.heap.objs.size,{ cls:=.type "list",data:=.seq its.toArray n }):Addr×Obj)],p.1=s.heap.objs.size:=fun p L=>by
   have e:p=_:=yA.mp L;rw[e]
  rcases turn i k ys H' w1 with⟨an,hz,q⟩ | ⟨go,M,hM,step⟩
  .show thn (T.done (X.comp N scope a.objs.size s H fp) rfl rfl rfl hc i _ l _ H' _ J1 (t J1 one af) am an) fun r s4 ⟨hr,J4⟩=>?_;subst hr;show av _ _ s4 H' _ ys its n Y (yh _) J4 v1 hz q
  .show thn (T.item (X.comp N scope a.objs.size s H fp) rfl rfl rfl hc i _ l _ H' _ J1 (t J1 one af) am go) fun r s4 ⟨u,hr,h4⟩=>?_;subst hr;show thn h4 fun _ s5 ⟨x,H5,J5,r5,y5,ae,aq⟩=>?_;have ap:=J5.pinned (t J5 one aq) (T.obj _ _ ae);show thn (hg _ _ _ _ _ s5 _ H5 x u _ ap r5 (gk _ _ _ _ (step x H5 y5))) fun _ s6 ⟨S,H6,J6,q6,l6,k6⟩=>?_;show thn (hi _ _ _ _ _ s6 S H6 _ J6 q6) fun ok s7 ⟨H7,J7,q7⟩=>?_;have again:∀{P:Shared} {H8:Hp} {ys':List V} {k':Nat},Inv (X.comp N scope a.objs.size s H fp) ([((s.heap.objs.size,{ cls:=.type "list",data:=.seq its.toArray n }):Addr×Obj)]++qbs fp s5.heap) S H8 P ->
     (∀ b o,b≠s.heap.objs.size->P.heap.get? b=some o->P.heap.get? b=some o)->tn (i+1) P.heap/\∀ b∈fp,H8 b=none:=fun{P H8 ys' k'} J8 _=>by
    show⟨T.keep _ _ _ ae fun b hb o e=>(J8.pin (b,o) (yG _ (yG _ (zo hb e)))).1,fun b hb=>?_⟩;obtain⟨o,e,d⟩:=T.obj _ _ ae b hb;show(J8.pin (b,o) (yG _ (yG _ (zo hb e)))).2.1
   have wk:∀(j:Nat) v,(qcN nl ixs σ)[j]?=some (some v)->S[j]?=some (some v):=fun j v e=>by
    obtain⟨hj,_⟩:=qck e;rw[k6 j hj];show e
   cases ok with
   | false =>
    rw[yz Yh] at q7 ⊢;obtain⟨m',hm,w7⟩:=hM _ _ q7;obtain⟨az,ar⟩:=again (ys':=ys) (k':=0) J7 (fun _ _ _ e=>e);show⟨m',hm,i+1,H7,ys,its,n,J7.unpinned.weak l6.symm wk,az,ar,v1,w7⟩
   | true =>
    rw[yF rfl] at q7 ⊢;show thn (he _ _ _ _ _ s7 S H7 _ J7 q7) fun y P ⟨v,H8,J8,r8,bb,mq⟩=>?_;obtain⟨m',hm,w8⟩:=hM _ _ mq;obtain⟨ba,as⟩:=again (ys':=ys) (k':=0) J8 (fun _ _ _ e=>e);have J9:=J8.unpinned;obtain⟨pD,nD,al,ay,_⟩:=J9.pin (s.heap.objs.size,{ cls:=.type "list",data:=.seq its.toArray n }) (yG _ (yA.mpr rfl));show wpAny_list_append_plain (hsz:=by rw[yv,<- v1.length];lk) ⟨n,pD⟩ fun h9 G ak=>?_;obtain⟨n9,G⟩:=G;have e9:(its.toArray.push y)=(its++[y]).toArray:=by simp
    rw[e9] at G
    have Ja:Inv (X.comp N scope a.objs.size s H fp) [] (qcN nl ixs σ) H8 { P with heap:=h9,toks:=P.toks }:=
     ((J9.pins_of (pins':=[]) fun p L=>absurd L (by simp)).turned (it:=s.heap.objs.size) (h':=h9) (t':=P.toks) (fun b o hb e=>(ak.2 b hb).trans e) nD al (.inr (yh _))
      (fun x c e z=>by
       rcases qav e with w | e
       .have:=(F.empty _ _ w).2;rw[z,hC] at this;show absurd (yi (Xs _) this) (Nat.not_succ_le_self _)
       have:=j0 e;rcases this with⟨aw,hcc⟩ | hcc
       .obtain⟨c',ah⟩:=I.ok.has x (by
         rcases O.free _ aw rfl with q | q
         .show .inl q
         .show .inr q)
        rw[ah] at hcc;have aj:c=c':=hcc;obtain⟨_,q⟩:=I.cell x c' ah;rw[<- aj,z] at q;show absurd q.lt (Yk _)
       .cases hcc) (fun p L=>absurd L (by simp))).weak l6.symm wk
    show⟨m',hm,i+1,H8,ys++[v],its++[y],n9,Ja.pins_of fun p L=>?_,?_,as,v1.append (.cons r8 .nil),w8⟩
    .have e:p=_:=yA.mp L;subst e;show⟨G,nD,al,ay,fun v z=>by cases z⟩
    .show T.keep _ _ _ ba fun b hb o e=>(ak.2 b (f b (B b hb)).2).trans e
 show codeAny_compStart_list (aa _ rfl) (T.self _ 0 _ _ _ (T.keep _ _ _ st fun b _ o e=>ad b o e) (aa _ rfl))
end
section
variable{X:Cx}{tg elt iter:Expr}{ifs:List Expr}{scope:Scope}{pos:Pos}{N:LS}{nl:Nat}{ixs:LN}{wi:TI}{g:TG}{tc:TT}{te:TE}
theorem jV{XN:LS}(N:LS)(nl:Nat)(ixs:LN)(G:X.env.scope=sc)(y:X.N=XN)(hc:X.calm=true)(P:qdw sc scope=true)(W:N.length=nl+ixs.length)(d:qeQ nl ixs N XN scope.names=true)
  (hi:PI X tg iter wi) (hg:∀ C t i j,PG (X.comp N scope C t i j) tg g) (R:qc0 nl g) (ht:∀ C t i j,qeu (X.comp N scope C t i j) ifs tc) (Z:∀ C t i j,PE (X.comp N scope C t i j) elt te)
  (hs:∀ x,foldedSetIterable iter X.env x=pure x:=by intro _;rfl):PE X (.ListComp elt [⟨tg,iter,ifs,0⟩] scope pos) (qd9 wi g tc te nl ixs):=by
 intro pins s σ H Q I h;subst G y;have O:=qcj P;have r:=qcZ d;rw[eval_ListComp]
 have E:=zN (scope:=scope) (env:=X.env) fun n F=>I.ok.has n (by
  rcases O.free _ F rfl with z | z
  .show .inl z
  .show .inr z)
 show wpAny_comprehension_free (use:=none) rfl hs E O.kind O.loc (thn (hi pins s σ H _ I h) fun v s1 h1=>thn h1 fun aa s2 S=>?_);obtain⟨it,fp,tn,J,H2,e,f,T,L,M,Y⟩:=S;subst e;show qaU (Q:=Q) (RR:=fun acc C=>compPost (model X.prog X.w) X.A X.xe none (EP X pins σ Q) acc C) f hc O W r T L M hg R ht Z Y ?_;intro D C s' H' ab ys its n l U u hv hz q;obtain⟨m,F,_⟩:=id u.loc;have B:=f.compBack M l U u hv hz;obtain⟨_,nD,K,_,_⟩:=u.pin (D,{ cls:=.type "list",data:=.seq its.toArray n }) (yG _ (yA.mpr rfl));show⟨m,F,fun h' sb=>⟨.ref D,_,?_,rfl,q D nD⟩⟩;show B.turned (it:=C) (h':=h') (t':=s'.toks) (fun b o hb e=>(sb.2 b hb).trans e) ((qh (H:=H') (a:=D) (b:=C) (o:=.lst ys) (Yn K)).trans u.free) (yW (yj f.lt l)) (.inr (yi f.sz l)) (fun x c e z=>?_) (fun p hp z=>?_)
 .obtain⟨_,q⟩:=f.cell x c e;show absurd (yj q.lt (by rw[z];show l)) (Yk _)
 .show absurd (yj (yD (f.pin p hp).1) (by rw[z];show l)) (Yk _)
theorem qaw{i:Nat}{y:Str}{r f:Pos}{XN:LS}(N:LS)(nl:Nat)(ixs:LN)(Z:X.env.scope=sc)(E:X.N=XN)(hc:X.calm=true)(O':qdw sc scope=true)(hN:N.length=nl+ixs.length)(l:qeQ nl ixs N XN scope.names=true)
  (R:X.N.Nodup) (U:X.N[i]?=some y) (hy:X.env.scope.names.lookup y=some .local)
  (hi:PI X tg iter wi) (hg:∀ C K t u,PG (X.comp N scope C K t u) tg g) (gk:qc0 nl g) (ht:∀ C K t u,qeu (X.comp N scope C K t u) ifs tc) (he:∀ C K t u,PE (X.comp N scope C K t u) elt te)
  (aa:swapsWith (.ListComp elt [⟨tg,iter,ifs,0⟩] scope pos) (some (.Name y r)) f.line X.env=pure true:=by rfl)
  (hs:∀ x,foldedSetIterable iter X.env x=pure x:=by intro _;rfl):PS X (.Assign [.Name y r] (.ListComp elt [⟨tg,iter,ifs,0⟩] scope pos) f) (qef (qd9 wi g tc te nl ixs) (qaJ i)):=by
 intro pins s σ H M I h;subst Z E;have O:=qcj O';have F:=qcZ l
 have S:=zN (scope:=scope) (env:=X.env) fun n W=>I.ok.has n (by
  rcases O.free _ W rfl with z | z
  .show .inl z
  .show .inr z)
 rw[exec_Assign_Name_used _ _ _ _ aa];show yr (XW (yr ?_));show wpAny _ X.A (do let _ <- comprehension (.ListComp elt [⟨tg,iter,ifs,0⟩] scope pos) scope X.env _ (newList []) false (eval iter X.env) (some (assign (.Name y r) X.env))) _ _ s;show yr (Yz (wpAny_comprehension_free (use:=some (assign (.Name y r) X.env)) (Q:=fun _ G=>SP X pins M .next G) rfl hs S O.kind O.loc
  (thn (hi pins s σ H _ I h) fun v s1 h1=>thn h1 fun ae s2 h2=>?_)) (fun _ G hq=>yu (yu hq)) fun _ _ e=>e)
 obtain⟨it,fp,tn,J,H2,e,d,T,ad,f2,hW⟩:=h2;subst e;show qaU (Q:=fun v H'=>qaJ i v σ H' M.nx) (RR:=fun acc C=>compPost (model X.prog X.w) X.A X.xe (some (assign (.Name y r) X.env)) (fun _ G=>SP X pins M .next G) acc C) d hc O hN F T ad f2 hg gk ht he hW ?_;intro D C G H' af ys its n j hD L hv hz q;obtain⟨m,W,_⟩:=id L.loc;have B:=d.compBack f2 j hD L hv hz;obtain⟨_,nD,ab,_,_⟩:=L.pin (D,{ cls:=.type "list",data:=.seq its.toArray n }) (yG _ (yA.mpr rfl));show wpAny _ X.A (assign (.Name y r) X.env (.ref D)) _ _ _;show wpAny_assign_Name (qbp (i:=i) (x:=y) (v:=.ref D) B R U (.inl hy) rfl (fun ac B' Y=>?_) (.inr hy));obtain⟨a,sa,ha⟩:=Y
 have P:C≠a:=by
  rintro rfl;rcases ha with z | z
  .show absurd (show X.env.locals<C from yj d.lt j) (by rw[z];show Yk _)
  .obtain⟨_,q⟩:=d.cell y C z;show absurd (yj q.lt j) (Yk _)
 show⟨m,W.sameBut sa P,fun h' sb=>⟨_,_,?_,q D nD⟩⟩;show B'.turned (it:=C) (h':=h') (t':=ac.toks) (fun b o hb e=>(sb.2 b hb).trans e) ((qh (H:=H') (a:=D) (b:=C) (o:=.lst ys) (Yn ab)).trans L.free) (yW (yj d.lt j)) (.inr (yi d.sz j)) (fun x c e z=>?_) (fun p hp z=>?_)
 .obtain⟨_,q⟩:=d.cell x c e;show absurd (yj q.lt (by rw[z];show j)) (Yk _)
 .show absurd (yj (yD (d.pin p hp).1) (by rw[z];show j)) (Yk _)
end
noncomputable def Its(x:Str):It:=⟨fun i _=>i<x.cps.size,fun i H v H'=>H'=H/\∃ c,x.cps[i]?=some c/\v=.str ⟨#[c]⟩,fun i _=>i=x.cps.size⟩
theorem qcl{K:yg}{t:Tok}(W:∀ A:Around,A.handled=none->Walks P w A it [it] [it] x.cps.size (SignAt x) fun i h=>h.IsStrIter it T x t i)
  (J:∀(A:Around) (i:Nat) (s:Shared) (Q:Value->Shared->Prop) (E:Value->Shared->Prop),s.heap.IsStrIter it T x t i->Q (.ref it) s->wpAny (model P w) A (pyIter (.ref it)) Q E s)
  (B:∀ v,letOwnedTupleGo tg (.ref it) v=pure ()):Turn P w K tg (Its x) [it] it (fun i h=>h.IsStrIter it T x t i) where
 mem:=by simp
 obj:=fun i h st b hb=>by
  have e:b=it:=by simpa using hb
  subst e;obtain⟨o,e,c,d⟩:=st;show⟨o,e,fun v z=>by rw[d] at z;cases z⟩
 keep:=fun i h h' st k=>by
  obtain⟨o,e,r⟩:=st;show⟨o,k it (by simp) o e,r⟩
 item:=by
  intro X p hw n hc i pins s σ H E I a st y;subst p hw n;obtain⟨f,g,G,j,l,m⟩:=a it (by simp);show(W X.A (I.ok.hd hc)).item i s _ _ y st fun v h' tk hv D C=>?_;obtain⟨c,u,q,rfl⟩:=hv;have F:Inv X pins σ H { s with heap:=h',toks:=tk }:=I.turned (fun b o hb e=>C b o (by simpa using hb) e) f g j l m;show⟨_,rfl,YK (B _) ⟨.str ⟨#[c]⟩,H,F,⟨u,rfl⟩,⟨rfl,c,q,rfl⟩,D,fun b hb=>(a b hb).1⟩⟩
 done:=by
  intro X p hw n hc i pins s σ H E I a st y;subst p hw n;obtain⟨f,g,G,j,l,m⟩:=a it (by simp);have e:i=x.cps.size:=y;subst e;show(W X.A (I.ok.hd hc)).done s _ _ st fun h' tk C=>⟨rfl,I.turned (fun b o hb e=>C b o (by simpa using hb) e) f g j l m⟩
 self:=J
section
variable{X:Cx}{tg:Expr}
end
section
variable{K:yg}{a:Addr}{xs:List V}{g:TG}{tc:TT}{te:TE}{σ':St}{H1:Hp}{Q:V->Hp->Prop}
def qcJ(J:It)(g:TG)(tc:TT)(te:TE)(σ':St)(H1:Hp)(Q:V->Hp->Prop):Prop:=
 ∃ W:Nat->Nat->List V->Hp->Prop,(∃ m,W 0 m [] H1)/\∀ i m ys H,W i m ys H ->
   (J.stop i H/\ys.length<=sizeLine/\∀ p,H p=none->Q (.ref p) (upd H p (.lst ys))) \/
   (J.go i H/\∃ M:List V->Hp->Prop,(∀ ys' H',M ys' H'->∃ d,d<m/\W (i+1) d ys' H')/\∀ x H',J.yld i H x H'->g x σ' H' fun a e=>tc a e fun b c =>
    if b=true then te a c fun v f=>ys.length<sizeLine/\M (ys++[v]) f else M ys c)
theorem qX(c:Nat->List V->Hp->Prop)(n:c 0 [] H1)(hl:∀ i ys H,i<=xs.length->c i ys H->SqL K H a xs)
  (s:∀ i x ys H,xs[i]?=some x->c i ys H->g x σ' H fun f j=>tc f j fun b h=>if b=true then te f h fun v l=>ys.length<sizeLine/\c (i+1) (ys++[v]) l else c (i+1) ys h)
  (o:∀ ys H,c xs.length ys H->ys.length<=sizeLine/\∀ p,H p=none->Q (.ref p) (upd H p (.lst ys))):qcJ (Itl K a) g tc te σ' H1 Q:=by
 show⟨fun i m ys H=>m=xs.length-i/\i<=xs.length/\c i ys H,⟨xs.length,by simp,Yi _,n⟩,?_⟩;rintro i m ys H ⟨rfl,r,p⟩;have q:=hl i ys H r p;by_cases d:i<xs.length
 .show .inr ⟨⟨xs,xs[i],q,by simp[d]⟩,c (i+1),fun ys' H' t=>⟨xs.length-(i+1),by lk,rfl,d,t⟩,fun x H' y=>?_⟩;obtain⟨e,y⟩:=y;subst e;show s i x ys _ (y xs q) p
 .have e:i=xs.length:=by lk
  subst e;show .inl ⟨⟨xs,q,yh _⟩,o ys H p⟩
theorem qaV{lo:Int}(a:Nat->List V->Hp->Prop)(l:a 0 [] H1)
  (q:∀ i ys H,i<n->a i ys H->g (.int (lo+i)) σ' H fun d h=>tc d h fun b f=>if b=true then te d f fun v j=>ys.length<sizeLine/\a (i+1) (ys++[v]) j else a (i+1) ys f)
  (o:∀ ys H,a n ys H->ys.length<=sizeLine/\∀ p,H p=none->Q (.ref p) (upd H p (.lst ys))):qcJ (Itr lo n) g tc te σ' H1 Q:=by
 show⟨fun i m ys H=>m=n-i/\i<=n/\a i ys H,⟨n,by simp,Yi _,l⟩,?_⟩;rintro i m ys H ⟨rfl,s,p⟩;by_cases c:i<n
 .show .inr ⟨c,a (i+1),fun ys' H' r=>⟨n-(i+1),by lk,rfl,c,r⟩,fun x H' y=>?_⟩;obtain⟨e,y⟩:=y;subst e y;show q i ys _ c p
 .have e:i=n:=by lk
  subst e;show .inl ⟨yh _,o ys H p⟩
theorem comp_str(a:Nat->List V->Hp->Prop)(n:a 0 [] H1)
  (q:∀ i c ys H,x.cps[i]?=some c->a i ys H->g (.str ⟨#[c]⟩) σ' H fun f j=>tc f j fun b h=>if b=true then te f h fun v l=>ys.length<sizeLine/\a (i+1) (ys++[v]) l else a (i+1) ys h)
  (o:∀ ys H,a x.cps.size ys H->ys.length<=sizeLine/\∀ p,H p=none->Q (.ref p) (upd H p (.lst ys))):qcJ (Its x) g tc te σ' H1 Q:=by
 show⟨fun i m ys H=>m=x.cps.size-i/\i<=x.cps.size/\a i ys H,⟨x.cps.size,by simp,Yi _,n⟩,?_⟩;rintro i m ys H ⟨rfl,s,p⟩;by_cases d:i<x.cps.size
 .show .inr ⟨d,a (i+1),fun ys' H' r=>⟨x.cps.size-(i+1),by lk,rfl,d,r⟩,fun v H' y=>?_⟩;obtain⟨e,c,hc,y⟩:=y;subst e y;show q i c ys _ hc p
 .have e:i=x.cps.size:=by lk
  subst e;show .inl ⟨rfl,o ys H p⟩
end
noncomputable def qbF:V->Option Value
 | .ty n=>some (.type n)
 | .ref a=>some (.ref a)
 | _=>none
theorem qaW{c:Value}(h:qbF y=some c)(r:RelV y u):u=c:=by
 cases y with
 | ty n=>cases h;show r
 | ref a=>cases h;show r
 | _=>cases h
section
variable{X:Cx}{pins:List (Addr×Obj)}{σ:St}{H:Hp}{s:Shared}
theorem TyOf.kit{x:V}(I:Inv X pins σ H s)(b:RelV x u)(ty:TyOf X.K H x t):∃ P:Heap->Prop,PySem.W.KitX X.K u t P/\P s.heap/\u≠.builtin "__main__.__loader__#opaque":=by
 cases ty with
 | non=>cases (show u=Value.none from b);show⟨_,PySem.W.kitx_none,YH,(fun z=>nomatch z)⟩
 | bl y=>cases (show u=Value.bool y from b);show⟨_,PySem.W.kitx_bool,YH,(fun z=>nomatch z)⟩
 | int i=>obtain⟨t,q⟩:=(show ∃ t,u=Value.int i t from b);cases q;show⟨_,PySem.W.kitx_int,YH,(fun z=>nomatch z)⟩
 | str y=>obtain⟨t,q⟩:=(show ∃ t,u=Value.str y t from b);cases q;show⟨_,PySem.W.kitx_str,YH,(fun z=>nomatch z)⟩
 | flt y=>obtain⟨t,q⟩:=(show ∃ t,u=Value.float y t from b);cases q;show⟨_,PySem.W.kitx_float,YH,(fun z=>nomatch z)⟩
 | @lst a xs ea =>
  cases (show u=Value.ref a from b);obtain⟨_,_,n,_,h1⟩:=(show ObjOk X.prog X.w H s.heap a (.lst xs) from I.hok a _ ea);show⟨_,PySem.W.kitx_list,⟨_,h1,rfl⟩,(fun z=>nomatch z)⟩
 | @frz a ob xs ea =>
  cases (show u=Value.ref a from b);obtain⟨_,_,_,n,_,h1⟩:=(show ObjOk X.prog X.w H s.heap a (.frz ob (.lst xs)) from I.hok a _ ea);show⟨_,PySem.W.kitx_list,⟨_,h1,rfl⟩,(fun z=>nomatch z)⟩
 | @tup a xs ea =>
  cases (show u=Value.ref a from b);obtain⟨_,_,_,p⟩:=(show ObjOk X.prog X.w H s.heap a (.tup xs) from I.hok a _ ea);obtain⟨o,h1,c,_⟩:=p;show⟨_,PySem.W.kitx_tuple,⟨o,h1,c⟩,(fun z=>nomatch z)⟩
 | @dK a kvs ea =>
  cases (show u=Value.ref a from b);obtain⟨_,_,vs,_,p⟩:=(show ObjOk X.prog X.w H s.heap a (.dK kvs) from I.hok a _ ea);obtain⟨o,d,ep,h1,c,_⟩:=p;show⟨_,PySem.W.kitx_dict,⟨o,h1,c.1⟩,(fun z=>nomatch z)⟩
 | @dT a kvs ea =>
  cases (show u=Value.ref a from b);obtain⟨_,_,xs,_,o,d,ep,h1,c,_⟩:=(show ObjOk X.prog X.w H s.heap a (.dT kvs) from I.hok a _ ea);show⟨_,PySem.W.kitx_dict,⟨o,h1,c.1⟩,(fun z=>nomatch z)⟩
 | @ins a C dx fs ea cl ha hn htk hm =>
  cases (show u=Value.ref a from b);obtain⟨e,O,_⟩:=zZ I.hok ea;obtain⟨od,J,_⟩:=O.look;show⟨_,PySem.W.kitx_own (cl.get _) cl.hd ha hn htk hm,J,(fun z=>nomatch z)⟩
end
section
variable{X:Cx}
theorem qax:∀{ys:List V} {a us:List Value},ys.map qbF=a.map some->Vals ys us->us=a
 | [],[],_,_,.nil=>rfl
 | [],_::_,_,h,_=>by cases h
 | y::ys,[],_,h,_=>by cases h
 | y::ys,c::a,_,h,.cons r t=>by
  rw[yV,yV] at h
  injection h with h1 h2
  rw[qaW h1 r,qax h2 t]
theorem qcm:∀{bs:List Bool} {us:List Value},Vals (bs.map V.bl) us->us=bs.map Value.bool
 | [],_,.nil=>rfl
 | b::bs,_,.cons r t=>by
  have e:=qcm t;rw[e];cases r;rfl
def qfa(K:yg):List V->Hp->VK->Prop:=fun xs H Q=>∃(p:Addr) (bs:List Bool),xs=[.ref p]/\SqL K H p (bs.map V.bl)/\Q (.bl (bs.all id)) H
theorem call_all(hc:X.calm=true):zA X (.builtin "all") (qfa X.K):=by
 intro pins s σ H xs us Q I r h;obtain⟨p,bs,rfl,t,q⟩:=h;obtain⟨u,rfl,x⟩:=qap r;cases x;obtain⟨its,y,pl,hz⟩:=I.list t;have e:=qcm y;subst e;have l:X.A.in1.handled=none:=I.ok.hd hc;show call_all_walk (XV pl.isList ?_)
 have f:p≠s.heap.objs.size:=by
  obtain⟨o,n,_⟩:=pl.isList;show yy (yD n)
 show⟨s.heap.objs.size,_,_,_,_,_,fun i=>(bs[i]?).getD false,rfl,Walks.list l s.heap.objs.size p f (bs.map Value.bool).toArray,⟨⟨_,yJ _ rfl,rfl,rfl⟩,pl.isList.at fun o e=>yt _ e⟩,fun i v s Q E hv w=>?_,fun h' tk m=>?_⟩
 .have a:(bs.map Value.bool)[i]?=some v:=by simpa using hv
  rw[yd] at a
  cases e:bs[i]? with
  | none=>rw[e] at a;cases a
  | some b =>
   rw[e] at a;cases a;have c:Q ((bs[i]?).getD false) s:=w;rw[e] at c;show yu c
 .have e:((List.range (bs.map Value.bool).toArray.size).all fun i=>(bs[i]?).getD false)=bs.all id:=by
   rw[yv,ya]
   have g:∀ bs:List Bool,((List.range bs.length).all fun i=>(bs[i]?).getD false)=bs.all id:=by
    intro bs
    induction bs with
    | nil=>rfl
    | cons b r ih =>
     rw[yM,List.range_succ_eq_map,XY,List.all_map,XY,<- ih];rfl
   show g bs
  rw[e];show⟨.bl _,H,?_,rfl,q⟩;have j:Inv X pins σ H { s with heap:=s.heap.push { cls:=.type "list_iterator",data:=.fields #[.ref p,.int 0 0] } }:=I.kept (t':=s.toks) fun b o e=>yt _ e;have d:=I.fpOk (b:=s.heap.objs.size) (yh _) (I.hok.fresh (yh _));show j.turned (it:=s.heap.objs.size) (h':=h') (t':=tk) (fun b o hb e=>m b o (by simpa using hb) e) d.1 d.2.1 d.2.2.2.1 d.2.2.2.2.1 d.2.2.2.2.2
theorem op_le_str:OpR X (compareOp .LtE) (fun x y H Q=>∃ i j,x=.str i/\y=.str j/\Q (.bl (!decide (j.cps.toList<i.cps.toList))) H):=by
 intro pins s σ H x y v u Q I a b h;obtain⟨i,j,rfl,rfl,q⟩:=h;obtain⟨t,rfl⟩:=a;obtain⟨t',rfl⟩:=b;show PySem.P.le_str (fin_bl I q (by rfl))
def qeS:R2:=fun x y H Q=>match x,y with
 | .int i,.int j=>Q (.bl (decide (i<=j))) H
 | .str i,.str j=>Q (.bl (!decide (j.cps.toList<i.cps.toList))) H
 | _,_=>False
theorem qeK:OpR X (compareOp .LtE) qeS:=by
 intro pins s σ H x y v u Q I a b h
 cases x with
 | int i=>cases y with
  | int j=>show op_le pins s σ H _ _ v u Q I a b ⟨i,j,rfl,rfl,h⟩
  | _=>show False.elim h
 | str i=>cases y with
  | str j=>show op_le_str pins s σ H _ _ v u Q I a b ⟨i,j,rfl,rfl,h⟩
  | _=>show False.elim h
 | _=>show False.elim h
def rIsU:R2:=fun x y H Q=>match x,y with
 | .bl i,.bl j=>Q (.bl (i==j)) H
 | x,.non=>Q (.bl (decide (x=.non))) H
 | _,_=>False
theorem op_rep_str:OpR X (binaryOp .Mult) (fun x y H Q=>∃ z k,x=.str z/\y=.int k/\MulOk z k/\Q (.str (Txt.mul z k)) H):=by
 intro pins s σ H x y v u Q I b c h;obtain⟨z,k,rfl,rfl,a,q⟩:=h;obtain⟨t,rfl⟩:=b;obtain⟨t',rfl⟩:=c;show SB.mul a fun t' k'=>⟨.str _,H,I.tok _,⟨_,rfl⟩,q⟩
def qev:R2:=fun x y H Q=>match x,y with
 | .int i,.int j=>CMul i j/\Q (.int (i*j)) H
 | .str z,.int k=>MulOk z k/\Q (.str (Txt.mul z k)) H
 | .ref a,.int k=>rRep (.ref a) (.int k) H Q
 | _,_=>False
theorem qb1:OpR X (binaryOp .Mult) qev:=by
 intro pins s σ H x y v u Q I b c h
 cases y with
 | int j=>cases x with
  | int i=>show op_mul pins s σ H _ _ v u Q I b c ⟨i,j,rfl,rfl,h.1,h.2⟩
  | str i=>show op_rep_str pins s σ H _ _ v u Q I b c ⟨i,j,rfl,rfl,h.1,h.2⟩
  | ref a=>show qdK pins s σ H _ _ v u Q I b c h
  | _=>show False.elim h
 | _=>cases x<;>show False.elim h
def qc1(K:yg):R2:=fun x y H Q=>match x,y with
 | .int i,.int j=>Q (.int (i+j)) H
 | .str i,.str j=>i.length+j.length<=sizeLine/\Q (.str (i++j)) H
 | .ref a,.ref b=>rCat (.ref a) (.ref b) H Q\/rCatT K (.ref a) (.ref b) H Q
 | _,_=>False
theorem u_add:OpR X (binaryOp .Add) (qc1 X.K):=by
 intro pins s σ H x y v u Q I c d h
 cases x with
 | int i=>cases y with
  | int j=>show op_add pins s σ H _ _ v u Q I c d ⟨i,j,rfl,rfl,h⟩
  | _=>show False.elim h
 | str i=>cases y with
  | str j=>show op_add_str pins s σ H _ _ v u Q I c d ⟨i,j,rfl,rfl,h.1,h.2⟩
  | _=>show False.elim h
 | ref a=>cases y with
  | ref b=>show h.elim (fun h=>op_cat pins s σ H _ _ v u Q I c d h) fun h=>op_catT pins s σ H _ _ v u Q I c d h
  | _=>show False.elim h
 | _=>show False.elim h
def qcK(K:yg):List V->Hp->VK->Prop:=fun xs H Q=>match xs with
 | [.str z]=>z.length<=sizeLine/\Q (.int z.length) H
 | [.ref p]=>(∃ ys,(SqL K H p ys\/SqT K H p ys)/\Q (.int ys.length) H)\/∃ kvs,H p=some (.dK kvs)/\Q (.int kvs.length) H
 | _=>False
theorem call_lenU:zA X (.builtin "len") (qcK X.K):=by
 intro pins s σ H xs us Q I r h
 match xs,h with
 | [.str z],h=>show call_len_str pins s σ H _ us Q I r ⟨z,rfl,h.1,h.2⟩
 | [.ref p],.inl ⟨ys,h,q⟩=>show call_len_seq pins s σ H _ us Q I r ⟨p,ys,rfl,h,q⟩
 | [.ref p],.inr ⟨kvs,h,q⟩=>show call_lenD pins s σ H _ us Q I r ⟨p,kvs,rfl,h,q⟩
theorem sl_str:SlR X (fun x lo b H Q=>∃ z,x=.str z/\z.length<=sizeLine/\Q (.str (Txt.slice z lo b)) H):=by
 intro pins s σ H x v f g lo b e Q I d a pl c h;obtain⟨z,rfl,hz,q⟩:=h;obtain⟨t,rfl⟩:=d;show⟨"str",_,F.slot_str_getitem.lookup,typeIs_str _ _ _,?_⟩
 cases pl with
 | none =>
  cases c with
  | none=>show xu (l:=none) (u:=none) (st:=none) a rfl (Xy ⟨yi (X7 z _ _) hz,fun t' k=>⟨.str _,H,I.tok _,⟨_,rfl⟩,q⟩⟩)
  | int j uj=>show xu (l:=none) (u:=some (j,uj)) (st:=none) a rfl (Xy ⟨yi (X7 z _ _) hz,fun t' k=>⟨.str _,H,I.tok _,⟨_,rfl⟩,q⟩⟩)
 | int i ui =>
  cases c with
  | none=>show xu (l:=some (i,ui)) (u:=none) (st:=none) a rfl (Xy ⟨yi (X7 z _ _) hz,fun t' k=>⟨.str _,H,I.tok _,⟨_,rfl⟩,q⟩⟩)
  | int j uj=>show xu (l:=some (i,ui)) (u:=some (j,uj)) (st:=none) a rfl (Xy ⟨yi (X7 z _ _) hz,fun t' k=>⟨.str _,H,I.tok _,⟨_,rfl⟩,q⟩⟩)
def qeT(K:yg):V->Option Int->Option Int->Hp->VK->Prop:=fun x lo b H Q=>match x with
 | .str z=>z.length<=sizeLine/\Q (.str (Txt.slice z lo b)) H
 | .ref a=>rSlL K (.ref a) lo b H Q\/rSlT K (.ref a) lo b H Q
 | _=>False
theorem u_sl:SlR X (qeT X.K):=by
 intro pins s σ H x v g i lo b f Q I e c pl d h
 cases x with
 | str z=>show sl_str pins s σ H _ v g i lo b f Q I e c pl d ⟨z,rfl,h.1,h.2⟩
 | ref a=>show h.elim (fun h=>sl_list pins s σ H _ v g i lo b f Q I e c pl d h) fun h=>sl_tup pins s σ H _ v g i lo b f Q I e c pl d h
 | _=>show False.elim h
theorem qc2:∀{ys:LS} {us:List Value},Vals (ys.map V.str) us->StrsAre us ys
 | [],_,.nil=>.nil
 | y::ys,_,.cons r t=>by
  obtain⟨tk,rfl⟩:=r;show .cons y tk (qc2 t)
def qew(K:yg):V->List V->Hp->VK->Prop:=fun x vs H Q=>∃(z:Str) (p:Addr) (ys:LS),x=.str z/\vs=[.ref p]/\SqL K H p (ys.map V.str)/\(ys.map (·.length)).sum+ys.length*z.length<=16777216/\Q (.str (Txt.join z ys)) H
theorem mt_join:MtR X "str.join" (qew X.K):=by
 intro pins s σ H x vs v us Q I d c h;obtain⟨z,p,ys,rfl,rfl,a,hz,q⟩:=h;obtain⟨t,rfl⟩:=d;obtain⟨u,rfl,b⟩:=c.one;cases b;obtain⟨its,r,pl,_⟩:=I.list a;show join_list pl.isList (by simpa using qc2 r) hz fun t' k=>⟨.str _,H,I.tok _,⟨_,rfl⟩,q⟩
def qeU(K:yg)(te:TE):TI:=fun σ H R=>te σ H fun v b=>match v with
 | .str x=>R (Its x) b
 | .ref a=>((∃ xs,SqL K b a xs)/\R (Itl K a) b)\/((∃ xs,SqT K b a xs)/\R (Itt K a) b)
 | _=>False
theorem pi_any{e:Expr}(u:PE X e te)(g:∀ it v,letOwnedTupleGo tg it v=pure ():=by intro _ _;rfl):PI X tg e (qeU X.K te):=by
 intro pins s σ H R I h;show thn (u pins s σ H _ I h) fun v c ⟨y,f,d,r,j⟩=>?_
 cases y with
 | str x =>
  obtain⟨t,rfl⟩:=r
  have fp:∀ b∈[c.heap.objs.size],qbY X pins f b:=fun b hb=>by
   have e:b=c.heap.objs.size:=by simpa using hb
   subst e;show d.fpOk (yh _) (d.hok.fresh (yh _))
  cases n:x.cps.all (· < 128)
  .show wpAny_pyIter_wide n ⟨c.heap.objs.size,[c.heap.objs.size],_,_,f,rfl,d.kept (t':=c.toks) fun b o e=>yt _ e,
    qcl (T:="str_iterator") (fun A l=>Walks.strWide l _ x t) (fun A i s Q E st h=>wpAny_pyIter_striter_wide st h) (g _),⟨_,yJ _ rfl,rfl,rfl⟩,fp,j⟩
  .show wpAny_pyIter_ascii n ⟨c.heap.objs.size,[c.heap.objs.size],_,_,f,rfl,d.kept (t':=c.toks) fun b o e=>yt _ e,
    qcl (T:="str_ascii_iterator") (fun A l=>Walks.strAscii l _ x t) (fun A i s Q E st h=>wpAny_pyIter_striter_ascii st h) (g _),⟨_,yJ _ rfl,rfl,rfl⟩,fp,j⟩
 | ref a =>
  cases r
  have fp:∀ b∈[c.heap.objs.size],qbY X pins f b:=fun b hb=>by
   have e:b=c.heap.objs.size:=by simpa using hb
   subst e;show d.fpOk (yh _) (d.hok.fresh (yh _))
  rcases j with⟨⟨xs,m⟩,q⟩ | ⟨⟨xs,m⟩,q⟩
  .obtain⟨its,w,p,hz⟩:=d.list m;show XV p.isList ⟨c.heap.objs.size,[c.heap.objs.size],_,_,f,rfl,d.kept (t':=c.toks) fun b o e=>yt _ e,qbr a _,⟨_,yJ _ rfl,rfl,rfl⟩,fp,q⟩
  .obtain⟨its,w,p,hz⟩:=d.tuple m;show wpAny_pyIter_tuple (show c.heap.IsTuple a its.toArray from p) ⟨c.heap.objs.size,[c.heap.objs.size],_,_,f,rfl,d.kept (t':=c.toks) fun b o e=>yt _ e,qaO a _,⟨_,yJ _ rfl,rfl,rfl⟩,fp,q⟩
 | _=>show False.elim j
end
section
variable{D:Ends}{σ:St}{H:Hp}{Q:VK}{QT:Bool->Hp->Prop}{QA:List V->Hp->Prop}{t u:TS}{te ta tb tc:TE}{c c':TT}{tr tas:TA}{r r':R2}{K:yg}
theorem vSeq(h:t { D with nx:=u D } σ H):qe0 t u D σ H:=h
theorem vAsg{i:Nat}(h:te σ H fun x a=>D.nx (σ.set i (some x)) a):qef te (qaJ i) D σ H:=h
theorem vAsgS{b a:TE}{s:qen}(h:te σ H fun x c=>b σ c fun o d=>a σ d fun i e=>s o i x e fun f=>D.nx σ f):qef te (qe4 b a s) D σ H:=h
theorem vIfS(h:c σ H fun b a=>if b=true then t D σ a else u D σ a):qe2 c t u D σ H:=h
theorem vRet(h:te σ H D.rt):qe1 te D σ H:=h
theorem vRetN(h:D.rt .non H):tRetN D σ H:=h
theorem vDrop(h:te σ H fun _ a=>D.nx σ a):qem te D σ H:=h
theorem vNext(h:D.nx σ H):qel D σ H:=h
theorem vC(h:Q v H):tC v σ H Q:=h
theorem vVar{i:Nat}(e:σ[i]?=some (some v))(h:Q v H):qej i σ H Q:=⟨v,e,h⟩
theorem vOp(h:ta σ H fun x a=>tb σ a fun y b=>r x y b Q):tOp r ta tb σ H Q:=h
theorem vUn{f:V->Hp->VK->Prop}(h:ta σ H fun x a=>f x a Q):tUn f ta σ H Q:=h
theorem vChain(h:ta σ H fun x b=>tb σ b fun y c=>r x y c fun z a=>∃ k,z=.bl k/\if k=true then tc σ a fun e d=>r' y e d Q else Q (.bl false) a):qcR r r' ta tb tc σ H Q:=h
theorem vNil(h:QA [] H):qeq σ H QA:=h
theorem vCons(h:ta σ H fun x a=>tr σ a fun xs b=>QA (x::xs) b):qdu ta tr σ H QA:=h
theorem vCB{f:List V->Hp->VK->Prop}(h:tas σ H fun vs a=>f vs a Q):tCB f tas σ H Q:=h
theorem vCall{sp:Sp}{E:XK}(h:tas σ H fun vs a=>sp (vs++[]) a Q E):qdv sp [] E tas σ H Q:=h
theorem vLst(h:tas σ H fun xs a=>NewL xs a Q):qe9 tas σ H Q:=h
theorem vTup(h:tas σ H fun xs a=>NewT xs a Q):qe8 tas σ H Q:=h
theorem vTest(h:te σ H fun x H'=>∃ k,x=.bl k/\QT k H'):qd4 te σ H QT:=h
theorem vB(h:te σ H fun x H'=>∃ k,x=.bl k/\QT k H'):tB te σ H QT:=h
theorem vNot(h:c σ H fun b a=>QT (!b) a):qeZ c σ H QT:=h
theorem vAnd(h:c σ H fun b a=>if b=true then c' σ a QT else QT false a):qeY c c' σ H QT:=h
theorem vOr(h:c σ H fun b a=>if b=true then QT true a else c' σ a QT):tOr c c' σ H QT:=h
theorem vAndV(h:ta σ H fun x a=>∃ k,x=.bl k/\if k=true then tb σ a Q else Q (.bl false) a):qek ta tb σ H Q:=h
theorem vOrV(h:ta σ H fun x a=>∃ k,x=.bl k/\if k=true then Q (.bl true) a else tb σ a Q):tOrV ta tb σ H Q:=h
theorem vNotV(h:ta σ H fun x a=>∃ k,x=.bl k/\Q (.bl (!k)) a):tNotV ta σ H Q:=h
theorem vIf(h:c σ H fun b a=>if b=true then ta σ a Q else tb σ a Q):tIf c ta tb σ H Q:=h
theorem vYes(h:QT true H):qeR σ H QT:=h
theorem vI0{g:Int->Int->V}(h:Q (g i j) H):rI0 g (.int i) (.int j) H Q:=⟨i,j,rfl,rfl,h⟩
theorem vI{C:Int->Int->Prop}{g:Int->Int->V}(hc:C i j)(h:Q (g i j) H):rI C g (.int i) (.int j) H Q:=⟨i,j,rfl,rfl,hc,h⟩
theorem vEqI(h:Q (.bl (decide (i=j))) H):rEq (.int i) (.int j) H Q:=⟨rfl,by
 have e:decide (V.int i=V.int j)=decide (i=j):=by
  by_cases h:i=j
  .subst h;simp
  .rw [yl h,yl (fun e=>h (V.int.inj e))]
 rw[e];show h⟩
theorem vEqB{i j:Bool}(h:Q (.bl (i==j)) H):rEq (.bl i) (.bl j) H Q:=⟨rfl,by rw[dec_bl];show h⟩
theorem za(b:H p=some (.lst xs))(a:atI xs i=some v)(h:Q v H):rIx K (.ref p) (.int i) H Q:=.inl ⟨p,xs,i,v,rfl,rfl,SqL.of b,a,h⟩
theorem vIxLs(b:SqL K H p xs)(a:atI xs i=some v)(h:Q v H):rIx K (.ref p) (.int i) H Q:=.inl ⟨p,xs,i,v,rfl,rfl,b,a,h⟩
theorem qaX(b:H p=some (.tup xs))(a:atI xs i=some v)(h:Q v H):rIx K (.ref p) (.int i) H Q:=.inr (.inl ⟨p,xs,i,v,rfl,rfl,SqT.of b,a,h⟩)
theorem qeV{ch:Nat}(hz:z.length<=sizeLine)(a:atI z.cps.toList i=some ch)(h:Q (.str ⟨#[ch]⟩) H):rIx K (.str z) (.int i) H Q:=.inr (.inr ⟨z,i,ch,rfl,rfl,hz,a,h⟩)
theorem qdy{k:Int}{j:Nat}{a:Hp->Prop}(c:H p=some (.lst xs))(b:ixN xs.length k=some j)(h:a (upd H p (.lst (xs.set j v)))):rSetL (.ref p) (.int k) v H a:=⟨p,xs,k,j,rfl,rfl,c,b,h⟩
theorem vEx{k:Bool}{P:Bool->Prop}(h:P k):∃ k',V.bl k=.bl k'/\P k':=⟨k,rfl,h⟩
theorem vLeI(h:Q (.bl (decide (i<=j))) H):qeS (.int i) (.int j) H Q:=h
theorem vLeS{i j:Str}(h:Q (.bl (!decide (j.cps.toList<i.cps.toList))) H):qeS (.str i) (.str j) H Q:=h
theorem vIsB{i j:Bool}(h:Q (.bl (i==j)) H):rIsU (.bl i) (.bl j) H Q:=h
theorem vAddI(h:Q (.int (i+j)) H):qc1 K (.int i) (.int j) H Q:=h
theorem qea{i j:Str}(hz:i.length+j.length<=sizeLine)(h:Q (.str (i++j)) H):qc1 K (.str i) (.str j) H Q:=⟨hz,h⟩
theorem qb2(hc:CMul i j)(h:Q (.int (i*j)) H):qev (.int i) (.int j) H Q:=⟨hc,h⟩
theorem qex(hz:z.length<=sizeLine)(h:Q (.int z.length) H):qcK K [.str z] H Q:=⟨hz,h⟩
theorem qaa(a:H p=some (.lst ys))(h:Q (.int ys.length) H):qcK K [.ref p] H Q:=.inl ⟨ys,.inl (SqL.of a),h⟩
theorem vLenLs(a:SqL K H p ys)(h:Q (.int ys.length) H):qcK K [.ref p] H Q:=.inl ⟨ys,.inl a,h⟩
theorem vLenT(a:H p=some (.tup ys))(h:Q (.int ys.length) H):qcK K [.ref p] H Q:=.inl ⟨ys,.inr (SqT.of a),h⟩
theorem qeW{lo a:Option Int}(hz:z.length<=sizeLine)(h:Q (.str (Txt.slice z lo a)) H):qeT K (.str z) lo a H Q:=⟨hz,h⟩
theorem vSl{f:V->Option Int->Option Int->Hp->VK->Prop}{tl a:TO}(h:te σ H fun x b=>tl σ b fun l c=>a σ c fun u d=>f x l u d Q):tSl f te tl a σ H Q:=h
theorem vNoPart(h:QO none H):qcV σ H QO:=h
theorem vPart(h:te σ H fun x a=>∃ i,x=.int i/\QO (some i) a):qes te σ H QO:=h
theorem vExI{P:Int->Prop}(h:P i):∃ j,V.int i=.int j/\P j:=⟨i,rfl,h⟩
theorem vBM(h:te σ H fun x a=>tyV K T x a/\tas σ a fun xs b=>f x xs b Q):tBM K T f te tas σ H Q:=h
theorem vBM0(h:te σ H fun x a=>tyV K T x a/\f x [] a Q):tBM0 K T f te σ H Q:=h
theorem vComp(h:wi σ H fun J a=>qcJ J g c te (qcN nl ixs σ) a Q):qd9 wi g c te nl ixs σ H Q:=h
theorem vFor (h:wi σ H fun J d=>∃ W:Nat->Nat->St->Hp->Prop,(∃ m,W 0 m σ d)/\∀ i m σ H,W i m σ H ->
 (J.stop i H/\D.nx σ H)\/(J.go i H/\∃ N:St->Hp->Prop,(∀ a H',N a H'->∃ c,c<m/\W (i+1) c a H')/\∀ x H',J.yld i H x H'->g x σ H' fun b e=>t { D with nx:=N,ct:=N,bk:=D.nx } b e)):qe6 wi g t D σ H:=h
theorem vRng1(h:tas σ H fun vs a=>∃ j:Int,vs=[.int j]/\-(2 ^ 62)<=j/\j<2 ^ 62/\R (Itr 0 j.toNat) a):qeo tas σ H R:=h
theorem vAny (h:te σ H fun v b=>match v with
 | .str x=>R (Its x) b
 | .ref a=>((∃ xs,SqL K b a xs)/\R (Itl K a) b)\/((∃ xs,SqT K b a xs)/\R (Itt K a) b)
 | _=>False):qeU K te σ H R:=h
theorem vGN{i:Nat}{a:St->Hp->Prop}(h:a (σ.set i (some v)) H):qaJ i v σ H a:=h
end
section
variable{X:Cx}{K:yg}{o e:Expr}{es:List Expr}{to ta:TE}{t:TA}{name f:Str}{apos cpos pos:Pos}{T id:String}{r:V->List V->Hp->VK->Prop}{tg:Expr}
theorem jW(a:X.K=K):zA X (.builtin "len") (qcK K):=by subst a;show call_lenU
theorem qeb(a:X.K=K)(hc:X.calm=true):zA X (.builtin "all") (qfa K):=by subst a;show call_all hc
theorem qdz(a:X.K=K):SlR X (qeT K):=by subst a;show u_sl
theorem jH(a:X.K=K):OpR X (binaryOp .Add) (qc1 K):=by subst a;show u_add
theorem qdM(a:X.K=K):MtR X "str.join" (qew K):=by subst a;show mt_join
theorem qP(b:X.K=K)(c:PE X e ta)(a:∀ it v,letOwnedTupleGo tg it v=pure ():=by intro _ _;rfl):PI X tg e (qeU K ta):=by subst b;show pi_any c a
theorem qc3(h:X.K=K)(n:PlainAttrs T)(f:Slot T name id)(g:typeOf (.builtin id)=pure (.type "method_descriptor"))(j:MtR X id r)(l:PE X o to)(i:PA X (e::es) t)
  (b:attributeBase o name X.env (eval o X.env)=eval o X.env:=by rfl)
  (d:((backTo cpos (starEach (e::es) X.env)).all (fun x=>!x.1)&&(backToKw cpos (keywordEach [] X.env)).all (fun x=>x.1.isSome)
   && decide ((e::es).length+([]:List Keyword).length+(if ([]:List Keyword).isEmpty then 0 else 1)<30))=true:=by rfl)
  (c:(apos.endLine==cpos.line)=true:=by rfl) (m:starEach (e::es) X.env=(false,eval e X.env)::starEach es X.env:=by rfl) (a:(backTo cpos (starEach es X.env)).any (·.1)=false:=by rfl) :
  PE X (.Call (.Attribute o name apos) (e::es) [] cpos) (tBM K T r to t):=by
 subst h;show pe_bm n f g j l i b d c m a
end
structure DefOk(P:Program)(w:World)(K:yg)(mg:Str->Option Value)(base:Heap)(CX:CXT)(k:Nat)(x:Str)(ps:LS)(sp:Sp):Prop where
 ex:∃ f fd,FnOk P w K mg base CX k f fd ps sp/\mg x=some (.ref f)/\PySem.W.keepIn K (.ref f)=true/\Binds K fd ps []
section
variable{X:Cx}{CX:CXT}{k:Nat}{ps:LS}{sp:Sp}{E:XK}{x:Str}{p pos:Pos}{e:Expr}{es:List Expr}{t:TA}
theorem qk(D:DefOk X.prog X.w X.K X.mg X.base CX k x ps sp)(j:Room k X.A)(l:qaf CX X E)(c:PA X (e::es) t)(g:Gl X x:=by rfl)(a:(x==("__debug__":Str))=false:=by decide)
  (d:starEach (e::es) X.env=(false,eval e X.env)::starEach es X.env:=by rfl) (b:(backTo pos (starEach es X.env)).any (·.1)=false:=by rfl):PE X (.Call (.Name x p) (e::es) [] pos) (qdv sp [] E t):=by
 obtain⟨f,m,F,i,h,hb⟩:=D.ex;show pe_call F j g i h hb .nil l c a d b
theorem qa8(c:Gl X x)(a:∃ tk,X.mg x=some (.int i tk))(b:(x==("__debug__":Str))=false:=by decide):PE X (.Name x pos) (tC (.int i)):=by
 obtain⟨tk,a⟩:=a;show pe_glob c a ⟨tk,rfl⟩ b
end
noncomputable def isaT(t c:String):Bool:=t==c||(t=="bool"&&c=="int")
theorem qa9(K:yg):∀ t∈["NoneType","bool","int","str","list","tuple","dict"],∀ c∈["bool","int","str","list","tuple","dict"],PySem.W.kitOne K (.type t) (.type c)=some (isaT t c):=by
 intro t a c hc;simp only[yE,yZ,Y2] at a hc;rcases a with rfl | rfl | rfl | rfl | rfl | rfl | rfl<;>rcases hc with rfl | rfl | rfl | rfl | rfl | rfl<;>rfl
noncomputable def qdN:List Value->Bool
 | [.type a,.type b,.type c,.type d]=>a=="ValueError"&&b=="Exception"&&c=="BaseException"&&d=="object"
 | .ref _::r=>qdN r
 | _=>false
noncomputable def xcIn(K:yg)(C:Addr):Bool:=match K.lookup C with
 | some ⟨.type "type",_,.cls cd,sl⟩=>(match cd.mro,sl.toList with
  | .ref D::bm,[_,_,_,_,some (.builtin n),_]=>D==C&&!cd.hasDel&&qdN bm&&n=="ValueError.__new__"
  | _,_=>false)
 | _=>false
structure XAt(K:yg)(C:Addr):Prop where
 ga:PySem.W.findIn K (.ref C) "__getattribute__"=some (some (.builtin "BaseException.__getattribute__"))
 gn:PySem.W.findIn K (.ref C) "__getattr__"=some none
 bx:PySem.W.mroIn K C (.type "BaseException")=some true
 ob:PySem.W.mroIn K C (.type "object")=some true
 hd:PySem.W.hasDictIn K C=true
 cl:PySem.W.findIn K (.ref C) "__class__"=some (some (.builtin "object.__class__"))
 cg:PySem.W.specialIn K (.builtin "object.__class__") "__get__"=some (some (.builtin "getset_descriptor.__get__"))
 ct:PySem.W.takesIn K (.builtin "object.__class__")=some true
 sa:PySem.W.findIn K (.ref C) "__setattr__"=some (some (.builtin "object.__setattr__"))
 mr:(PySem.W.clsIn K C).any (fun cd=>qdN cd.mro)=true
 xc:xcIn K C=true
theorem bexc_ga_slot:Slot "ValueError" "__getattribute__" "BaseException.__getattribute__":=PySem.F.attr_ValueError.ga
section
variable{prog:Program}{w:World}{A:Around}{E:Value->Shared->Prop}{s:Shared}{K:yg}{x C:Addr}{ox:Obj}{od:Option Obj}{name:Str}{v:Value}
theorem xga_value{Q:Fin->Shared->Prop}(X:K.In s.heap)(I:PySem.W.InstAt s.heap x ox C od)(a:PySem.W.findObj K C od name=some (.value v))(h:Q (.done (.ret v)) s) :
  wpAny (model prog w) A (Builtin.«object.__getattribute__» ⟨[.ref x,.str name tk],[]⟩) Q E s:=by
 have F:=PySem.W.looks_find (M:=model prog w) X I a;show yr (yu (yr (yu (yr (I.type.here (yr (F.here ?_)))))));show yu h
theorem xga_call{R:Result->Shared->Prop}(X:K.In s.heap)(I:PySem.W.InstAt s.heap x ox C od)(hb:PySem.W.mroIn K C (.type "BaseException")=some true)
  (h:wpAny (model prog w) A.in1 (Builtin.«object.__getattribute__» ⟨[.ref x,.str name tk],[]⟩) (fun b a=>match b with | .done f=>R (.ok f) a | .again c'=>c'.quiet=true/\codeAny (model prog w) A c' R a) (fun e a=>R (.error e) a) s) :
  codeAny (model prog w) A (.call (.builtin "BaseException.__getattribute__") ⟨[.ref x,.str name tk],[]⟩) R s:=by
 show xN bexc_ga_slot.plain PySem.F.entry_bexc_ga ?_;show @PySem.W.check_slot (model prog w) _ _ s "BaseException.__getattribute__" "BaseException" "__getattribute__" (.ref x) [.str name tk] [] _ (by room) (by room) (I.type.andThen (xp X hb)) (PySem.F.args_bexc_ga _ _) h
theorem qc4{b:Bool}{Q:Value->Shared->Prop}(X:K.In s.heap)(I:PySem.W.InstAt s.heap x ox C od)(c:XAt K C)
  (h:wpAny (model prog w) A.in1 (Builtin.«object.__getattribute__» ⟨[.ref x,.str name tk],[]⟩) (fun a d=>match a with | .done (.ret v)=>wpAny (model prog w) A (handedOut v) Q E d | _=>False) (fun _ _=>False) s) :
  wpAny (model prog w) A (getAttrBy (.ref x) (.str name tk) b expr) Q E s:=by
 unfold getAttrBy;show Yd (yr (I.type.here (yr ((YT X c.ga).here ?_))))
 have e:(onTheHeap (Value.ref C)&&Value.builtin "BaseException.__getattribute__"==Value.builtin "object.__getattribute__")=false:=by
  rw[show(Value.builtin "BaseException.__getattribute__"==Value.builtin "object.__getattribute__")=false by room];rfl
 dsimp only;rw[e,yz (by decide)];unfold getAttrByItsOwn hookBefore;rw[yF (show onTheHeap (Value.ref C)=true from rfl)];show yr ((YT X c.gn).here (yr (Xr (Yd ?_))));have f:(expr&&onTheHeap (Value.builtin "BaseException.__getattribute__"))=false:=by cases expr<;>rfl
 unfold callGetattribute;rw[f,yz (by decide)];unfold boundAndCalled;rw[bexc_ga_slot.bind];show yr (yu ?_);show wpAny _ _ (call (.builtin "BaseException.__getattribute__") [.ref x,.str name tk]) _ _ _;show Xk (xga_call X I c.bx (Yz h (fun a d z=>?_) fun _ _ z=>z.elim));rcases a with(_ | _ | _ | _) | _<;>first | show z | show z.elim
theorem xget{Q:Value->Shared->Prop}(X:K.In s.heap)(I:PySem.W.InstAt s.heap x ox C od)(c:XAt K C)(a:PySem.W.findObj K C od name=some (.value v))(b:PySem.W.handedIn v=true)
  (h:Q v { s with toks:=s.toks+1 }):wpAny (model prog w) A (getAttr (.ref x) name expr) Q E s:=by
 unfold getAttr;show yr (wpAny_mkText (qc4 (s:={ s with toks:=s.toks+1 }) X I c (xga_value (s:={ s with toks:=s.toks+1 }) X I a ?_)));show wpAny _ _ (handedOut v) _ _ _;rw[PySem.W.handedOut_of b];show yu h
theorem xclass{Q:Option Value->Shared->Prop}(X:K.In s.heap)(I:PySem.W.InstAt s.heap x ox C od)(c:XAt K C)(a:PySem.W.findObj K C od "__class__"=some (.bind (.builtin "getset_descriptor.__get__") (.builtin "object.__class__")))
  (h:Q (some (.ref C)) { s with toks:=s.toks+1 }):wpAny (model prog w) A (getAttr? (.ref x) "__class__") Q E s:=by
 unfold getAttr? getAttrBy?;show yr (wpAny_mkText (yr (Xr (qc4 (s:={ s with toks:=s.toks+1 }) X I c ?_))));have F:=PySem.W.looks_find (M:=model prog w) X I a;show yr (yu (yr (yu (yr (I.type.here (s:={ s with toks:=s.toks+1 }) (yr (F.here (s:={ s with toks:=s.toks+1 }) ?_)))))));show wpAny _ _ (holding [Value.builtin "object.__class__"] (call (.builtin "getset_descriptor.__get__") [.builtin "object.__class__",.ref x,.ref C])>>=ret) _ _ _;show yr (Yd (Xk (PySem.W.class_get (s:={ s with toks:=s.toks+1 }) X I c.ob ?_)));show yu ?_;show wpAny _ _ (handedOut (.ref C)) _ _ _;show yu (yu h)
theorem findObj_class(c:XAt K C):PySem.W.findObj K C od "__class__"=some (.bind (.builtin "getset_descriptor.__get__") (.builtin "object.__class__")):=by
 obtain⟨a,hc,_⟩:=xr c.hd;unfold PySem.W.findObj;rw[hc,Option.bind_some,c.cl,Option.bind_some];simp[c.cg,c.ct]
theorem qcn(c:XAt K C):PySem.W.KitX K (.ref x) (.ref C) (fun h=>PySem.W.InstAt h x ox C od) where
 ty:=fun _ _ _ I=>I.type
 it:=fun _ _ X _=>by
  obtain⟨b,hc,_⟩:=xr c.hd;unfold PySem.W.clsIn at hc;split at hc
  .rename_i c1 d1 cd1 sl1 ho
   intro f i g l k q;unfold isType loadHead;show yr (wpAny_loadPart (k _ _ (X _ _ ho)) (yu q))
  .cases hc
 ne:=fun h d j its n m X a=>by
  obtain⟨b,hc,_⟩:=xr c.hd;show Bool.eq_false_iff.mpr fun q=>?_;have e:C=d:=Value.ref.inj (yY.mp q);subst e;unfold PySem.W.clsIn at hc;split at hc
  .rename_i c1 d1 cd1 sl1 ho
   have z:=(X _ _ ho).symm.trans a;cases z
  .cases hc
 ca:=fun X I k=>xclass X I c (findObj_class c) k
end
theorem qbG{r:List Value}(e:qdN (.ref c::r)=true):qdN r=true:=by
 cases r with
 | nil=>cases e
 | cons a r=>show e
theorem qbH:∀{l:List Value},qdN l=true->∃ f:LI,l=f.map Value.ref++[.type "ValueError",.type "Exception",.type "BaseException",.type "object"]
 | [],e=>by cases e
 | .ref c::r,e=>by
  obtain⟨f,q⟩:=qbH (qbG e);show⟨c::f,by rw[q];rfl⟩
 | .type a::r,e=>by
  match r,e with
  | [.type b,.type c,.type d],e =>
   simp only[qdN,yS,yY] at e;obtain⟨⟨⟨rfl,rfl⟩,rfl⟩,rfl⟩:=e;show⟨[],rfl⟩
theorem refuse_exc(self:Value){l:List Value}(e:qdN l=true):refuseLoop self "__setattr__" l=pure ():=by
 obtain⟨a,rfl⟩:=qbH e
 induction a with
 | nil=>show PySem.F.store_ValueError.passes self
 | cons c a ih=>rw[yV,Xm,refuseLoop_ref];show ih (qbG e)
section
variable{prog:Program}{w:World}{A:Around}{E:Value->Shared->Prop}{s:Shared}{K:yg}{x C:Addr}{name:Str}{v:Value}{R:Result->Shared->Prop}
theorem xosa(X:K.In s.heap)(I:PySem.W.InstAt s.heap x ox C od)(c:XAt K C)(n:NoAttr K C name)
  (h:wpAny (model prog w) A.in1 (Builtin.ObjectAttr.storeInOwnDict (.ref x) (.ref C) (.str name tk) name v false)
   (fun d b=>match d with | .done f=>R (.ok f) b | .again c'=>c'.quiet=true/\codeAny (model prog w) A c' R b) (fun e b=>R (.error e) b) s) :
  codeAny (model prog w) A (.call (.builtin "object.__setattr__") ⟨[.ref x,.str name tk,v],[]⟩) R s:=by
 have a:=PySem.F.store_object;obtain⟨g,hc,j⟩:=xr c.mr;have i:PySem.W.Looks (model prog w) s.heap (mroOf (.ref C)) g.mro:=(XE X hc).andThen .now;show xN a.slot.plain a.entry (@PySem.W.check_slot (model prog w) _ _ s "object.__setattr__" "object" "__setattr__" (.ref x) [.str name tk,v] [] _ a.kind a.split (I.type.andThen (xp X c.ob)) (a.args (.ref x) (.str name tk) v) ?_);rw[PySem.W.osa_eq,refuse_eq];show yr (yr (I.type.here (yr (i.here ?_))));rw[refuse_exc _ j];show yu (yr (I.type.here (yr ((YT X n).here (yr (yu ?_))))));show h
theorem xset{vs:Array Value}(X:K.In s.heap)(m:s.heap.get? x=some ⟨.ref C,none,.fields vs,#[]⟩)(c:XAt K C)(n:NoAttr K C name){Q:Unit->Shared->Prop}
  (h:∀ h',h'.get? x=some ⟨.ref C,some s.heap.objs.size,.fields vs,#[]⟩->h'.Ns1 s.heap.objs.size (fun y=>if y=name then some v else none)->(∀ b o,b≠x->s.heap.get? b=some o->h'.get? b=some o) ->
   Q () { s with heap:=h',toks:=s.toks+2 }):wpAny (model prog w) A (setAttr (.ref x) name v) Q E s:=by
 have I:PySem.W.InstAt s.heap x ⟨.ref C,none,.fields vs,#[]⟩ C none:=⟨m,rfl,rfl,YH⟩;obtain⟨J,hc,D⟩:=xr c.hd;show PySem.W.set_plain X I c.sa (xosa (s:={ s with toks:=s.toks+1 }) X I c n ?_);show yr (yu (yr (yr (wpAny_loadPart m (yr ((XE X hc).here (s:={ s with toks:=s.toks+1 }) ?_))))));rw[D];obtain⟨a,g,L,tk,N⟩:=s;show wpAny _ _ (alloc { cls:=.type "dict",data:=.dict #[] }>>=fun d=>update x (fun o=>{ cls:=o.cls,dict:=some d,data:=o.data,slots:=o.slots })>>=fun _=>pure (some d)) _ _ _;have l:x≠a.objs.size:=yy (yD m);have i:=yt { cls:=.type "dict",data:=.dict #[] } m;show yr (wpAny_alloc' (yr (wpAny_update' i (yu ?_))));have j:=YM (fun o:Obj=>{ cls:=o.cls,dict:=some a.objs.size,data:=o.data,slots:=o.slots }) i rfl;have f:=(XF (a.push { cls:=.type "dict",data:=.dict #[] }) a.objs.size x (fun o:Obj=>{ cls:=o.cls,dict:=some a.objs.size,data:=o.data,slots:=o.slots }) l.symm).trans (Heap.get?_push_at rfl rfl);generalize G:(a.push { cls:=.type "dict",data:=.dict #[] }).update x (fun o:Obj=>{ cls:=o.cls,dict:=some a.objs.size,data:=o.data,slots:=o.slots })=h2 at j f ⊢;have H:h2.Ns a.objs.size (fun _=>none):=⟨_,#[],_,f,rfl,fun e F=>absurd F (by simp),fun _=>rfl⟩;show wpAny _ _ (Builtin.ObjectAttr.storeInDict a.objs.size (.str name tk) name v) _ _ _;unfold Builtin.ObjectAttr.storeInDict Builtin.ObjectAttr.newKeyGuard;show yr (yu (yr (wpAny_nsSet1 (Heap.Ns1.of_empty H) fun h' u z=>?_)));obtain⟨M,p,B,t,r,q⟩:=u.count (PySem.Within.cons name v PySem.Within.nil);have hz:p.size<=sizeLine:=yi q (by rw[yM,Ym,yX];lk);show yr (wpAny_lookBehind t (by rw[r];show pastItsLine_dict (Nat.le_succ_of_le hz)) ?_);show yu (h h' ((z.2 x l).trans j) u fun b o hb e=>(z.2 b (yy (yD e))).trans ?_);rw[<- G];show(XF _ _ _ _ hb).trans (yt _ e)
noncomputable abbrev xfs(a:Addr):Array Value:=#[.ref a,.none,.none,.none,.bool false,.none]
end
section
variable{prog:Program}{w:World}{A:Around}{R:Result->Shared->Prop}{E:Value->Shared->Prop}{h:Heap}{g:Array GenState}{d:Drawn}{t:Nat}{os:OsState}
variable{nm q:Str}{C N:Addr}{bs bm:List Value}{hdct:Bool}{sn:LS}{sub:List Value}{ab:Bool}{col:Option Bool}{dd:Option Addr}{k0 k1 k2 k3 k5:Option Value}
end
noncomputable def XN(e C:Addr)(dx:Option Addr):HO:=.ext fun h=>∃ a,h.get? e=some ⟨.ref C,dx,.fields (xfs a),#[]⟩
noncomputable def XO(e C:Addr)(dx:Option Addr):HO:=.ext fun h=>∃ vs,h.get? e=some ⟨.ref C,dx,.fields vs,#[]⟩
theorem XN.ok{b:Addr}(q:h.get? e=some ⟨.ref C,dx,.fields (xfs b),#[]⟩):ObjOk P w H h e (XN e C dx):=
 ⟨⟨b,q⟩,⟨_,q⟩,fun _ _ ⟨a,x⟩ k=>⟨a,k _ x⟩⟩
def IsX(H:Hp)(e C:Addr)(dx:Option Addr):Prop:=H e=some (XN e C dx)\/H e=some (XO e C dx)
theorem IsX.get(q:IsX H e C dx)(b:HOk P w H h):∃ vs,h.get? e=some ⟨.ref C,dx,.fields vs,#[]⟩:=by
 rcases q with q | q
 .obtain⟨⟨a,x⟩,_⟩:=(show ObjOk P w H h e (XN e C dx) from b e _ q);show⟨_,x⟩
 .obtain⟨⟨a,x⟩,_⟩:=(show ObjOk P w H h e (XO e C dx) from b e _ q);show⟨_,x⟩
section
variable{X:Cx}{pins:List (Addr×Obj)}{σ:St}{H:Hp}{s:Shared}{e C:Addr}{dx:Option Addr}
theorem qdO(I:Inv X pins σ H s){d:Addr}{fs:List (Str×V)}(h:H d=some (.xd fs)):∃(od:Obj) (a:Str->Option Value),s.heap.get? d=some od/\(∀ name,PySem.W.lookIn name od=some (a name))/\∀ f,RelO (fs.lookup f) (a f):=by
 obtain⟨a,n,r⟩:=(show ObjOk X.prog X.w H s.heap d (.xd fs) from I.hok d _ h);obtain⟨od,h1,b⟩:=qbu n;show⟨od,a,h1,b,r⟩
end
section
variable{X:Cx}{pins:List (Addr×Obj)}{σ:St}{H:Hp}{s:Shared}{a d:Addr}{h':Heap}{o u:HO}{t':Nat}
theorem Inv.both(I:Inv X pins σ H s)(i:Mut (H a))(l:s.heap.objs.size<=d)(k:∀ b v,b≠a->s.heap.get? b=some v->h'.get? b=some v)(m:∃ v,h'.get? a=some v)
  (p:ObjOk X.prog X.w (upd (upd H d u) a o) h' a o) (t:ObjOk X.prog X.w (upd (upd H d u) a o) h' d u) (ne:d≠a):Inv X pins σ (upd (upd H d u) a o) { s with heap:=h',toks:=t' }:=by
 have x:H d=none:=I.hok.fresh l;have f:∀ b q,H b=some q->¬ Mut (some q)->b≠a:=fun b q e y z=>by subst z;rw[e] at i;show y i
 have j:∀ b,H b=none->b≠a:=fun b e z=>by subst z;rw[e] at i;show i
 have big:∀ b v,s.heap.get? b=some v->b≠d:=fun b v e=>yy (yj (yD e) l);have h:∀ b q,H b=some q->b≠a->upd (upd H d u) a o b=some q:=fun b q e n=>by rw[qh n,qh (qA e x)];show e
 show I.un ⟨fun b v e n _ _=>k b v (j b n) e,fun b v e n _ _=>⟨v.slots,k b v (j b n) e⟩,fun b v e n _=>by rw[qh (j b n),qh (big b v e)];show n,fun b v e _=>?_,fun b xs e=>h b _ e (f b _ e fun z=>z),fun b q xs e=>h b _ e (f b _ e fun z=>z),
  fun b ps e=>⟨#[],by rw[h b _ e (f b _ e fun z=>z)];simp⟩⟩ fun b q e=>?_
 .by_cases hb:b=a
  .subst hb;show m
  .show⟨v,k b v hb e⟩
 .by_cases hb:b=a
  .subst hb;rw[qb] at e;cases e;show p
  .rw [qh hb] at e;by_cases g:b=d
   .subst g;rw[qb] at e;cases e;show t
   .rw [qh g] at e;show(I.hok b q e).stay (fun c v hc r=>k c v ?_ r) (fun c r=>h c _ r (f c _ r fun z=>z)) fun c xs r=>h c _ r (f c _ r fun z=>z);rcases hc with rfl | hc
    .show hb
    .show f c _ hc fun z=>z
end
inductive FldR(K:yg)(f:Str)(x:V)(H:Hp)(Q:VK):Prop|mk (a C dx:Addr) (fs:List (Str×V)) (v:V) (_:x=.ref a) (_:H a=some (.ins C dx fs)) (_:Cls K C) (_:NoAttr K C f) (_:fs.lookup f=some v) (_:Q v H)
inductive XFlR(K:yg)(f:Str)(x:V)(H:Hp)(Q:VK):Prop|mk (a C dx:Addr) (fs:List (Str×V)) (v:V) (_:x=.ref a) (_:IsX H a C (some dx)) (_:XAt K C) (_:NoAttr K C f) (_:H dx=some (.xd fs)) (_:fs.lookup f=some v) (_:Q v H)
inductive FlUR(K:yg)(f:Str)(x:V)(H:Hp)(Q:VK):Prop | inl (_:FldR K f x H Q) | inr (_:XFlR K f x H Q)
inductive SFdR(K:yg)(f:Str)(x y:V)(H:Hp)(k:Hp->Prop):Prop|mk (a C dx:Addr) (fs:List (Str×V)) (_:x=.ref a) (_:H a=some (.ins C dx fs)) (_:Cls K C) (_:NoAttr K C f) (_:fs.length<1000) (_:k (upd H a (.ins C dx (jv f y fs))))
inductive SXdR(K:yg)(f:Str)(x y:V)(H:Hp)(k:Hp->Prop):Prop|mk (a C:Addr) (_:x=.ref a) (_:H a=some (XN a C none)) (_:XAt K C) (_:NoAttr K C f) (_:∀ dx,H dx=none->k (upd (upd H dx (.xd [(f,y)])) a (XN a C (some dx))))
inductive SFUR(K:yg)(f:Str)(x y:V)(H:Hp)(k:Hp->Prop):Prop | inl (_:SFdR K f x y H k) | inr (_:SXdR K f x y H k)
def qey(K:yg)(b:TE)(f:Str):TE:=fun σ H Q=>b σ H fun x a=>FlUR K f x a Q
def qez(K:yg)(c d:TE)(f:Str):TS:=fun D σ H=>d σ H fun y a=>c σ a fun x b=>SFUR K f x y b (D.nx σ)
section
variable{X:Cx}{o e value:Expr}{f:Str}{pos pos':Pos}{ta tv:TE}{K:yg}
theorem zc(w:X.K=K)(z:PE X e ta)(hb:attributeBase e f X.env (eval e X.env)=eval e X.env):PE X (.Attribute e f pos) (qey K ta f):=by
 subst w;intro pins s σ H Q I h;show attr_of hb (thn (z pins s σ H _ I h) fun u E ⟨x,j,b,m,i⟩=>?_);rcases i with⟨a,C,dx,fs,v,rfl,g,c,n,l,q⟩ | ⟨a,C,dx,fs,v,rfl,g,c,n,y,l,q⟩
 .obtain rfl:u=Value.ref a:=m;show getattr_ok b g c n l fun D F p d=>⟨v,j,p,d,q⟩
 .obtain rfl:u=Value.ref a:=m;obtain⟨vs,i⟩:=g.get b.hok;obtain⟨od,B,h1,t,r⟩:=qdO b y;obtain⟨D,A,d⟩:=RelO.some_of (v:=v) (o:=B f) (by rw[<- l];show r f);show xget b.kIn (od:=some od) ⟨i,rfl,rfl,h1⟩ c (PySem.W.findObj_own c.hd n rfl (by rw[t,A])) (qbv d) ⟨v,j,b.tok _,d,q⟩
theorem qb3(J:X.K=K)(L:PE X o ta)(hv:PE X value tv)(M:swapsWith value (some (.Attribute o f pos')) pos.line X.env=pure false):PS X (.Assign [.Attribute o f pos'] value pos) (qez K ta tv f):=by
 subst J;intro pins s σ H D I h;show plainObj_wpAny_Assign_Attribute (thn (hv pins s σ H _ I h) fun u O ⟨y,A,B,z,q⟩=>thn (L pins O σ A _ B q) fun t i ⟨x,p,b,v,e⟩=>?_) M;rcases e with⟨a,C,dx,fs,rfl,d,c,n,l,m⟩ | ⟨a,C,rfl,d,c,n,m⟩
 .obtain rfl:t=Value.ref a:=v;show setattr_ok b d c n l z fun R E=>⟨σ,_,E,m⟩
 .obtain rfl:t=Value.ref a:=v;obtain⟨⟨P,e⟩,_⟩:=(show ObjOk X.prog X.w p i.heap a (XN a C none) from b.hok a _ d);show xset b.kIn e c n fun h' r F G=>?_;have N:p i.heap.objs.size=none:=b.hok.fresh (yh _);have ne:i.heap.objs.size≠a:=yW (yD e);show⟨σ,_,b.both (o:=XN a C (some i.heap.objs.size)) (u:=.xd [(f,y)]) (by rw[d];show YH) (yh _) G ⟨_,r⟩ (XN.ok r) ⟨_,F,fun g=>?_⟩ ne,m _ N⟩;by_cases j:g=f
  .subst j;simp only[List.lookup,YQ,xV];show z
  .have hb:(g==f)=false:=Yy.mpr j;simp only[List.lookup,hb,yz j];show YH
end
def tXMake(C:Addr)(sp:Sp)(E:XK)(t:TA):TE:=fun σ H Q=>t σ H fun vs a=>vs.length<=1000/\∀ x,a x=none->sp (.ref x::vs) (upd a x (XN x C none)) (fun v b=>v=.non/\Q (.ref x) b) E
structure XMk(K:yg)(C f:Addr):Prop where
 at_:XAt K C
 init:PySem.W.findIn K (.ref C) "__init__"=some (some (.ref f))
 fn:PySem.W.isFn K (.ref f)=true
 kp:PySem.W.keepIn K (.ref C)=true
section
variable{X:Cx}{CX:CXT}{k:Nat}{f C:Addr}{fd:FuncData}{ps:LS}{sp:Sp}{E:XK}{x m:Str}{p pos apos:Pos}{e o:Expr}{es:List Expr}{ta:TE}{t:TA}
structure CMeth(K:yg)(C:Addr)(m:Str)(f:Addr):Prop where
 rd:PySem.W.readsIn K C (.type "type")=true
 at_:PySem.W.findCls K (.ref C) (.type "type") m=some (.val (.ref f))
 ga:PySem.W.specialIn K (.ref C) "__getattribute__"=some (some (.builtin "type.__getattribute__"))
 kp:PySem.W.keepIn K (.ref f)=true
end
def tVinit(K:yg)(t:TA):TE:=fun σ H Q=>t σ H fun vs b=>∃ a C y,vs=[.ref a,y]/\b a=some (XN a C none)/\XAt K C/\Q .non b
structure VInit(K:yg):Prop where
 ga:PySem.W.findIn K (.type "type") "__getattribute__"=some (some (.builtin "type.__getattribute__"))
 su:PySem.W.subIn K (.type "type") (.type "type")=some true
 at_:PySem.W.findCls K (.type "ValueError") (.type "type") "__init__"=some (.val (.builtin "ValueError.__init__"))
section
variable{X:Cx}{p pos apos:Pos}{e:Expr}{es:List Expr}{t:TA}{K:yg}
end
structure Keep(fs zs:LI)(h h':Heap):Prop where
 keep:∀ b o,h.get? b=some o->b∉zs->b∉fs->h'.get? b=some o
 slot:∀ b o,h.get? b=some o->b∉zs->b∈fs->∃ sl,h'.get? b=some { o with slots:=sl }
structure Trc(h:Heap)(e:Addr)(C:Value)(dx:Option Addr)(T:Addr)(fl:Value):Prop where
 ex:∃ vs,h.get? e=some ⟨C,dx,.fields vs,#[]⟩/\vs[1]?=some (.ref T)/\vs[2]?=some .none
 tb:∃ ts,h.get? T=some ⟨.type "traceback",none,.fields ts,#[]⟩/\ts[3]?=some fl
 ne:T≠e
section
variable{M:Model}{A:Around}{E:Value->Shared->Prop}{s:Shared}{base:Heap}{env:Env}{outer:List Env}{L e:Addr}{C:Value}{dx:Option Addr}{vs:Array Value}
end
def CX1(P:Program)(w:World):CXT:=fun b H s E d c=>∃(a C:Addr) (dx:Option Addr) (T:Addr) (H':Hp),d=.ref a/\c.os=s.os/\AllBare c.gens/\Un (frs b) [] H H' s.heap c.heap/\HOk P w H' c.heap /\
 H' a=some (XO a C dx)/\Trc c.heap a (.ref C) dx T .none/\s.heap.objs.size<=T/\H' T=none/\E (.ref C) dx H'
section
variable{X:Cx}{pins:List (Addr×Obj)}{σ:St}{H:Hp}{s:Shared}
end
structure XOk(X:Cx)(EK:St->XK):Prop where
 pass:∀(pins:List (Addr×Obj)) (σ:St) (H:Hp) (s:Shared) (e:Value) (s':Shared),Inv X pins σ H s->CX1 X.prog X.w X.stack H s (EK σ) e s'->X.xe e s'
 rais:∀(pins:List (Addr×Obj)) (σ:St) (H:Hp) (s:Shared) (a C:Addr) (dx:Option Addr),Inv X pins σ H s->H a=some (XN a C dx)->EK σ (.ref C) dx (upd H a (XO a C dx))->X.xe (.ref a) s
 calm:X.calm=true
section
variable{P:Program}{w:World}{K:yg}{mg:Str->Option Value}{base:Heap}{N:LS}{qual:Str}{scope:Scope}{f:Addr}{cd:Value}{A:Around}{outer:List Env}{s0:Shared}{H0:Hp}{E:XK}
end
def tRaise(K:yg)(c:St->XK)(te:TE):TS:=fun _ σ H=>te σ H fun x b=>∃ a C dx,x=.ref a/\b a=some (XN a C dx)/\XAt K C/\c σ (.ref C) dx (upd b a (XO a C dx))
section
variable{X:Cx}{EK:St->XK}{e:Expr}{te:TE}{pos:Pos}{K:yg}
end
def tCallS(sp:Sp)(a:St->XK)(t:TA):TE:=fun σ H Q=>t σ H fun vs b=>sp vs b Q (a σ)
def tMethS(C:Addr)(m:Str)(sp:Sp)(b:St->XK)(d:TE)(t:TA):TE:=fun σ H Q=>d σ H fun x a=>MeR C m x a (t σ a fun vs c=>sp (x::vs) c Q (b σ))
def tMakeS(C:Addr)(sp:Sp)(b:St->XK)(t:TA):TE:=fun σ H Q=>t σ H fun vs a=>∀ x dx,a x=none->a dx=none->dx≠x ->
 sp (.ref x::vs) (upd (upd a dx (.own x)) x (.ins C dx [])) (fun v c=>v=.non/\Q (.ref x) c) (b σ)
structure MethOk(P:Program)(w:World)(K:yg)(mg:Str->Option Value)(base:Heap)(CX:CXT)(k:Nat)(C:Addr)(m:Str)(ps:LS)(sp:Sp):Prop where
 ex:∃ f fd,FnOk P w K mg base CX k f fd ps sp/\Meth K C m f/\Binds K fd ps []
 cl:Cls K C
structure MakeOk(P:Program)(w:World)(K:yg)(mg:Str->Option Value)(base:Heap)(CX:CXT)(k:Nat)(C:Addr)(x:Str)(ps:LS)(sp:Sp):Prop where
 ex:∃ f fd,FnOk P w K mg base CX k f fd ps sp/\Mk K C f/\Binds K fd ps []
 mg_:mg x=some (.ref C)
structure XMakeOk(P:Program)(w:World)(K:yg)(mg:Str->Option Value)(base:Heap)(k:Nat)(C:Addr)(x:Str)(ps:LS)(sp:Sp):Prop where
 ex:∃ f fd,FnOk P w K mg base CX0 k f fd ps sp/\XMk K C f/\Binds K fd ps []
 mg_:mg x=some (.ref C)
section
variable{X:Cx}{EK:St->XK}{k:Nat}{f C:Addr}{fd:FuncData}{ps:LS}{sp:Sp}{x m:Str}{p pos apos:Pos}{e o:Expr}{es:List Expr}{ta:TE}{t:TA}
theorem qR{pl:Sem Bool}(D:MethOk X.prog X.w X.K X.mg X.base CX0 k C m ps sp)(h:Room k X.A)(d:PE X o ta)(c:PA X (e::es) t)
  (b:starEach (e::es) X.env=(false,eval e X.env)::starEach es X.env:=by rfl) (a:(backTo pos (starEach es X.env)).any (·.1)=false:=by rfl)
  (i:eval (.Call (.Attribute o m apos) (e::es) [] pos) X.env=(do
   let ov <- eval o X.env
   standAt apos.atName
   let (f,first) <- holding [ov] (getMethod ov m pl)
   callWith pos f first (backTo pos (starEach (e::es) X.env)) (backToKw pos (keywordEach [] X.env))):=by rfl) :
  PE X (.Call (.Attribute o m apos) (e::es) [] pos) (qcS C m sp [] E0 ta t):=by
 obtain⟨f,fd,F,g,hb⟩:=D.ex;show pe_meth (pl:=pl) d D.cl g F h hb .nil qx c b a i
theorem qay{pl:Sem Bool}(D:MethOk X.prog X.w X.K X.mg X.base CX0 k C m ps sp)(c:Room k X.A)(a:PE X o ta)
  (d:eval (.Call (.Attribute o m apos) [] [] pos) X.env=(do
   let ov <- eval o X.env
   standAt apos.atName
   let (f,first) <- holding [ov] (getMethod ov m pl)
   callWith pos f first (backTo pos (starEach [] X.env)) (backToKw pos (keywordEach [] X.env))):=by rfl) :
  PE X (.Call (.Attribute o m apos) [] [] pos) (qcS C m sp [] E0 ta qeq):=by
 obtain⟨f,fd,F,b,hb⟩:=D.ex;show pe_meth0 (pl:=pl) a D.cl b F c hb .nil qx d
end
section
variable{P:Program}{w:World}{K:yg}{mg:Str->Option Value}{base:Heap}
end
noncomputable abbrev Cx.tried(X:Cx)(pn:List (Addr×Obj))(E:Value->Shared->Prop):Cx:={ X with pn:=pn,xe:=E }
noncomputable abbrev Cx.hand(X:Cx)(a:Addr):Cx:={ X with A:=X.A.mark (some (.ref a)),calm:=false,xe:=fun _ _=>False }
section
variable{X:Cx}{pins pins':List (Addr×Obj)}{σ:St}{H:Hp}{s:Shared}{E:Value->Shared->Prop}{a:Addr}
structure Loose(X:Cx)(pins:List (Addr×Obj))(H:Hp)(T:Addr):Prop where
 hn:H T=none
 lo:X.s₀.heap.objs.size<=T
 nl:T≠X.env.locals
 nf:T∉X.fs
 nc:∀ x c,X.env.cells.lookup x=some c->c≠T
 np:∀ p∈X.pn++pins,p.1≠T
end
structure Held(X:Cx)(pins:List (Addr×Obj))(H:Hp)(h:Heap)(a C:Addr)(dx:Option Addr):Prop where
 at_:H a=some (XO a C dx)
 tr:∃ T,Trc h a (.ref C) dx T .none/\Loose X pins H T
section
variable{X:Cx}{a C D:Addr}{dx:Option Addr}{c n:Str}{cp pos:Pos}{b0:Stmt}{body:List Stmt}{qce:List ExceptHandler}{tb tr:TS}{i:Nat}{K:yg}
end
section
variable{X:Cx}{body orelse:List Stmt}{h0:ExceptHandler}{hs:List ExceptHandler}{pos:Pos}{te:TS}
end
def TyX(K:yg)(H:Hp)(x:V)(t:Value):Prop:=TyOf K H x t\/∃ a C dx,x=.ref a/\t=.ref C/\IsX H a C dx/\XAt K C/\∀ d,dx=some d->∃ fs,H d=some (.xd fs)
theorem TyX.kit{x:V}(I:Inv X pins σ H s)(e:RelV x u)(ty:TyX X.K H x t):∃ P:Heap->Prop,PySem.W.KitX X.K u t P/\P s.heap/\u≠.builtin "__main__.__loader__#opaque":=by
 rcases ty with ty | ⟨a,C,dx,rfl,rfl,hx,c,hd⟩
 .show ty.kit I e
 .cases e;obtain⟨vs,b⟩:=hx.get I.hok
  cases dx with
  | none=>show⟨_,qcn (od:=none) c,⟨b,rfl,rfl,YH⟩,fun z=>nomatch z⟩
  | some d =>
   obtain⟨fs,f⟩:=hd d rfl;obtain⟨od,g,h1,_⟩:=qdO I f;show⟨_,qcn (od:=some od) c,⟨b,rfl,rfl,h1⟩,fun z=>nomatch z⟩
def qeA(K:yg):List V->Hp->VK->Prop:=fun xs H Q=>∃ x y t c b,xs=[x,y]/\TyX K H x t/\qbF y=some c/\PySem.W.kitOne K t c=some b/\Q (.bl b) H
def qdP(K:yg):List V->Hp->VK->Prop:=fun xs H Q=>∃ x p ys t a b,xs=[x,.ref p]/\TyX K H x t/\H p=some (.tup ys)/\ys.map qbF=a.map some/\PySem.W.kitAny K t a=some b/\Q (.bl b) H
section
variable{X:Cx}{K:yg}
theorem qco(a:X.K=K):zA X (.builtin "isinstance") (qeA K):=by
 subst a;intro pins s σ H xs us Q I r h;obtain⟨x,y,t,c,b,rfl,ty,d,hb,q⟩:=h;obtain⟨u,v,rfl,f,g⟩:=qd5 r;have e:=qaW d g;subst e;obtain⟨P,Z,p,ne⟩:=ty.kit I f;show PySem.W.kia_one Z I.kIn p hb ne fun tk=>⟨.bl b,H,I.tok tk,rfl,q⟩
theorem qc5(i:X.K=K):zA X (.builtin "isinstance") (qdP K):=by
 subst i;intro pins s σ H xs us Q I r h;obtain⟨x,p,ys,t,B,b,rfl,ty,m,y,hb,q⟩:=h;obtain⟨u,v,rfl,A,f⟩:=qd5 r;cases f;obtain⟨P,Z,z,ne⟩:=ty.kit I A;obtain⟨_,its,f,o,l,hc,n,j⟩:=(show ObjOk X.prog X.w H s.heap p (.tup ys) from I.hok p _ m);have e:=qax y f;subst e;obtain⟨c,C,g,D⟩:=o;have a:c=.type "tuple":=hc;have d:g=.seq its.toArray n:=j;subst a d;show PySem.W.kia_tup Z I.kIn z l hb ne fun tk=>⟨.bl b,H,I.tok tk,rfl,q⟩
end
mutual
inductive EqD(K:yg)(H:Hp):Nat->V->V->Bool->Prop
 | flat {n:Nat} {x y:V} (fx:jF x=true) (fy:jF y=true):EqD K H n x y (eqV x y)
 | self {n:Nat} {a:Addr}:EqD K H n (.ref a) (.ref a) true
 | deep {n:Nat} {a b:Addr} {k:Bool} (h:EqT K H n a b k) (ne:a≠b):EqD K H n (.ref a) (.ref b) k
inductive EqT(K:yg)(H:Hp):Nat->Addr->Addr->Bool->Prop
 | lst {n:Nat} {a b:Addr} {xs ys:List V} {e:Nat->Bool} (ha:SqL K H a xs) (hb:SqL K H b ys) (hl:xs.length=ys.length) (he:∀ j x y,xs[j]?=some x->ys[j]?=some y->EqD K H n x y (e j)):EqT K H (n+1) a b ((List.range xs.length).all e)
 | lstL {n:Nat} {a b:Addr} {xs ys:List V} (ha:SqL K H a xs) (hb:SqL K H b ys) (hl:xs.length≠ys.length):EqT K H (n+1) a b false
 | tup {n:Nat} {a b:Addr} {xs ys:List V} {e:Nat->Bool} (ha:SqT K H a xs) (hb:SqT K H b ys) (he:∀ j x y,xs[j]?=some x->ys[j]?=some y->EqD K H n x y (e j)):EqT K H (n+1) a b ((List.range (min xs.length ys.length)).all e&&xs.length==ys.length)
 | lt {n:Nat} {a b:Addr} {xs ys:List V} (ha:SqL K H a xs) (hb:SqT K H b ys):EqT K H (n+1) a b false
 | tl {n:Nat} {a b:Addr} {xs ys:List V} (ha:SqT K H a xs) (hb:SqL K H b ys):EqT K H (n+1) a b false
end
theorem qY:∀{xs:List V} {us:List Value} {j:Nat} {u:Value},Vals xs us->us[j]?=some u->∃ x,xs[j]?=some x/\RelV x u
 | _,_,_,_,.nil,e=>by simp at e
 | _,_,0,_,.cons r _,e=>by simp at e;subst e;show⟨_,rfl,r⟩
 | _,_,j+1,u,.cons _ t,e=>by
  obtain⟨x,h1,a⟩:=qY (j:=j) (u:=u) t (by simpa using e);show⟨x,by simpa using h1,a⟩
section
variable{X:Cx}{pins:List (Addr×Obj)}{σ:St}{H:Hp}{s:Shared}
theorem qba(I:Inv X pins σ H s):∀ n,(∀(A:Around) (x y:V) (k:Bool) (u v:Value),EqD X.K H n x y k->RelV x u->RelV y v->A.units+n<cLine->SeqAt.EqAt A s u v k)/\(∀(A:Around) (a b:Addr) (k:Bool),EqT X.K H n a b k->A.units+n<cLine->SeqAt.RcAt A s (.ref a) (.ref b) k):=by
 intro n
 induction n with
 | zero =>
  have F:∀(A:Around) (a b:Addr) (k:Bool),EqT X.K H 0 a b k->A.units+0<cLine->SeqAt.RcAt A s (.ref a) (.ref b) k:=fun A a b k h=>by cases h
  show⟨fun A x y k u v h g i z=>?_,F⟩
  cases h with
  | flat fx fy=>show qcX g i fx fy
  | self=>cases g;cases i;show Xw _
  | deep h ne=>cases h
 | succ n ih =>
  have D:∀(A:Around) (a b:Addr) (k:Bool),EqT X.K H (n+1) a b k->A.units+(n+1)<cLine->SeqAt.RcAt A s (.ref a) (.ref b) k:=fun A a b k h z=>by
   have f:A.units<cLine:=by lk
   have o:A.in1.units+n<cLine:=by show A.units+1+n<cLine;lk
   cases h with
   | @lst _ _ _ xs ys e ha hb hl he =>
    obtain⟨its,r,pl,hz⟩:=I.list ha;obtain⟨c,m,d,l⟩:=I.list hb;have p:xs.length=its.toArray.size:=by rw[yv];show r.length
    have q:ys.length=c.toArray.size:=by rw[yv];show m.length
    rw[p];show SeqAt.RcAt.lists pl.isList d.isList (by rw[<- p,<- q,hl]) f fun j h1 E=>?_;have t:its[j]?=some its.toArray[j]:=by simp
    have w:c[j]?=some c.toArray[j]:=by simp
    obtain⟨x,B,g⟩:=qY r t;obtain⟨y,C,i⟩:=qY m w;show ih.1 A.in1 x y (e j) _ _ (he j x y B C) g i o
   | @lstL _ _ _ xs ys ha hb hl =>
    obtain⟨its,r,pl,hz⟩:=I.list ha;obtain⟨c,m,d,l⟩:=I.list hb;show SeqAt.RcAt.lists_lengths pl.isList d.isList ?_ f;rw[yv,yv,<- r.length,<- m.length];simp[hl]
   | @tup _ _ _ xs ys e ha hb he =>
    obtain⟨its,r,pl,hz⟩:=I.tuple ha;obtain⟨c,m,d,l⟩:=I.tuple hb;have p:xs.length=its.toArray.size:=by rw[yv];show r.length
    have q:ys.length=c.toArray.size:=by rw[yv];show m.length
    rw[p,q];show SeqAt.RcAt.tuples pl d f fun j h1 E=>?_;have t:its[j]?=some its.toArray[j]:=by simp
    have w:c[j]?=some c.toArray[j]:=by simp
    obtain⟨x,B,g⟩:=qY r t;obtain⟨y,C,i⟩:=qY m w;show ih.1 A.in1 x y (e j) _ _ (he j x y B C) g i o
   | lt ha hb =>
    obtain⟨its,r,pl,hz⟩:=I.list ha;obtain⟨c,m,d,l⟩:=I.tuple hb;show SeqAt.RcAt.list_tuple pl.isList d f
   | tl ha hb =>
    obtain⟨its,r,pl,hz⟩:=I.tuple ha;obtain⟨c,m,d,l⟩:=I.list hb;show SeqAt.RcAt.tuple_list pl d.isList f
  show⟨fun A x y k u v h g i z=>?_,D⟩
  cases h with
  | flat fx fy=>show qcX g i fx fy
  | self=>cases g;cases i;show Xw _
  | deep h ne=>cases g;cases i;show SeqAt.EqAt.of_refs ne (D A _ _ k h z)
theorem ne_refs(I:Inv X pins σ H s){n:Nat}{A:Around}{a b:Addr}{k:Bool}(h:EqT X.K H n a b k)(z:A.units+n<cLine):SeqAt.RcNeAt A s (.ref a) (.ref b) (!k):=by
 cases n with
 | zero=>cases h
 | succ n =>
  have v:=qba I n;have f:A.units<cLine:=by lk
  have l:A.in1.units+n<cLine:=by show A.units+1+n<cLine;lk
  cases h with
  | @lst _ _ _ xs ys e ha hb hl he =>
   obtain⟨its,r,pl,hz⟩:=I.list ha;obtain⟨c,i,d,g⟩:=I.list hb;have m:xs.length=its.toArray.size:=by rw[yv];show r.length
   have o:ys.length=c.toArray.size:=by rw[yv];show i.length
   rw[m];show SeqAt.RcNeAt.lists pl.isList d.isList (by rw[<- m,<- o,hl]) f fun j h1 w=>?_;obtain⟨x,p,t⟩:=qY r (show its[j]?=some its.toArray[j] by simp);obtain⟨y,q,u⟩:=qY i (show c[j]?=some c.toArray[j] by simp);show v.1 A.in1 x y (e j) _ _ (he j x y p q) t u l
  | @lstL _ _ _ xs ys ha hb hl =>
   obtain⟨its,r,pl,hz⟩:=I.list ha;obtain⟨c,i,d,g⟩:=I.list hb;show SeqAt.RcNeAt.lists_lengths pl.isList d.isList ?_ f;rw[yv,yv,<- r.length,<- i.length];simp[hl]
  | @tup _ _ _ xs ys e ha hb he =>
   obtain⟨its,r,pl,hz⟩:=I.tuple ha;obtain⟨c,i,d,g⟩:=I.tuple hb;have m:xs.length=its.toArray.size:=by rw[yv];show r.length
   have o:ys.length=c.toArray.size:=by rw[yv];show i.length
   rw[m,o];show SeqAt.RcNeAt.tuples pl d f fun j h1 w=>?_;obtain⟨x,p,t⟩:=qY r (show its[j]?=some its.toArray[j] by simp);obtain⟨y,q,u⟩:=qY i (show c[j]?=some c.toArray[j] by simp);show v.1 A.in1 x y (e j) _ _ (he j x y p q) t u l
  | lt ha hb =>
   obtain⟨its,r,pl,hz⟩:=I.list ha;obtain⟨c,i,d,g⟩:=I.tuple hb;show SeqAt.RcNeAt.list_tuple pl.isList d f
  | tl ha hb =>
   obtain⟨its,r,pl,hz⟩:=I.tuple ha;obtain⟨c,i,d,g⟩:=I.list hb;show SeqAt.RcNeAt.tuple_list pl d.isList f
theorem qdQ{A:Around}{x y:V}{u v:Value}(e:RelV x u)(c:RelV y v)(f:jF x=true)(d:jF y=true):SeqAt.RcAt A s u v (eqV x y)/\SeqAt.RcNeAt A s u v (!eqV x y):=by
 cases x with
 | non =>
  cases e
  cases y with
  | non=>cases c;show⟨SeqAt.RcAt.none_none,SeqAt.RcNeAt.none_none⟩
  | bl b=>cases c;show⟨SeqAt.RcAt.none_bool b,SeqAt.RcNeAt.none_bool b⟩
  | int b=>obtain⟨t,rfl⟩:=c;show⟨SeqAt.RcAt.none_int b t,SeqAt.RcNeAt.none_int b t⟩
  | str b=>obtain⟨t,rfl⟩:=c;show⟨SeqAt.RcAt.none_str b t,SeqAt.RcNeAt.none_str b t⟩
  | _=>cases d
 | bl a =>
  cases e
  cases y with
  | non=>cases c;show⟨SeqAt.RcAt.bool_none a,SeqAt.RcNeAt.bool_none a⟩
  | bl b=>cases c;show⟨SeqAt.RcAt.bool_bool a b,SeqAt.RcNeAt.bool_bool a b⟩
  | int b=>obtain⟨t,rfl⟩:=c;show⟨SeqAt.RcAt.bool_int a b t,SeqAt.RcNeAt.bool_int a b t⟩
  | str b=>obtain⟨t,rfl⟩:=c;show⟨SeqAt.RcAt.bool_str a b t,SeqAt.RcNeAt.bool_str a b t⟩
  | _=>cases d
 | int a =>
  obtain⟨t',rfl⟩:=e
  cases y with
  | non=>cases c;show⟨SeqAt.RcAt.int_none a t',SeqAt.RcNeAt.int_none a t'⟩
  | bl b=>cases c;show⟨SeqAt.RcAt.int_bool a t' b,SeqAt.RcNeAt.int_bool a t' b⟩
  | int b=>obtain⟨t,rfl⟩:=c;show⟨SeqAt.RcAt.int_int a t' b t,SeqAt.RcNeAt.int_int a t' b t⟩
  | str b=>obtain⟨t,rfl⟩:=c;show⟨SeqAt.RcAt.int_str a t' b t,SeqAt.RcNeAt.int_str a t' b t⟩
  | _=>cases d
 | str a =>
  obtain⟨t',rfl⟩:=e
  cases y with
  | non=>cases c;show⟨SeqAt.RcAt.str_none a t',SeqAt.RcNeAt.str_none a t'⟩
  | bl b=>cases c;show⟨SeqAt.RcAt.str_bool a t' b,SeqAt.RcNeAt.str_bool a t' b⟩
  | int b=>obtain⟨t,rfl⟩:=c;show⟨SeqAt.RcAt.str_int a t' b t,SeqAt.RcNeAt.str_int a t' b t⟩
  | str b=>obtain⟨t,rfl⟩:=c;show⟨SeqAt.RcAt.str_str a t' b t,SeqAt.RcNeAt.str_str a t' b t⟩
  | _=>cases d
 | _=>cases f
end
def qec(K:yg)(c:Bool):R2:=fun x y H Q=>(jF x=true/\jF y=true/\Q (.bl (if c then !eqV x y else eqV x y)) H) \/
 (∃ a b k n,x=.ref a/\y=.ref b/\n<=60/\EqT K H n a b k/\Q (.bl (if c then !k else k)) H) \/
 (∃ a kvs,x=.ref a/\y=.ref a/\H a=some (.dK kvs)/\Q (.bl (!c)) H)
theorem qaz{b:Type}[DecidableEq b]:∀{a:List (b×Value)} {k:b} {v:Value},(a.map (·.1)).Nodup->(k,v)∈a->valueAt a k=some v
 | [],_,_,_,h=>by cases h
 | (k',v')::r,k,v,hn,h=>by
  obtain⟨h1,c⟩:=yo.mp (show(k'::r.map (·.1)).Nodup from hn);unfold valueAt;rw[Y9];by_cases e:k'=k
  .subst e;simp only[decide_true];rcases yE.mp h with z | z
   .cases z;rfl
   .show absurd (YE.mpr ⟨(k',v),z,rfl⟩) h1
  .simp only[e,ku];rcases yE.mp h with z | z
   .cases z;show absurd rfl e
   .show qaz c z
theorem qb4{A:Around}{s:Shared}{c:Type}[DecidableEq c](a:List (c×Value))(d:(a.map (·.1)).Nodup):∀ f:List (c×Value),(∀ p∈f,p∈a)->PySem.W.KeqHits A s a f true
 | [],_=>.nil
 | (k,v)::r,h=>by
  have hv:valueAt a k=some v:=qaz d (h (k,v) yC);show .hit (e:=true) (b:=true) hv (Xw v) (qb4 a d r fun p g=>h p (yw _ g))
section
variable{X:Cx}{K:yg}
theorem k_eqU(m:X.K=K)(t:X.A.units+100<cLine):OpR X (compareOp .Eq) (qec K false):=by
 subst m;intro pins s σ H x y u v Q I c f h;rcases h with⟨j,l,q⟩ | ⟨a,b,k,n,rfl,rfl,p,e,q⟩ | ⟨a,kvs,rfl,rfl,i,q⟩
 .show(qdQ c f j l).1 _ _ _ _ ⟨.bl _,H,I,rfl,q⟩
 .cases c;cases f;show(qba I n).2 X.A a b k e (by lk) _ _ _ _ ⟨.bl _,H,I,rfl,q⟩
 .cases c;cases f;obtain⟨_,g,vs,r,d⟩:=(show ObjOk X.prog X.w H s.heap a (.dK kvs) from I.hok a _ i);obtain⟨_,_,_,_,_,_,_,_,o⟩:=id d;show PySem.W.keq_eq g g d d (by lk) (fun _=>qb4 vs o vs fun _ h=>h) ?_;rw[YQ];show⟨.bl true,H,I,rfl,q⟩
theorem qaA(m:X.K=K)(t:X.A.units+100<cLine):OpR X (compareOp .NotEq) (qec K true):=by
 subst m;intro pins s σ H x y u v Q I c f h;rcases h with⟨j,l,q⟩ | ⟨a,b,k,n,rfl,rfl,p,e,q⟩ | ⟨a,kvs,rfl,rfl,i,q⟩
 .show(qdQ c f j l).2 _ _ _ _ ⟨.bl _,H,I,rfl,q⟩
 .cases c;cases f;show ne_refs I e (by lk) _ _ _ _ ⟨.bl _,H,I,rfl,q⟩
 .cases c;cases f;obtain⟨_,g,vs,r,d⟩:=(show ObjOk X.prog X.w H s.heap a (.dK kvs) from I.hok a _ i);obtain⟨_,_,_,_,_,_,_,_,o⟩:=id d;show PySem.W.keq_ne g g d d (by lk) (fun _=>qb4 vs o vs fun _ h=>h) ?_;rw[YQ];show⟨.bl false,H,I,rfl,q⟩
end
section
variable{X:Cx}{K:yg}
def qfb(K:yg):R2:=fun x y H Q=>rIx K x y H Q\/∃ a v,x=.ref a/\DGet H a y (some v)/\Q v H
theorem qv(f:X.K=K)(m:X.A.units+100<cLine):IxR X (qfb K):=by
 subst f;show IxR.or ix_seq ?_;intro d c pins s σ H x y v u Q I j l h i;obtain⟨a,z,rfl,g,q⟩:=h;cases j;show tail_any (dict_typeIs I g) PySem.F.slot_dict_getitem.lookup (d_getItem (by lk) I g l fun o n e b=>⟨z,H,e,b,q⟩) i
def rSetU:qen:=fun o i v H Q=>rSetL o i v H Q\/∃ a H',o=.ref a/\DPut H a i v H'/\Q H'
theorem ji(l:X.A.units+100<cLine):qeM X rSetU:=by
 intro pins s σ H o i v j f u Q I c b d h;rcases h with h | ⟨a,H',rfl,g,q⟩
 .show set_list pins s σ H o i v j f u Q I c b d h
 .cases c;show d_setItem (by lk) I g b d fun m e=>⟨H',e,q⟩
def qeg(K:yg)(b:Bool):R2:=fun x y H Q=>rIn K b x y H Q\/(∃ a o,y=.ref a/\DGet H a x o/\Q (.bl (if b then !o.isSome else o.isSome)) H) \/
 (∃ p xs e n,y=.ref p/\SqL K H p xs/\n<=60/\(∀ z∈xs,EqD K H n z x (e z))/\Q (.bl (if b then !xs.any e else xs.any e)) H)
theorem qdR{pins:List (Addr×Obj)}{σ:St}{H:Hp}{s:Shared}{xs:List V}{its:List Value}{x:V}{u:Value}{e:V->Bool}{n:Nat}{A:Around}(I:Inv X pins σ H s)(r:Vals xs its)(t:RelV x u)(p:A.units+n<cLine)(o:∀ z∈xs,EqD X.K H n z x (e z)) :
  ∃ g:Value->Bool,(∀ w,w∈its.toArray->SeqAt.EqAt A s w u (g w))/\its.toArray.any g=xs.any e:=by
 classical
 show⟨fun w=>decide (∃ z∈xs,RelV z w/\e z=true),fun w hw=>?_,?_⟩
 .have d:w∈its:=by simpa using hw
  obtain⟨j,c⟩:=xH.mp d;obtain⟨z,hz,a⟩:=qY r c;have i:=ye hz
  have m:decide (∃ z∈xs,RelV z w/\e z=true)=e z:=by
   cases q:e z with
   | true=>show yH ⟨z,i,a,q⟩
   | false =>
    show yl fun⟨v,_,f,l⟩=>?_;rw[RelV.inj f a,q] at l;cases l
  show SeqAt.EqAt A s w u (decide (∃ z∈xs,RelV z w/\e z=true));rw[m];show(qba I n).1 A z x (e z) w u (o z i) a t p
 .rw [Y8,xt];constructor
  .intro h;have h':its.any (fun w=>decide (∃ z∈xs,RelV z w/\e z=true))=true:=by simpa using h
   obtain⟨w,_,q⟩:=xt.mp h';obtain⟨z,hz,_,b⟩:=yk q;show⟨z,hz,b⟩
  .rintro ⟨z,hz,b⟩;obtain⟨j,c⟩:=xH.mp hz;obtain⟨w,hw,a⟩:=r.get c;have:its.any (fun w=>decide (∃ z∈xs,RelV z w/\e z=true))=true:=xt.mpr ⟨w,ye hw,yH ⟨z,hz,a,b⟩⟩;simpa using this
theorem qbI(j:X.K=K)(l:X.A.units+100<cLine):OpR X (compareOp .In) (qeg K false):=by
 subst j;intro pins s σ H x y u v Q I b c h;rcases h with h | ⟨a,o,rfl,g,q⟩ | ⟨p,xs,e,n,rfl,hl,hn,he,q⟩
 .show op_in_seq pins s σ H x y u v Q I b c h
 .cases c;show d_in (by lk) I g b fun m d=>⟨.bl _,H,d,rfl,q⟩
 .cases c;obtain⟨its,r,pl,hz⟩:=I.list hl;obtain⟨f,h1,i⟩:=qdR (A:=X.A.in1) I r b (by show X.A.units+1+n<cLine;lk) he;show SeqAt.in_listAt f pl.isList h1 (by rw[i];show⟨.bl _,H,I,rfl,q⟩)
theorem j5(j:X.K=K)(l:X.A.units+100<cLine):OpR X (compareOp .NotIn) (qeg K true):=by
 subst j;intro pins s σ H x y u v Q I b c h;rcases h with h | ⟨a,o,rfl,g,q⟩ | ⟨p,xs,e,n,rfl,hl,hn,he,q⟩
 .show op_notIn_seq pins s σ H x y u v Q I b c h
 .cases c;show d_notIn (by lk) I g b fun m d=>⟨.bl _,H,d,rfl,q⟩
 .cases c;obtain⟨its,r,pl,hz⟩:=I.list hl;obtain⟨f,h1,i⟩:=qdR (A:=X.A.in1) I r b (by show X.A.units+1+n<cLine;lk) he;show SeqAt.notIn_listAt f pl.isList h1 (by rw[i];show⟨.bl _,H,I,rfl,q⟩)
def rListU(K:yg):List V->Hp->VK->Prop:=fun xs H Q=>(∃ p ys,xs=[.ref p]/\(SqL K H p ys\/SqT K H p ys)/\∀ l,H l=none->Q (.ref l) (upd H l (.lst ys))) \/
 (∃ p kvs,xs=[.ref p]/\H p=some (.dK kvs)/\∀ l,H l=none->Q (.ref l) (upd H l (.lst (kvs.map fun a=>kV a.1)))) \/
 (∃ x,xs=[.str x]/\x.length<=1000/\∀ l,H l=none->Q (.ref l) (upd H l (.lst (x.cps.toList.map fun c=>.str ⟨#[c]⟩))))
theorem qaY{c d:Type}{F:c->d->Prop}:∀{l:List c} {m:List d} {j:Nat} {a:c},Paired F l m->l[j]?=some a->∃ b,m[j]?=some b/\F a b
 | _,_,_,_,.nil,e=>by simp at e
 | _,_,0,_,.cons r _,e=>by simp at e;subst e;show⟨_,rfl,r⟩
 | _,_,j+1,a,.cons _ t,e=>by
  obtain⟨b,h1,f⟩:=qaY (j:=j) (a:=a) t (by simpa using e);show⟨b,by simpa using h1,f⟩
theorem zr:∀{ys:List V} {us:List Value},ys.length=us.length->(∀(j:Nat) y u,ys[j]?=some y->us[j]?=some u->RelV y u)->Vals ys us
 | [],[],_,_=>.nil
 | [],_::_,h,_=>by cases h
 | _::_,[],h,_=>by cases h
 | y::ys,u::us,h,q=>.cons (q 0 y u rfl rfl) (zr (Nat.succ.inj h) fun j c b h1 a=>q (j+1) c b (by simpa using h1) (by simpa using a))
theorem qb5(G:X.K=K)(hc:X.calm=true):zA X (.type "list") (rListU K):=by
 subst G;intro pins s σ H xs us Q I r h;rcases h with h | ⟨p,kvs,rfl,ea,q⟩ | ⟨x,rfl,hx,q⟩
 .show call_list_of pins s σ H xs us Q I r h
 .obtain⟨u,rfl,L⟩:=qap r;cases L;obtain⟨hz,J,vs,C,d⟩:=(show ObjOk X.prog X.w H s.heap p (.dK kvs) from I.hok p _ ea);obtain⟨ep,n⟩:=d.dictAt;have hl:kvs.length=vs.length:=C.length;show PySem.W.kdl_call (PySem.W.kdl_dict (knd:=qI X.prog X.w) (kvs:=vs) (ep:=ep) J) (I.ok.hd hc) n (by rw[<- hl];show hz) fun h' tk a f kp e it=>?_;obtain⟨o,v⟩:=it
  have hv:Vals (kvs.map fun b=>kV b.1) a.toList:=by
   show zr (by rw[ya,hl,<- o];simp) fun j y u h1 g=>?_;obtain⟨k,x,l,E⟩:=v j u (by simpa using g);rw[yd] at h1
   cases A:kvs[j]? with
   | none=>rw[A] at h1;cases h1
   | some b =>
    rw[A] at h1;cases h1;obtain⟨N,B,F,M⟩:=qaY C A;rw[l] at B;cases B;have D:b.1=k:=F;show RelV (kV b.1) u;rw[D];rcases qE (show qbV k u=true from E) with⟨i,t,rfl,rfl⟩ | ⟨z,t,rfl,rfl⟩
    .show⟨t,rfl⟩
    .show⟨t,rfl⟩
  show⟨.ref s.heap.objs.size,_,I.laid (t':=tk) kp (yh _) (show ObjOk X.prog X.w _ h' _ (.lst (kvs.map fun b=>kV b.1)) from⟨by rw[ya];show hz,a.toList,f,hv,by simpa using e⟩),rfl,q _ (I.hok.fresh (yh _))⟩
 .obtain⟨u,rfl,t,rfl⟩:=qap r;have hsz:x.cps.size<=sizeLine:=yR (qi hx);show call_list_str (I.ok.hd hc) x t (fun h' tk a f kp e it=>?_) hsz;obtain⟨o,v⟩:=it
  have hv:Vals (x.cps.toList.map fun c=>V.str ⟨#[c]⟩) a.toList:=by
   show zr (by rw[ya];simp[o]) fun j y u h1 g=>?_;obtain⟨c,t',l,rfl⟩:=v j u (by simpa using g);rw[yd] at h1;have m:x.cps.toList[j]?=some c:=by simpa using l
   rw[m] at h1;cases h1;show⟨t',rfl⟩
  show⟨.ref s.heap.objs.size,_,I.laid (t':=tk) kp (yh _) (show ObjOk X.prog X.w _ h' _ (.lst (x.cps.toList.map fun c=>V.str ⟨#[c]⟩)) from⟨by rw[ya];simpa using hsz,a.toList,f,hv,by simpa using e⟩),rfl,q _ (I.hok.fresh (yh _))⟩
end
structure CMethOk(P:Program)(w:World)(K:yg)(mg:Str->Option Value)(base:Heap)(CX:CXT)(k:Nat)(C:Addr)(x m:Str)(ps:LS)(sp:Sp):Prop where
 ex:∃ f fd,FnOk P w K mg base CX k f fd ps sp/\CMeth K C m f/\Binds K fd ps []
 mg_:mg x=some (.ref C)
section
variable{X:Cx}{k:Nat}{C:Addr}{ps:LS}{sp:Sp}{x m:Str}{p pos apos:Pos}{e:Expr}{es:List Expr}{t:TA}
theorem pe_makeQ(D:MakeOk X.prog X.w X.K X.mg X.base CX0 k C x ps sp)(h:Room (k+1) X.A)(c:PA X (e::es) t)(g:Gl X x:=by rfl)(a:(x==("__debug__":Str))=false:=by decide)
  (d:starEach (e::es) X.env=(false,eval e X.env)::starEach es X.env:=by rfl) (b:(backTo pos (starEach es X.env)).any (·.1)=false:=by rfl):PE X (.Call (.Name x p) (e::es) [] pos) (qd6 C sp [] E0 t):=by
 obtain⟨f,i,F,M,hb⟩:=D.ex;show pe_make M F h g D.mg_ hb .nil qx c a d b
end
theorem own_eq_same{prog:Program}{w:World}{A:Around}{E:Value->Shared->Prop}{s:Shared}{K:yg}{x C:Addr}{ox:Obj}{od:Option Obj}{Q:Value->Shared->Prop}(m:A.units<cLine)(X:K.In s.heap)(I:PySem.W.InstAt s.heap x ox C od)
  (l:PySem.W.findIn K (.ref C) "__eq__"=some (some (.builtin "object.__eq__"))) (i:PySem.W.mroIn K C (.type "object")=some true) (h:Q (.bool true) s):wpAny (model prog w) A (richCompare .Eq (.ref x) (.ref x)) Q E s:=by
 have a:∀{g:Around} {f:Value->Shared->Prop},f (.bool true) s->wpAny (model prog w) g (call (.builtin "object.__eq__") [.ref x,.ref x]) f E s:=fun{g f} q=>by
  show Xk (xN PySem.F.slot_object_eq.plain PySem.F.entry_object_eq (@PySem.W.check_slot (model prog w) _ _ s "object.__eq__" "object" "__eq__" (.ref x) [.ref x] [] _ (by room) (by room) (I.type.andThen (xp X i)) (PySem.F.args_object_eq_2 _ _) ?_));show yr (yu (yr (wpAny_isSame_ref_self ?_)));show yu q
 have one:wpAny (model prog w) A (tryCompare (.ref x) "__eq__" (.ref x)) (fun r c=>∃ v,r=some v/\Q v c) E s:=by
  unfold tryCompare;show yr ?_;simp only[callSpecialIfBound?,bindSpecialIfBound?];show Yd (yr (yr (yr (I.type.here ((YT X l).here ?_)))));show yr (X4 (wpAny_ite ?_));have b:=PySem.F.slot_object_eq.bind (.ref x)
  have d:wpAny (model prog w) A (call (.builtin "object.__eq__") ([.ref x]++[.ref x])>>=fun v=>pure (some v)) (fun r c=>wpAny (model prog w) A (match r with | some .notImplemented | none=>pure none | some v=>pure (some v)) (fun r c=>∃ v,r=some v/\Q v c) E c) E s:=
   yr (a (yu (yu ⟨_,rfl,h⟩)))
  split
  .show yr (YK b (yu d))
  .show wpAny_tryCatch (yr (YK b (yu d)))
 unfold richCompare;simp only[oneThing_ref];show Yd (yr (wpAny_cRoomFor m ?_));show yr (I.type.here (yr (I.type.here ?_)));rw[yz (by simp)];show yr (yu ?_);simp only[YR,xT];show yr (Yz one (fun r c z=>?_) fun _ _ e=>e);obtain⟨v,rfl,j⟩:=z;show yu j
structure OEq(K:yg)(C:Addr):Prop where
 eq:PySem.W.findIn K (.ref C) "__eq__"=some (some (.builtin "object.__eq__"))
 ob:PySem.W.mroIn K C (.type "object")=some true
def qfc(K:yg):R2:=fun x y H Q=>qec K false x y H Q\/∃ a C dx fs,x=.ref a/\y=.ref a/\H a=some (.ins C dx fs)/\OEq K C/\Q (.bl true) H
theorem k_eqW{X:Cx}{K:yg}(d:X.K=K)(e:X.A.units+100<cLine):OpR X (compareOp .Eq) (qfc K):=by
 subst d;intro pins s σ H x y u v Q I b c h;rcases h with h | ⟨a,C,dx,fs,rfl,rfl,ea,oe,q⟩
 .show k_eqU rfl e pins s σ H x y u v Q I b c h
 .cases b;cases c;obtain⟨f,O,_⟩:=zZ I.hok ea;obtain⟨od,J,_⟩:=O.look;show own_eq_same (by lk) I.kIn J oe.eq oe.ob ⟨.bl true,H,I,rfl,q⟩
theorem jp{X:Cx}:MtR X "list.append" rAppend:=mt_append
theorem qbJ{X:Cx}:MtR X "list.pop" rPopAt:=mt_popAt
section
variable{D:Ends}{σ:St}{H:Hp}{Q:VK}{t u:TS}{te ta tb tc:TE}{tas:TA}{K:yg}{sp:Sp}{E:XK}{EK:St->XK}{C:Addr}{f m:Str}
theorem vFldU(h:ta σ H fun x a=>FlUR K f x a Q):qey K ta f σ H Q:=h
theorem vSFldU(h:te σ H fun y a=>ta σ a fun x b=>SFUR K f x y b (D.nx σ)):qez K ta te f D σ H:=h
theorem vXMake(h:tas σ H fun vs a=>vs.length<=1000/\∀ x,a x=none->sp (.ref x::vs) (upd a x (XN x C none)) (fun v b=>v=.non/\Q (.ref x) b) E):tXMake C sp E tas σ H Q:=h
theorem vMake(h:tas σ H fun vs a=>∀ x dx,a x=none->a dx=none->dx≠x->sp (.ref x::(vs++[])) (upd (upd a dx (.own x)) x (.ins C dx [])) (fun v b=>v=.non/\Q (.ref x) b) E):qd6 C sp [] E tas σ H Q:=h
theorem vMeth(h:ta σ H fun x a=>MeR C m x a (tas σ a fun vs b=>sp (x::(vs++[])) b Q E)):qcS C m sp [] E ta tas σ H Q:=h
theorem vVinit(h:tas σ H fun vs b=>∃ a C y,vs=[.ref a,y]/\b a=some (XN a C none)/\XAt K C/\Q .non b):tVinit K tas σ H Q:=h
theorem vCallS(h:tas σ H fun vs a=>sp vs a Q (EK σ)):tCallS sp EK tas σ H Q:=h
theorem vMethS(h:ta σ H fun x a=>MeR C m x a (tas σ a fun vs b=>sp (x::vs) b Q (EK σ))):tMethS C m sp EK ta tas σ H Q:=h
theorem vMakeS(h:tas σ H fun vs a=>∀ x dx,a x=none->a dx=none->dx≠x->sp (.ref x::vs) (upd (upd a dx (.own x)) x (.ins C dx [])) (fun v b=>v=.non/\Q (.ref x) b) (EK σ)):tMakeS C sp EK tas σ H Q:=h
theorem vRaise(h:te σ H fun x b=>∃ a C dx,x=.ref a/\b a=some (XN a C dx)/\XAt K C/\EK σ (.ref C) dx (upd b a (XO a C dx))):tRaise K EK te D σ H:=h
theorem qdA{x y:V}{t a:Value}{b:Bool}(ty:TyX K H x t)(c:qbF y=some a)(hb:PySem.W.kitOne K t a=some b)(h:Q (.bl b) H):qeA K [x,y] H Q:=⟨x,y,t,a,b,rfl,ty,c,hb,h⟩
end
section
variable{prog:Program}{w:World}{A:Around}{E:Value->Shared->Prop}{s:Shared}
theorem none_dict{a:Addr}{Q:Value->Shared->Prop}(d:s.TypeIs (.ref a) "dict")(e:A.units<cLine)(h:Q (.bool false) s):wpAny (model prog w) A (richCompare .Eq .none (.ref a)) Q E s:=by
 show SeqAt.rc_eq_decline_or (k:=false) rfl d (by decide) PySem.F.sub_dict_NoneType YD PySem.F.slot_dict_eq_refl
  (fun _ c=>call_gives YD rfl PySem.F.entry_NoneType_eq (PySem.F.args_NoneType_eq_2 _ _) (SeqAt.NoneType___eq___none_ref_0 a) c) (fun f c=>?_) (fun _ c=>YK (rfl:isSame .none (.ref a)=pure false) c) (.inr e) h
 show Xl PySem.F.slot_dict_eq_refl d PySem.F.entry_dict_eq ?_ (PySem.F.args_dict_eq_2 _ _);show wpAny _ _ (Builtin.Dict.dictSlotArgs "__eq__" ⟨[.ref a,.none],[]⟩>>=_) _ _ s;show yr ?_;unfold Builtin.Dict.dictSlotArgs;show yr (wpAny_notOrdered_dict d ?_);show wpAny _ _ (pure (Value.ref a,Value.none)) _ _ s;show yu ?_;show yr (wpAny_isInstance (T:="NoneType") (b:=false) rfl PySem.F.sub_NoneType_dict ?_);simp only[Bool.not_false,xV];show yr (wpAny_rule (yu ⟨_,rfl,c⟩))
theorem none_own{K:yg}{x C:Addr}{ox:Obj}{od:Option Obj}{Q:Value->Shared->Prop}(j:A.units<cLine)(X:K.In s.heap)(I:PySem.W.InstAt s.heap x ox C od)(g:OEq K C)(i:PySem.W.mroIn K C (.type "NoneType")=some false)
  (h:Q (.bool false) s):wpAny (model prog w) A (richCompare .Eq .none (.ref x)) Q E s:=by
 have l:wpAny (model prog w) A (tryCompare .none "__eq__" (.ref x)) (fun r a=>r=none/\a=s) E s:=by
  unfold tryCompare;show yr ?_;simp only[callSpecialIfBound?,bindSpecialIfBound?];show Yd (yr (yr ?_));show yr (YK (rfl:typeOf .none=pure (.type "NoneType")) ?_);show YK YD.lookup ?_;show yr (X4 (wpAny_ite ?_))
  have d:wpAny (model prog w) A (call (.builtin "NoneType.__eq__") ([.none]++[.ref x])>>=fun v=>pure (some v)) (fun r a=>wpAny (model prog w) A (match r with | some .notImplemented | none=>pure none | some v=>pure (some v)) (fun r a=>r=none/\a=s) E a) E s:=
   yr (call_gives YD rfl PySem.F.entry_NoneType_eq (PySem.F.args_NoneType_eq_2 _ _) (SeqAt.NoneType___eq___none_ref_0 x) (yu (yu ⟨rfl,rfl⟩)))
  split
  .show yr (YK (YD.bind .none) (yu d))
  .show wpAny_tryCatch (yr (YK (YD.bind .none) (yu d)))
 have m:wpAny (model prog w) A (tryCompare (.ref x) "__eq__" .none) (fun r a=>r=none/\a=s) E s:=by
  unfold tryCompare;show yr ?_;simp only[callSpecialIfBound?,bindSpecialIfBound?];show Yd (yr (yr (yr (I.type.here ((YT X g.eq).here ?_)))));show yr (X4 (wpAny_ite ?_));have b:=PySem.F.slot_object_eq.bind (.ref x)
  have c:∀{f:Value->Shared->Prop},f .notImplemented s->wpAny (model prog w) A (call (.builtin "object.__eq__") [.ref x,.none]) f E s:=fun{f} q=>by
   show Xk (xN PySem.F.slot_object_eq.plain PySem.F.entry_object_eq (@PySem.W.check_slot (model prog w) _ _ s "object.__eq__" "object" "__eq__" (.ref x) [.none] [] _ (by room) (by room) (I.type.andThen (xp X g.ob)) (PySem.F.args_object_eq_2 _ _) ?_));show yr (yu (yr (YK (rfl:isSame (.ref x) .none=pure false) ?_)));show yu q
  have d:wpAny (model prog w) A (call (.builtin "object.__eq__") ([.ref x]++[.none])>>=fun v=>pure (some v)) (fun r a=>wpAny (model prog w) A (match r with | some .notImplemented | none=>pure none | some v=>pure (some v)) (fun r a=>r=none/\a=s) E a) E s:=
   yr (c (yu (yu ⟨rfl,rfl⟩)))
  split
  .show yr (YK b (yu d))
  .show wpAny_tryCatch (yr (YK b (yu d)))
 unfold richCompare;show Yd (yr (wpAny_cRoomFor j ?_));show wpAny _ _ (typeOf .none>>=_) _ _ _;show yr (YK (rfl:typeOf .none=pure (.type "NoneType")) (yr (I.type.here ?_)));rw[yF (by rfl)];show yr ((xp X i).here ?_);simp only[YR,xT];show yr (Yz l (fun r a z=>?_) fun _ _ e=>e);obtain⟨rfl,rfl⟩:=z;simp only[Bool.not_false,xV];show yr (Yz m (fun r a z=>?_) fun _ _ e=>e);obtain⟨rfl,rfl⟩:=z;show yr (wpAny_rule (yr (YK (rfl:isSame .none (.ref x)=pure false) (yu h))))
end
def rNoneRef(K:yg):R2:=fun x y H Q=>∃ a,x=.non/\y=.ref a/\((∃ xs,SqL K H a xs\/SqT K H a xs)\/(∃ kvs,H a=some (.dK kvs))\/∃ C dx fs,H a=some (.ins C dx fs)/\OEq K C/\PySem.W.mroIn K C (.type "NoneType")=some false)/\Q (.bl false) H
def qdB(K:yg):R2:=fun x y H Q=>qfc K x y H Q\/rNoneRef K x y H Q
theorem zB{X:Cx}{K:yg}(e:X.K=K)(j:X.A.units+100<cLine):OpR X (compareOp .Eq) (qdB K):=by
 intro pins s σ H x y u v Q I f g h;rcases h with h | ⟨a,rfl,rfl,h,q⟩
 .show k_eqW e j pins s σ H x y u v Q I f g h
 .subst e;cases f;cases g;have b:EP X pins σ Q (.bool false) s:=⟨.bl false,H,I,rfl,q⟩;rcases h with⟨xs,hl | hl⟩ | ⟨kvs,c⟩ | ⟨C,dx,fs,c,l,i⟩
  .obtain⟨its,r,pl,_⟩:=I.list hl;show SeqAt.RcAt.none_list pl.isList (by lk) _ _ _ _ b
  .obtain⟨its,r,pl,_⟩:=I.tuple hl;show SeqAt.RcAt.none_tuple pl (by lk) _ _ _ _ b
  .obtain⟨_,_,vs,_,d⟩:=(show ObjOk X.prog X.w H s.heap a (.dK kvs) from I.hok a _ c);show none_dict d.typeIs (by lk) b
  .obtain⟨m,O,_⟩:=zZ I.hok c;obtain⟨od,J,_⟩:=O.look;show none_own (by lk) I.kIn J l i b
def XL(K:yg)(C:Addr)(d:List Value):Prop:=∃ l m N bs a sn c ab b e f g h i j,K.lookup C=some (excClassObj l m C N bs d a sn c ab b e f g h i j "ValueError.__new__")
section
variable{K:yg}{C D:Addr}{bm bn:List Value}
end
end L2
namespace HT
open PySem PySem.Spec PyProof.Rows
section
variable{prog:Program}{w:World}{A:Around}{E:Value->Shared->Prop}{s:Shared}
end
end HT
namespace L2
open PySem PySem.Spec PyProof.Rows
variable{H:Hp}{σ:St}
def tRev(K:yg)(d:TE)(e:TO):TE:=fun σ H Q=>d σ H fun x c=>e σ c fun o b=>o=some (-1)/\∃ a y z,x=.ref a/\SqT K b a [y,z]/\∀ p,b p=none->Q (.ref p) (upd b p (.tup [z,y]))
theorem vRev{K:yg}{c:TE}{d:TO}{Q:VK}(h:c σ H fun x e=>d σ e fun o b=>o=some (-1)/\∃ a y z,x=.ref a/\SqT K b a [y,z]/\∀ p,b p=none->Q (.ref p) (upd b p (.tup [z,y]))):tRev K c d σ H Q:=h
section
variable{X:Cx}{K:yg}{e st:Expr}{te:TE}{ts:TO}{p2 pos:Pos}
end
theorem Inv.turnedL{X:Cx}{a:List (Addr×Obj)}{s:Shared}{h':Heap}{t':Nat}{fp:LI}(I:Inv X a σ H s)(k:∀ b o,b∉fp->s.heap.get? b=some o->h'.get? b=some o)(f:∀ b∈fp,qbY X a H b):Inv X a σ H { s with heap:=h',toks:=t' }:=by
 have d:∀ b u,H b=some u->b∉fp:=fun b u e z=>by rw[(f b z).1] at e;cases e
 have p:X.env.locals∉fp:=fun z=>(f _ z).2.1 rfl;show I.step (g':=s.gens) (d':=s.drawn) (ch:=fp) (fun b hb=>?_) (fun b o _ _ hc e _=>k b o hc e) (fun b o _ _ hc e _=>⟨o.slots,k b o hc e⟩) (fun _ _ _ _ n=>n)
  (fun b o hc e=>⟨o,k b o hc e⟩) (fun _ _ e=>e) (fun _ _ _ e=>e) (fun b ps e=>⟨#[],by rw[e];simp⟩) (fun m t=>?_) (fun b u e=>?_) I.bare
 .obtain⟨x,h,y,i,j,l⟩:=f b hb;show⟨i,h,j,l⟩
 .obtain⟨o,g,ep,w,r⟩:=t;show⟨o,g,ep,k _ o p w,r⟩
 .show(I.hok b u e).stay (fun c v hc q=>k c v ?_ q) (fun _ q=>q) fun _ _ q=>q;rcases hc with z | z
  .rw [z];show d b u e
  .show d c _ z
noncomputable def Ite(K:yg)(a:Addr):It:=
 ⟨fun i H=>∃ xs x,SqL K H a xs/\xs[i]?=some x,fun i H x H'=>∃ t y,x=.ref t/\H t=none/\H'=upd H t (.tup [.int i,y])/\∀ xs,SqL K H a xs->xs[i]?=some y,fun i H=>∃ xs,SqL K H a xs/\xs.length<=i⟩
theorem push_some{h:Heap}{o v:Obj}{b:Addr}(e:(h.push o).get? b=some v)(ne:b≠h.objs.size):h.get? b=some v:=(Heap.get?_push_cases e).elim (fun z=>absurd z.1 ne) fun z=>z
def iEnum(K:yg)(c:TA):TI:=fun σ H R=>c σ H fun vs b=>∃ a xs,vs=[.ref a]/\SqL K b a xs/\R (Ite K a) b
theorem vEnum{K:yg}{b:TA}{R:It->Hp->Prop}(h:b σ H fun vs c=>∃ a xs,vs=[.ref a]/\SqL K c a xs/\R (Ite K a) c):iEnum K b σ H R:=h
section
variable{X:Cx}
end
end L2
namespace L2
open PySem PySem.Spec PyProof.Rows PySem.Builtin PySem.Builtin.Str
theorem qds{a c:Nat}(h:a+100<c):a+1<c:=by lk
theorem vDGet2{e ty f:TE}{b:St}{H:Hp}{Q:VK}(h:e b H fun x c=>∃ a,x=.ref a/\IsD c a/\ty b c fun y g=>f b g fun z d=>∃ o,DGet d a y o/\Q (o.getD z) d):tDGet2 e ty f b H Q:=h
end L2
namespace L2
open PySem PySem.Spec PyProof.Rows
section
variable{X:Cx}{K:yg}
end
theorem slice_ixD(k n:Nat):Builtin.Str.strSliceIndices (some (k:Int)) none 1 n=(List.range (n-k)).map (k + ·):=by
 unfold Builtin.Str.strSliceIndices sliceRange;simp only[show(1:Int)>0 by decide,xV];rw[yz (show ¬ ((k:Int)<0) by lk)];have a:max 0 (min (k:Int) n)=((min k n:Nat):Int):=by lk
 rw[a];by_cases c:k<=n
 .rw [kg c];have b:(fun(j:Nat)=>((k:Int)+1*(j:Int)).toNat)=(k + ·):=by funext j;lk
  rw[b]
  congr 2
  split
  .rw [kr];lk
  .omega
 .rw [X5 (by lk),show n-k=0 by lk];rw[yz (by lk)];rfl
theorem qc6(a:Array Nat)(k:Nat):∀ m,k+m<=a.size->((List.range m).map (k + ·)).filterMap (a[·]?)=(a.toList.drop k).take m
 | 0,_=>by simp
 | m+1,h=>by
  rw[Xz,yL,List.filterMap_append,qc6 a k m (by lk),yK]
  congr 1
  have e:a[k+m]?=some a[k+m]:=YL (by lk);have b:(a.toList.drop k)[m]?=some a[k+m]:=by rw[xY,Y5];show e
  rw[b,yV,xo,e];rfl
theorem slice_drop(z:Str)(k:Nat):(Txt.slice z (some (k:Int)) none).cps.toList=z.cps.toList.drop k:=by
 unfold Txt.slice;rw[slice_ixD];have hz:z.length=z.cps.toList.length:=by simp[Str.length]
 split
 .rename_i h
  rw[ya,List.length_range] at h;have h:z.length-k=z.length:=by simpa using h
  by_cases a:k=0
  .subst a;rw[List.drop_zero]
  .have:z.cps.toList=[]:=List.length_eq_zero_iff.mp (by lk);rw[this];simp
 .show(List.filterMap _ _).toArray.toList=_;by_cases a:k<=z.length
  .have:=qc6 z.cps k (z.length-k) (by show k+(z.length-k)<=z.length;lk);rw[this];show Yv (by rw[YO];lk)
  .rw [show z.length-k=0 by lk,List.drop_of_length_le (by lk)];rfl
theorem qbK(xs:List V)(k:Nat):qcM xs (some (k:Int)) none=xs.drop k:=by
 unfold qcM;rw[HT.sIx_none,HT.sIx_nat];by_cases h:k<=xs.length
 .rw [kg h,Yv (by rw[YO];lk)]
 .rw [X5 (by lk),List.drop_length,List.drop_of_length_le (by lk)];simp
section
variable{X:Cx}{K:yg}
theorem qcp:∀{ns:LQ} {us:List Value},Vals (ns.map V.int) us->IntsAre us ns
 | [],_,.nil=>.nil
 | n::ns,_,.cons r t=>by
  obtain⟨tk,rfl⟩:=r;show .cons n tk (qcp t)
def rSum(K:yg):List V->Hp->VK->Prop:=fun xs H Q=>∃(p:Addr) (ns:LQ),xs=[.ref p]/\SqL K H p (ns.map V.int)/\Q (.int ns.sum) H
theorem k_sum(i:X.K=K)(hc:X.calm=true):zA X (.builtin "sum") (rSum K):=by
 subst i;intro e s o H xs us Q I r h;obtain⟨p,ns,rfl,l,q⟩:=h;obtain⟨u,rfl,m⟩:=qap r;cases m;obtain⟨b,n,pl,hz⟩:=I.list l;have c:=qcp n;obtain⟨xs,d⟩:=c.allInts.items;have a:s.heap.IsList p (intItems xs):=d ▸ pl.isList;show sum_intListG (I.ok.hd hc) a fun h' tk t' j=>?_
 have f:ns=xs.toList.map (·.1):=by
  rw[<- nums_intItems,<- d];show(show numsOf b.toArray.toList=ns from c.numsOf).symm
 have g:preSum (numAt xs) xs.size=ns.sum:=by
  rw[preSum_eq,Yv (by simp),f]
 rw[g];show⟨.int _,H,I.kept j,⟨_,rfl⟩,q⟩
theorem boot_sum:bootBuiltins "sum"=some (.builtin "sum"):=by room
end
end L2
namespace HT
open PySem PySem.Spec PyProof.Rows
section
variable{prog:Program}{w:World}{A:Around}{E:Value->Shared->Prop}{s:Shared}
end
end HT
namespace L2
open PySem PySem.Spec PyProof.Rows
def tStep(K:yg)(e:TE)(f:TO):TE:=fun c H Q=>e c H fun x d=>f c d fun o b=>∃ a y z,x=.ref a/\SqT K b a [y,z]/\((o=some (-1)/\∀ p,b p=none->Q (.ref p) (upd b p (.tup [z,y])))\/(o=some 1/\Q (.ref a) b))
theorem vStep{K:yg}{d:TE}{e:TO}{c:St}{H:Hp}{Q:VK}(h:d c H fun x f=>e c f fun o b=>∃ a y z,x=.ref a/\SqT K b a [y,z]/\((o=some (-1)/\∀ p,b p=none->Q (.ref p) (upd b p (.tup [z,y])))\/(o=some 1/\Q (.ref a) b))):tStep K d e c H Q:=h
section
variable{X:Cx}{K:yg}{e st:Expr}{te:TE}{ts:TO}{p2 pos:Pos}
end
def FG(K:yg)(a:Str)(st:Stmt):Prop:=∃ f b,PySem.W.nsIn K mainGlobals a=some (some (.ref f))/\Fun K a a st f b
def FM(K:yg)(C:Addr)(m b:Str)(st:Stmt):Prop:=∃ f a,PySem.W.findIn K (.ref C) m=some (some (.ref f))/\PySem.W.isFn K (.ref f)=true/\Fun K m b st f a
structure XQ(K:yg)(C:Addr):Prop where
 xa:PySem.W.findIn K (.ref C) "__getattribute__"=some (some (.builtin "BaseException.__getattribute__"))
 xb:PySem.W.findIn K (.ref C) "__getattr__"=some none
 xd:PySem.W.mroIn K C (.type "BaseException")=some true
 xe:PySem.W.mroIn K C (.type "object")=some true
 xf:PySem.W.hasDictIn K C=true
 xg:PySem.W.findIn K (.ref C) "__class__"=some (some (.builtin "object.__class__"))
 xh:PySem.W.findIn K (.ref C) "__setattr__"=some (some (.builtin "object.__setattr__"))
 p:PySem.W.keepIn K (.ref C)=true
section
variable{P:Program}{w:World}{K:yg}{mg:Str->Option Value}{base h:Heap}{CX:CXT}{k:Nat}{sp:Sp}{st:Stmt}{f:Addr}{fd:FuncData}{ps:LS}{nm m ql x:Str}{C:Addr}
theorem lN0{P:List Value->Prop}(h:P []):∀ us:List Value,us.length=0->P us:=fun us e=>by rw[List.eq_nil_of_length_eq_zero e];show h
theorem lNs{P:List Value->Prop}{n:Nat}(h:∀ a r,r.length=n->P (a::r)):∀ us:List Value,us.length=n+1->P us:=fun us e=>by
 cases us with
 |nil=>cases e
 |cons a r=>show h a r (Nat.succ.inj e)
theorem lN1{P:List Value->Prop}(h:∀ a,P [a]):∀ us:List Value,us.length=1->P us:=lNs fun a=>lN0 (h a)
theorem lN2{P:List Value->Prop}(h:∀ a b,P [a,b]):∀ us:List Value,us.length=2->P us:=lNs fun a=>lN1 (h a)
theorem lN3{P:List Value->Prop}(h:∀ a b c,P [a,b,c]):∀ us:List Value,us.length=3->P us:=lNs fun a=>lN2 (h a)
theorem lN4{P:List Value->Prop}(h:∀ a b c d,P [a,b,c,d]):∀ us:List Value,us.length=4->P us:=lNs fun a=>lN3 (h a)
theorem lN5{P:List Value->Prop}(h:∀ a b c d e,P [a,b,c,d,e]):∀ us:List Value,us.length=5->P us:=lNs fun a=>lN4 (h a)
abbrev BA(x ql:Str)(st:Stmt)(ps:LS):Prop:=∀(kV b d:Value) (c:Option Addr) (a ct:Value) (us:List Value),us.length=ps.length->bindArgs (PySem.W.fnOf x ql (zI st) (jU st) (qg st) .none kV b d c a ct) ⟨us,[]⟩=pure (ps.zip us)
theorem fg_mk(X:K.In h)(G:h.Ns mainGlobals mg)(a:PySem.W.nsIn K mainGlobals nm=some (some (.ref f)))(F:Fun K nm nm st f fd)(o:FnOk P w K mg base CX k f fd ps sp)
  (hb:BA nm nm st ps:=by first | (show fun _ _ _ _ _ _=>lN1 fun _=>rfl) | (show fun _ _ _ _ _ _=>lN2 fun _ _=>rfl) | (show fun _ _ _ _ _ _=>lN3 fun _ _ _=>rfl) | (show fun _ _ _ _ _ _=>lN4 fun _ _ _ _=>rfl)) :
  DefOk P w K mg base CX k nm ps sp:=⟨_,_,o,PySem.W.mg_of X G a,F.kp,F.binds hb⟩
theorem fm_mk(b:Cls K C)(a:PySem.W.findIn K (.ref C) m=some (some (.ref f)))(n:PySem.W.isFn K (.ref f)=true)(F:Fun K m ql st f fd)(o:FnOk P w K mg base CX k f fd ps sp)
  (hb:BA m ql st ps:=by first | (show fun _ _ _ _ _ _=>lN1 fun _=>rfl) | (show fun _ _ _ _ _ _=>lN2 fun _ _=>rfl) | (show fun _ _ _ _ _ _=>lN3 fun _ _ _=>rfl) | (show fun _ _ _ _ _ _=>lN4 fun _ _ _ _=>rfl)) :
  MethOk P w K mg base CX k C m ps sp:=⟨⟨_,_,o,⟨a,n,F.kp⟩,F.binds hb⟩,b⟩
theorem fw_mk(X:K.In h)(G:h.Ns mainGlobals mg)(c:PySem.W.nsIn K mainGlobals x=some (some (.ref C)))(b:PySem.W.makesIn K C=true)(d:PySem.W.keepIn K (.ref C)=true)(a:PySem.W.findIn K (.ref C) "__init__"=some (some (.ref f)))(n:PySem.W.isFn K (.ref f)=true)(F:Fun K "__init__" ql st f fd)(o:FnOk P w K mg base CX k f fd ps sp)
  (hb:BA "__init__" ql st ps:=by first | (show fun _ _ _ _ _ _=>lN1 fun _=>rfl) | (show fun _ _ _ _ _ _=>lN2 fun _ _=>rfl) | (show fun _ _ _ _ _ _=>lN3 fun _ _ _=>rfl)) :
  MakeOk P w K mg base CX k C x ps sp:=⟨⟨_,_,o,⟨b,a,n,d⟩,F.binds hb⟩,PySem.W.mg_of X G c⟩
end
end L2
namespace HT
open PySem PySem.Spec PyProof.Rows
section
variable{prog:Program}{w:World}{A:Around}{E:Value->Shared->Prop}{s:Shared}
end
end HT
namespace L2
open PySem PySem.Spec PyProof.Rows
variable{H:Hp}{R:It->Hp->Prop}{es:List Expr}{te:TE}{σ:St}
section
variable{X:Cx}{K:yg}{pos p:Pos}{x:Str}
end
section
variable{X:Cx}{K:yg}{e lo st:Expr}{te:TE}{tl ts:TO}{p2 pos:Pos}
def qfd(K:yg)(te:TE):TI:=fun σ H R=>te σ H fun v b=>∃ a xs,v=.ref a/\SqL K b a xs/\R (Itl K a) b
theorem viLst{K:yg}(h:te σ H fun v b=>∃ a xs,v=.ref a/\SqL K b a xs/\R (Itl K a) b):qfd K te σ H R:=h
theorem ki_lst{t:Expr}(j:X.K=K)(l:PE X e te):PI X t e (qfd K te):=by
 subst j;intro c s σ H R I h;show thn (l c s σ H _ I h) fun v d ⟨y,g,f,r,a,xs,i,m,q⟩=>?_;subst i;cases r
 have fp:∀ b∈[d.heap.objs.size],qbY X c g b:=fun b hb=>by
  have e:b=d.heap.objs.size:=by simpa using hb
  subst e;show f.fpOk (yh _) (f.hok.fresh (yh _))
 obtain⟨n,u,p,hz⟩:=f.list m;show XV p.isList ⟨d.heap.objs.size,[d.heap.objs.size],_,_,g,rfl,f.kept (t':=d.toks) fun b o e=>yt _ e,qbr a _,⟨_,yJ _ rfl,rfl,rfl⟩,fp,q⟩
end
noncomputable def Itz(K:yg)(a b:Addr):It:=
 ⟨fun i H=>∃ xs ys x y,SqL K H a xs/\SqL K H b ys/\xs[i]?=some x/\ys[i]?=some y,fun i H v H'=>∃ t x y,v=.ref t/\H t=none/\H'=upd H t (.tup [x,y])/\(∀ xs,SqL K H a xs->xs[i]?=some x)/\∀ ys,SqL K H b ys->ys[i]?=some y,fun i H=>∃ xs ys,SqL K H a xs/\SqL K H b ys/\(xs.length<=i\/ys.length<=i)⟩
def tnZ(z TI TO c d a b:Addr)(i:Nat)(h:Heap):Prop:=IsZip h z TI TO .none/\IsPair h TI (.ref c) (.ref d)/\(∃ u v,IsPair h TO u v)/\h.IsListIter c a i/\h.IsListIter d b i
theorem turn_zip{P:Program}{w:World}{K:yg}{x1}{pos:Pos}(a b z TI TO n q:Addr)(D:ZipApart z TI TO n q a b):Turn P w K (.Tuple es x1 pos) (Itz K a b) [z,TI,TO,n,q] z (tnZ z TI TO n q a b) where
 mem:=by simp
 obj:=fun i h st c hc=>by
  obtain⟨hz,d,⟨u,v,g⟩,⟨o1,e1,c1,d1⟩,⟨o2,e2,c2,d2⟩⟩:=st;simp only[yE,yZ,Y2] at hc;rcases hc with rfl | rfl | rfl | rfl | rfl
  .show⟨_,hz,fun v z=>by have F:Data.fields _=Data.cell v:=z;cases F⟩
  .show⟨_,d,fun v z=>by have F:Data.seq _ _=Data.cell v:=z;cases F⟩
  .show⟨_,g,fun v z=>by have F:Data.seq _ _=Data.cell v:=z;cases F⟩
  .show⟨o1,e1,fun v z=>by rw[d1] at z;cases z⟩
  .show⟨o2,e2,fun v z=>by rw[d2] at z;cases z⟩
 keep:=fun i h h' st k=>by
  obtain⟨hz,d,⟨u,v,g⟩,h1,t⟩:=st;show⟨k z (by simp) _ hz,k TI (by simp) _ d,⟨u,v,k TO (by simp) _ g⟩,h1.at fun o x=>k n (by simp) o x,t.at fun o x=>k q (by simp) o x⟩
 item:=by
  intro X S hw R hc i l s σ H E I T st U;subst S hw R;obtain⟨hz,d,⟨u,v,g⟩,h1,t⟩:=st;obtain⟨xs,ys,x,y,J,m,hx,hy⟩:=U;obtain⟨ad,rv,p,_⟩:=I.list J;obtain⟨C,r,p2,_⟩:=I.list m;obtain⟨L,W,ag⟩:=rv.get hx;obtain⟨M,Y,ah⟩:=r.get hy;show wpAny_pyNext_zip_item D hz d g h1 t p.isList p2.isList (x:=L) (y:=M) (by simpa using W) (by simpa using Y) fun h' ab A N O hT hsz G=>?_;show⟨_,rfl,wpAny_letOwnedTupleGo_zip ab fun h3 ac j=>?_⟩;have fre:H s.heap.objs.size=none:=I.hok.fresh (yh _);have lt:∀{c o},s.heap.get? c=some o->s.heap.objs.size≠c:=fun e=>yW (yD e);have nz:=lt hz;have ae:=lt d;have af:=lt g;have n1:s.heap.objs.size≠n:=by obtain⟨_,e,_⟩:=h1;show lt e
  have n2:s.heap.objs.size≠q:=by obtain⟨_,e,_⟩:=t;show lt e
  have I1:Inv X l σ (upd H s.heap.objs.size (.tup [x,y])) { s with heap:=s.heap.push { cls:=.type "tuple",data:=.seq #[L,M] },toks:=s.toks }:=
   I.laid (fun b u e=>yt _ e) (yh _) ⟨by show 2<=sizeLine;decide,[L,M],.cons ag (.cons ah .nil),⟨_,yJ _ rfl,rfl,_,rfl⟩⟩
  have B:∀ c∈[z,TI,TO,n,q],qbY X l (upd H s.heap.objs.size (.tup [x,y])) c:=fun c hc=>by
   obtain⟨f0,f⟩:=T c hc;show⟨?_,f⟩;rw[qh]
   .show f0
   .simp only[yE,yZ,Y2] at hc;rcases hc with rfl | rfl | rfl | rfl | rfl
    .show nz.symm
    .show ae.symm
    .show af.symm
    .show n1.symm
    .show n2.symm
  have kk:∀ c o,c∉[z,TI,TO,n,q]->(s.heap.push { cls:=.type "tuple",data:=.seq #[L,M] }).get? c=some o->h3.get? c=some o:=fun c o hc e=>by
   simp only[yE,yZ,Y2,not_or] at hc;show j.extBut _ _ hc.1 ?_;by_cases hz:c=s.heap.objs.size
   .subst hz;rw[yJ _ rfl] at e;cases e;show hT
   .show G c o hc.1 hc.2.2.1 hc.2.2.2.1 hc.2.2.2.2 (push_some e hz)
  have I2:=I1.turnedL (h':=h3) (t':=s.toks) (fp:=[z,TI,TO,n,q]) kk B;show⟨.ref s.heap.objs.size,_,I2,rfl,⟨_,x,y,rfl,fre,rfl,fun ai Z=>by rw[I.list_inj Z J];show hx,fun ys' aa=>by rw[I.list_inj aa m];show hy⟩,⟨ac,?_,⟨_,_,j.extBut _ _ D.TOz A⟩,N.extBut j.extBut D.i1z,O.extBut j.extBut D.i2z⟩,fun c hc=>(B c hc).1⟩;show j.extBut _ _ D.TIz (G _ _ D.TIz D.TITO D.TIi1 D.TIi2 d)
 done:=by
  intro X S hw R hc i l s σ H E I T st U;subst S hw R;obtain⟨hz,d,⟨u,v,g⟩,h1,t⟩:=st;obtain⟨xs,ys,J,m,he⟩:=U;obtain⟨ad,rv,p,_⟩:=I.list J;obtain⟨C,r,p2,_⟩:=I.list m;have l1:=rv.length;have l2:=r.length;show wpAny_pyNext_zip_end (I.ok.hd hc) D hz d g h1 t p.isList p2.isList (he.imp (fun e=>xB (by simp;lk)) fun e=>xB (by simp;lk)) fun h' G=>⟨rfl,I.turnedL (t':=s.toks) (fp:=[z,TI,TO,n,q]) (fun c o hc e=>?_) T⟩;simp only[yE,yZ,Y2,not_or] at hc;show G c o hc.1 hc.2.2.1 hc.2.2.2.1 hc.2.2.2.2 e
 self:=fun _ _ _ _ _ st h=>X6 st.1 h
theorem qcq:bootBuiltins "zip"=some (.type "zip"):=by room
def qfe(K:yg)(d:TA):TI:=fun σ H R=>d σ H fun vs c=>∃ a b xs ys,vs=[.ref a,.ref b]/\SqL K c a xs/\SqL K c b ys/\R (Itz K a b) c
theorem vZip{K:yg}{c:TA}(h:c σ H fun vs d=>∃ a b xs ys,vs=[.ref a,.ref b]/\SqL K d a xs/\SqL K d b ys/\R (Itz K a b) d):qfe K c σ H R:=h
theorem pi_zip{X:Cx}{K:yg}{a b:Expr}{x:TA}{x1}{N p pos:Pos}(z:X.K=K)(B:Gl X "zip")(D:X.mg "zip"=none)(A:PA X [a,b] x)(F:starEach [a,b] X.env=[(false,eval a X.env),(false,eval b X.env)]:=by rfl)(g:starEach [b] X.env=[(false,eval b X.env)]:=by rfl):PI X (.Tuple es x1 N) (.Call (.Name "zip" p) [a,b] [] pos) (qfe K x):=by
 subst z;intro i s σ H R I h;show Call_ (qae I B D qcq (YG (thn (A pos i s σ H _ I h) fun us f ⟨vs,y,d,L,J⟩=>?_) (by rw[F,g]) (by rw[g];rfl)));obtain⟨a,b,xs,ys,e,E,t,q⟩:=J;subst e
 cases L with
 | cons r rr =>
  cases rr with
  | cons r2 rr =>
   cases rr;cases r;cases r2;obtain⟨G,O,pl,_⟩:=d.list E;obtain⟨w,M,j,_⟩:=d.list t;have u:a<f.heap.objs.size:=by obtain⟨_,e,_⟩:=pl.isList;show yD e
   have v:b<f.heap.objs.size:=by obtain⟨_,e,_⟩:=j.isList;show yD e
   show call_zip_2 pl.isList j.isList fun h' hz l m n o hsz C=>X6 hz ?_;show⟨_,[f.heap.objs.size+4,f.heap.objs.size+2,f.heap.objs.size+3,f.heap.objs.size,f.heap.objs.size+1],_,_,y,rfl,d.kept (t':=f.toks) C,turn_zip a b _ _ _ _ _ (PySem.W.ktu_apart _ _ _ u v),⟨hz,l,⟨_,_,m⟩,n,o⟩,fun c hc=>?_,q⟩;simp only[yE,yZ,Y2] at hc;rcases hc with rfl | rfl | rfl | rfl | rfl
   .show d.fpOk (YS _ _) (d.hok.fresh (YS _ _))
   .show d.fpOk (YS _ _) (d.hok.fresh (YS _ _))
   .show d.fpOk (YS _ _) (d.hok.fresh (YS _ _))
   .show d.fpOk (yh _) (d.hok.fresh (yh _))
   .show d.fpOk (Xs _) (d.hok.fresh (Xs _))
def qff(K:yg)(te:TE)(d:TO):TE:=fun σ H Q=>te σ H fun x c=>d σ c fun o b=>o=some (-1)/\∃ a xs,x=.ref a/\SqL K b a xs/\∀ p,b p=none->Q (.ref p) (upd b p (.lst xs.reverse))
theorem vRvL{K:yg}{c:TO}{Q:VK}(h:te σ H fun x d=>c σ d fun o b=>o=some (-1)/\∃ a xs,x=.ref a/\SqL K b a xs/\∀ p,b p=none->Q (.ref p) (upd b p (.lst xs.reverse))):qff K te c σ H Q:=h
theorem qcr:∀{xs:List V} {us:List Value},Vals xs us->Vals xs.reverse us.reverse
 | _,_,.nil=>.nil
 | _,_,.cons r t=>by
  rw[List.reverse_cons,List.reverse_cons];show(qcr t).append (.cons r .nil)
section
variable{X:Cx}{K:yg}{e st:Expr}{te:TE}{ts:TO}{p2 pos:Pos}
theorem pe_rvL(y:X.K=K)(z:PE X e te)(B:PO X (some st) ts):PE X (.Subscript e (.Slice none none (some st) p2) pos) (qff K te ts):=by
 subst y;intro c s σ H Q I h;show Subscript_ (thn (z c s σ H _ I h) fun v J ⟨x,l,n,G,F⟩=>?_);show wpAny_Slice ?_;rw[evalPart_none];show yu ?_;show yu ?_;show thn (B c J σ l _ n F) fun j d ⟨o,m,p,pt,t,a,xs,u,C,q⟩=>?_;subst t u;cases G;have f:Inv X c σ m { d with heap:=d.heap.push { cls:=.type "slice",data:=.fields #[.none,.none,j] } }:=p.kept (t':=d.toks) fun b E q=>yt _ q;obtain⟨D,r,i,hz⟩:=f.list C;have g:=r.length;show wpAny (model X.prog X.w) X.A (subscriptTail e (.Slice none none (some st) p2) (.ref a) (.ref d.heap.objs.size)) (EP X c σ Q) X.xe { d with heap:=d.heap.push { cls:=.type "slice",data:=.fields #[.none,.none,j] } };show tail_any (ops:=[.ref a,.ref d.heap.objs.size]) i.isList.typeIs XT.lookup (wpAny_getItem_list_slice i.isList (Heap.IsSliceOf.new ..) .none .none pt (by decide) ?_ (by rw[yv]<;>lk)) (by with_unfolding_all rfl);rw[PySem.W.krv_pick];show⟨.ref _,_,f.laid (t':=d.toks) (o:=.lst xs.reverse) (fun b E q=>yt _ q) (yh _) ?_,rfl,q _ (f.hok.fresh (yh _))⟩;show⟨by rw[xq];show hz,_,0,qcr r,yJ _ rfl⟩
end
section
variable{X:Cx}{a:Expr}{ta:TA}{p p2 pos pos2:Pos}
end
end L2
namespace L2
structure Sb(V:Nat->Prop):Prop where
 z:V 0
 a:∀ x y,V x->V y->V (x ^^^ y)
def jn(V:Nat->Prop)(x:Nat):Nat->Prop:=fun y=>V y\/V (y ^^^ x)
def Spn:LN->Nat->Prop
 | []=>fun y=>y=0
 | a::L=>jn (Spn L) a
open Classical in
def Bnd(b n v:Nat):Prop:=∀ i,v.testBit i=true->b<=i/\i<b+n
open Classical in
noncomputable def swp:Nat->Nat->LN->Nat
 | 0,_,_=>0
 | n+1,b,L=>match L.filter (fun v=>v.testBit b) with
  | []=>swp n (b+1) L
  | p::t=>1+swp n (b+1) (L.filter (fun v=>!v.testBit b)++t.map fun v=>v ^^^ p)
open Classical in
noncomputable def rk(L:LN):Nat:=swp 30 0 L
open Classical in
noncomputable def les:Nat×Nat->List (Nat×Nat)->Nat×Nat
 | s,[]=>s
 | s,o::os=>if s.1 ^^^ o.1<s.1 then les (s.1 ^^^ o.1,s.2 ^^^ o.2) os else les s os
structure Ech(os:List (Nat×Nat)):Prop where
 nz:∀ o∈os,o.1≠0
 pw:os.Pairwise fun a b=>b.1.testBit a.1.log2=false
noncomputable def csm:LN->Nat->Nat->Nat
 | [],_,_=>0
 | a::L,k,c=>(if c.testBit k then a else 0) ^^^ csm L (k+1) c
noncomputable def stp(st:List (Nat×Nat))(n v:Nat):List (Nat×Nat):=if (les (v,1 <<< n) st).1=0 then st else st++[les (v,1 <<< n) st]
structure Stp(L:LN)(n:Nat)(st:List (Nat×Nat)):Prop where
 ech:Ech st
 sum:∀ o∈st,csm L 0 o.2=o.1
 low:∀ o∈st,o.2<2 ^ n
 lt:∀ o∈st,o.1<2 ^ 30
 spn:∀ v,Spn (st.map (·.1)) v↔Spn (L.take n) v
 free:st.map (fun o=>o.2.log2)=(List.range n).filter fun i=>decide (rk (L.take i)<rk (L.take (i+1)))
 len:st.length<=n
end L2
namespace L2
open PySem PySem.Spec PyProof.Rows
variable{i j:Nat}
section
variable{X:Cx}
end
def Fl:V->Prop
 | .non=>True
 | .bl _=>True
 | .int i=>-999999999999<=i/\i<=999999999999
 | _=>False
noncomputable def fD:V->PyData
 | .non=>.none
 | .bl b=>.bool b
 | .int i=>.int i
 | .str x=>.str x
 | _=>.none
def FlS(xs:List V):Prop:=xs.length<=1000/\∀ x∈xs,Fl x
def ShwT(H:Hp)(v:V)(t:Str):Prop:=match v with
 | .non=>t="None"
 | .bl b=>t=if b then Str.ofString "True" else Str.ofString "False"
 | .int i=>i.natAbs.log2<1920/\t=toString i
 | .str x=>(reprText x).length<=sizeLine/\t=reprText x
 | .ref p=>(∃ xs,H p=some (.lst xs)/\FlS xs/\t=(PyData.list (xs.map fD)).shown)\/∃ xs,H p=some (.tup xs)/\FlS xs/\t=(PyData.tuple (xs.map fD)).shown
 | _=>False
section
variable{X:Cx}{K:yg}
end
theorem gk_two{b n:Nat}{K:yg}(o:i<b:=by decide)(p:j<b:=by decide):qc0 b (qeI K n (qd3 (qaJ i) (qd3 (qaJ j) qe3))):=by
 intro x t H Q ⟨a,xs,e,h,g,v,r,c,m,l,d,q⟩;obtain⟨f,q⟩:=q;show⟨a,xs,e,h,g,v,r,c,m,l,d,f,q,?_,fun k s=>?_⟩
 .rw [Xv,Xv]
 .rw [xj (by lk),xj (by lk)]
section
variable{K:yg}{a:Addr}{xs:List V}{g:TG}{tc:TT}{te:TE}{σ':St}{H1:Hp}{Q:V->Hp->Prop}
end
section
variable{K:yg}{a b:Addr}{xs ys:List V}{g:TG}{tc:TT}{te:TE}{σ':St}{H1:Hp}{Q:V->Hp->Prop}
theorem comp_zip(E:ys.length<=xs.length)(d:Nat->List V->Hp->Prop)(s:d 0 [] H1)(hl:∀ i c H,i<=ys.length->d i c H->SqL K H a xs/\SqL K H b ys)
  (A:∀ i x y t c H,xs[i]?=some x->ys[i]?=some y->H t=none->d i c H->g (.ref t) σ' (upd H t (.tup [x,y])) fun h o=>tc h o fun b n=>if b=true then te h n fun v r=>c.length<sizeLine/\d (i+1) (c++[v]) r else d (i+1) c n)
  (w:∀ c H,d ys.length c H->c.length<=sizeLine/\∀ p,H p=none->Q (.ref p) (upd H p (.lst c))):qcJ (Itz K a b) g tc te σ' H1 Q:=by
 show⟨fun i m c H=>m=ys.length-i/\i<=ys.length/\d i c H,⟨ys.length,by simp,Yi _,s⟩,?_⟩;rintro i m c H ⟨rfl,z,p⟩;obtain⟨q,l⟩:=hl i c H z p;by_cases f:i<ys.length
 .have j:i<xs.length:=by lk
  show .inr ⟨⟨xs,ys,xs[i],ys[i],q,l,by simp[j],by simp[f]⟩,d (i+1),fun ys' H' C=>⟨ys.length-(i+1),by lk,rfl,f,C⟩,fun x H' y=>?_⟩;obtain⟨t,v,u,rfl,B,rfl,y,D⟩:=y;show A i v u t c _ (y xs q) (D ys l) B p
 .have e:i=ys.length:=by lk
  subst e;show .inl ⟨⟨xs,ys,q,l,.inr (yh _)⟩,w c H p⟩
end
section
variable{X:Cx}{K:yg}
end
section
variable{X:Cx}{K:yg}{e st:Expr}{te:TE}{ts:TO}{p2 pos:Pos}
end
mutual
inductive Dat(H:Hp):V->PyData->Prop
 | non:Dat H .non .none
 | bl (b:Bool):Dat H (.bl b) (.bool b)
 | int (i:Int):Dat H (.int i) (.int i)
 | str (x:Str):Dat H (.str x) (.str x)
 | lst {a:Addr} {xs:List V} {ds:List PyData}:H a=some (.lst xs)->DatS H xs ds->Dat H (.ref a) (.list ds)
 | tup {a:Addr} {xs:List V} {ds:List PyData}:H a=some (.tup xs)->DatS H xs ds->Dat H (.ref a) (.tuple ds)
 | dnil {a:Addr}:H a=some (.dK [])->Dat H (.ref a) (.dict [])
inductive DatS(H:Hp):List V->List PyData->Prop
 | nil:DatS H [] []
 | cons {v:V} {vs:List V} {d:PyData} {ds:List PyData}:Dat H v d->DatS H vs ds->DatS H (v::vs) (d::ds)
end
structure Shw(d:PyData)(n m:Nat):Prop where
 s:d.showable=true
 l:d.leavesShort 13=true
 b:d.bulk<=n
 p:d.depth<=m
structure ShwS(ds:List PyData)(n m:Nat):Prop where
 s:PyData.showableAll ds=true
 l:PyData.leavesShortAll 13 ds=true
 b:PyData.bulkAll ds<=n
 p:PyData.depthAll ds<=m
section
variable{X:Cx}{K:yg}{pins:List (Addr×Obj)}{σ:List (Option V)}{H:Hp}{s:Shared}
end
section
variable{X:Cx}{tg elt iter:Expr}{ifs:List Expr}{scope sc1:Scope}{pos:Pos}{N N1:LS}{nl:Nat}{ixs:LN}{wi:TI}{g:TG}{tc:TT}{te:TE}{C1:Addr}{s1:Shared}{H1:Hp}{ex1:LI}
end
noncomputable def qbb(a:List (Key×V)):List (Key×V)->Bool
 | []=>true
 | (k,v)::r=>match jG a k with
  | none=>false
  | some y=>eqV v y&&qbb a r
def rEqDD:R2:=fun x y H Q=>∃ a b c d,x=.ref a/\y=.ref b/\H a=some (.dK c)/\H b=some (.dK d)/\(∀ p∈c,jF p.2=true)/\(∀ p∈d,jF p.2=true)/\Q (.bl (c.length==d.length&&qbb d c)) H
def rEqY(K:yg):R2:=fun x y H Q=>qdB K x y H Q\/rEqDD x y H Q
section
variable{X:Cx}{K:yg}
theorem valV_flat{b:List (Key×V)}(h:∀ p∈b,jF p.2=true){k:Key}{y:V}(e:jG b k=some y):jF y=true:=by
 have:∃ p∈b,p.2=y:=by
  unfold jG at e;obtain⟨p,a,rfl⟩:=yn.mp e;show⟨p,List.mem_of_find?_eq_some a,rfl⟩
 obtain⟨p,a,rfl⟩:=this;show h p a
theorem qc7{c:List (Addr×Obj)}{E:List (Option V)}{H:Hp}{s:Shared}(I:Inv X c E H s){A:Around}(l:A.units<cLine){d:List (Key×V)}{f:List (Key×Value)}(m:KV d f)(i:∀ p∈d,jF p.2=true):∀{g:List (Key×V)} {n:List (Key×Value)},KV g n->(∀ p∈g,jF p.2=true)->PySem.W.KeqHits A s f n (qbb d g)
 | [],_,.nil,_=>.nil
 | (k,v)::r,_,.cons (b:=q) h t,fa=>by
  obtain⟨k',u⟩:=q;obtain⟨j,hv⟩:=h;dsimp only at j hv;subst j;have C:=qc7 I l m i t fun p B=>fa p (yw _ B);have a:=m.val k;unfold qbb
  cases e:jG d k with
  | none =>
   rw[e] at a;have:valueAt f k=none:=by cases o:valueAt f k with | none=>rfl | some z=>rw[o] at a;cases a
   show .miss this
  | some y =>
   rw[e] at a;obtain⟨z,hz,D⟩:=RelO.some_of a;have x:=valV_flat i e;have w:=fa (k,v) yC;show .hit hz ((qba I 0).1 A v y _ u z (.flat w x) hv D l) C
theorem k_eqY(l:X.K=K)(m:X.A.units+100<cLine):OpR X (compareOp .Eq) (rEqY K):=by
 intro c s p H x y u v Q I f g h;rcases h with h | ⟨a,b,ka,kb,rfl,rfl,ha,hb,fa,fb,q⟩
 .show zB l m c s p H x y u v Q I f g h
 .cases f;cases g;obtain⟨_,n,r,d,i⟩:=qd8 I.hok ha;obtain⟨_,o,t,e,j⟩:=qd8 I.hok hb;show PySem.W.keq_eq n o i j (by lk) (fun _=>qc7 I (by show X.A.units+1<cLine;lk) e fb d fa) ?_;rw[<- Xp d,<- Xp e];show⟨.bl _,H,I,rfl,q⟩
theorem zH{e ty:TE}{b:St}{H:Hp}{Q:VK}(h:e b H fun x c=>∃ a,x=.ref a/\IsD c a/\ty b c fun y d=>∃ o,DGet d a y o/\Q (o.getD .non) d):qdL e ty b H Q:=h
def rIsNotB:R2:=fun x y H Q=>∃ i j,x=.bl i/\y=.bl j/\Q (.bl (i != j)) H
theorem qcs:OpR X (compareOp .IsNot) rIsNotB:=by
 intro a s d H x y v u Q I b c h;obtain⟨i,j,rfl,rfl,q⟩:=h;cases b;cases c;show isnot_bool ⟨.bl _,H,I,rfl,q⟩
end
noncomputable abbrev Cx.soft(X:Cx):Cx:={ X with calm:=false }
structure RoomW(k:Nat)(A:Around):Prop where
 dp:A.depth+3*k+5<recursionLimit
 un:A.units+16*k+200<cLine
 gd:A.guards=some []
theorem RoomW.deeper{k:Nat}{A:Around}(r:RoomW (k+1) A)(env:Env):RoomW k (A.deeper env):=
 ⟨by have:=r.dp;show A.depth+1+3*k+5<_;lk,by have:=r.un;show A.units+3+16*k+200<_;lk,r.gd⟩
theorem Room.soft{j k:Nat}{A:Around}{h:Option Value}(r:Room k A)(l:j<=k):RoomW j (A.mark h):=⟨by have:=r.dp;show A.depth+3*j+5<_;lk,by have:=r.un;show A.units+16*j+200<_;lk,r.gd⟩
structure FnOkW(P:Program)(w:World)(K:yg)(mg:Str->Option Value)(base:Heap)(k:Nat)(f:Addr)(fd:FuncData)(ps:LS)(sp:Sp):Prop where
 len:∀ vs H Q E,sp vs H Q E->vs.length=ps.length
 run:∀(A:Around) (outer:List Env) (s:Shared) (H:Hp) (args:Args) (us:List Value) (vs:List V) (Q:VK) (E:XK),RoomW k A->Env0 P w K mg base A outer s H->BindsTo s fd args (ps.zip us)->Vals vs us->sp vs H Q E ->
  codeAny (model P w) A (.call (.ref f) args) (CR CX0 outer P w H s Q E) s
structure DefOkW(P:Program)(w:World)(K:yg)(mg:Str->Option Value)(base:Heap)(k:Nat)(x:Str)(ps:LS)(sp:Sp):Prop where
 ex:∃ f fd,FnOkW P w K mg base k f fd ps sp/\mg x=some (.ref f)/\PySem.W.keepIn K (.ref f)=true/\Binds K fd ps []
section
variable{X:Cx}{k:Nat}{f C:Addr}{fd:FuncData}{ps:LS}{sp:Sp}{x m:Str}{p pos apos:Pos}{e o:Expr}{es:List Expr}{ta:TE}{t:TA}
end
section
variable{P:Program}{w:World}{K:yg}{mg:Str->Option Value}{base:Heap}
end
theorem Inv.laidM{X:Cx}{a:List (Addr×Obj)}{g:St}{H H':Hp}{s:Shared}{h':Heap}{t':Nat}(I:Inv X a g H s)(k:∀ b u,s.heap.get? b=some u->h'.get? b=some u)
  (d:∀ b,b<s.heap.objs.size->H' b=H b) (new:∀ b u,s.heap.objs.size<=b->H' b=some u->ObjOk X.prog X.w H' h' b u):Inv X a g H' { s with heap:=h',toks:=t' }:=by
 have lt:∀ b u,H b=some u->b<s.heap.objs.size:=fun b u e=>Xn fun z=>by rw[I.hok.fresh z] at e;cases e
 have f:∀ b u,H b=some u->H' b=some u:=fun b u e=>(d b (lt b u e)).trans e;show I.step (g':=s.gens) (d':=s.drawn) (ch:=[]) (fun b hb=>by simp at hb) (fun b o _ _ _ e _=>k b o e) (fun b o _ _ _ e _=>⟨o.slots,k b o e⟩) (fun b o _ e n=>(d b (yD e)).trans n)
  (fun b o _ e=>⟨o,k b o e⟩) (fun b xs e=>f b _ e) (fun b _ _ e=>f b _ e) (fun b ps e=>⟨#[],by rw[f b _ e];simp⟩) (fun m ⟨o,h,ep,i,r⟩=>⟨o,h,ep,k _ o i,r⟩) (fun b u e=>?_) I.bare
 by_cases hb:s.heap.objs.size<=b
 .show new b u hb e
 .rw [d b (Xn hb)] at e;show(I.hok b u e).stay (fun c v _ q=>k c v q) (fun c q=>f c _ q) fun c xs q=>f c _ q
section
variable{prog:Program}{w:World}{A:Around}{E:Value->Shared->Prop}{s:Shared}
theorem alive_{a:Addr}{Q:Option Obj->Shared->Prop}(h:Q (s.heap.get? a) s):wpAny (model prog w) A (loadIfAlive a) Q E s:=fun b p _=>by
 show Sem.wp _ _ (.loadIfAlive a .pure) _ _ _ _;rw[Sem.wp_loadIfAlive];simpa using h
abbrev qeh(h:Heap)(z TI TO:Addr)(b:Value)(a:Bool):Prop:=h.get? z=some { cls:=.type "zip",dict:=none,data:=.fields #[b,.bool a,.bool false,.ref TI,.ref TO],slots:=#[] }
theorem qeB{z TI TO T:Addr}{a:Bool}{f:Obj}{Q:Bool->Shared->Prop}(hz:qeh s.heap z TI TO (rawInt T) a)(d:s.heap.get? T=some f)
  (b:∀ h',qeh h' z TI TO (rawInt T) true->Heap.SameBut z s.heap h'->Q false { s with heap:=h' }):wpAny (model prog w) A (Builtin.SmallTypes.ownedTupleIsFree (.ref z)) Q E s:=by
 unfold Builtin.SmallTypes.ownedTupleIsFree;show yr (xy hz rfl (x:=rawInt T) rfl ?_);show wpAny _ _ (loadIfAlive T>>=_) _ _ _;show yr (alive_ ?_);rw[d];show wpAny _ _ (field (.ref z) 1>>=_) _ _ _;show yr (xy hz rfl (x:=.bool a) rfl ?_)
 cases a with
 | true=>show yu (b _ hz ⟨rfl,fun _ _=>rfl⟩)
 | false =>
  show wpAny _ _ (setField (.ref z) 1 (.bool true)>>=_) _ _ _;show yr (wpAny_setField_rec hz (by simp) fun h1 c e=>yu (b h1 c e))
theorem znx{z TI TO d f a b T:Addr}{F:Bool}{L:Obj}{r t:Nat}{xs ys:Array Value}{x y:Value}{Q:Value->Shared->Prop}(D:ZipApart z TI TO d f a b)
  (hz:qeh s.heap z TI TO (rawInt T) F) (I:s.heap.get? T=some L) (n:IsPair s.heap TI (.ref d) (.ref f))
  (h1:s.heap.IsListIter d a r) (G:s.heap.IsListIter f b t) (p:s.heap.IsList a xs) (q:s.heap.IsList b ys) (J:xs[r]?=some x) (K:ys[t]?=some y)
  (H:∀ h',qeh h' z TI TO (rawInt T) true->h'.IsListIter d a (r+1)->h'.IsListIter f b (t+1)->IsPair h' s.heap.objs.size x y->h'.objs.size=s.heap.objs.size+1 ->
   (∀ c o,c≠z->c≠d->c≠f->s.heap.get? c=some o->h'.get? c=some o)->Q (.ref s.heap.objs.size) { s with heap:=h' }) :
  wpAny (model prog w) A (Builtin.«zip.__next__» ⟨[.ref z],[]⟩) (fun l O=>∃ v,l=.done (.ret v)/\Q v O) E s:=by
 show wpAny _ _ (field (.ref z) 2>>=_) _ _ _;show yr <| xy hz rfl (x:=.bool false) rfl ?_;show wpAny _ _ (field (.ref z) 3>>=_) _ _ _;show yr <| xy hz rfl (x:=.ref TI) rfl ?_;show yr <| wpAny_seqItems n rfl ?_;show wpAny _ _ (Builtin.SmallTypes.ownedTupleIsFree _>>=_) _ _ _;show yr <| qeB hz I fun R P g=>?_;simp only[YR,xT];show yr ?_;rw[<- xZ];simp only[ke,ki];show yr (yr (Yd ?_));show wpAny _ _ (Builtin.SmallTypes.nextOf (.ref d)>>=_) _ _ _;show yr <| Xh (h1.extBut g.extBut D.i1z) (p.extBut g.extBut D.l1z) J fun S M h=>yu (yu ?_);show yr (yr (Yd ?_));show wpAny _ _ (Builtin.SmallTypes.nextOf (.ref f)>>=_) _ _ _;show yr <| Xh ((G.extBut g.extBut D.i2z).extBut h.extBut D.i12.symm) ((q.extBut g.extBut D.l2z).extBut h.extBut D.l2i1) K fun m N i=>yu (yu (yu ?_));show yr (wpAny_newTuple (yu ⟨_,rfl,?_⟩) (by show 2<=sizeLine;decide));have j:m.objs.size=s.heap.objs.size:=by rw[i.1,h.1,g.1]
 have kp:∀ c o,c≠z->c≠d->c≠f->s.heap.get? c=some o->m.get? c=some o:=fun c o u B C e=>i.extBut _ _ C (h.extBut _ _ B (g.extBut _ _ u e));rw[show(Value.ref m.objs.size)=.ref s.heap.objs.size by rw[j]];show H _ (yt _ (i.extBut _ _ D.i2z.symm (h.extBut _ _ D.i1z.symm P))) ((M.extBut i.extBut D.i12).at fun o e=>yt _ e) (N.at fun o e=>yt _ e) ?_ (by rw[YZ,j]) fun c o u B C e=>yt _ (kp c o u B C e);rw[<- j];show yJ _ rfl
theorem zne{z TI TO h i a b T:Addr}{F:Bool}{L:Obj}{r t:Nat}{xs ys:Array Value}{Q:Fin->Shared->Prop}(C:A.handled=none)(D:ZipApart z TI TO h i a b)
  (hz:qeh s.heap z TI TO (rawInt T) F) (I:s.heap.get? T=some L) (l:IsPair s.heap TI (.ref h) (.ref i))
  (h1:s.heap.IsListIter h a r) (H:s.heap.IsListIter i b t) (g:s.heap.IsList a xs) (n:s.heap.IsList b ys) (f:xs[r]?=none\/ys[t]?=none)
  (B:∀ h' e,(∀ c o,c≠z->c≠h->c≠i->s.heap.get? c=some o->h'.get? c=some o)->(∃ o,h'.get? e=some o/\o.cls=.type "StopIteration")->E (.ref e) { s with heap:=h' }) :
  wpAny (model prog w) A (Builtin.«zip.__next__» ⟨[.ref z],[]⟩) Q E s:=by
 show wpAny _ _ (field (.ref z) 2>>=_) _ _ _;show yr <| xy hz rfl (x:=.bool false) rfl ?_;show wpAny _ _ (field (.ref z) 3>>=_) _ _ _;show yr <| xy hz rfl (x:=.ref TI) rfl ?_;show yr <| wpAny_seqItems l rfl ?_;show wpAny _ _ (Builtin.SmallTypes.ownedTupleIsFree _>>=_) _ _ _;show yr <| qeB hz I fun N P d=>?_;simp only[YR,xT];show yr ?_;rw[<- xZ];simp only[ke,ki];show yr (yr (Yd ?_));show wpAny _ _ (Builtin.SmallTypes.nextOf (.ref h)>>=_) _ _ _
 cases p:xs[r]? with
 | none=>show yr <| wpAny_nextOf_list_end C (h1.extBut d.extBut D.i1z) (g.extBut d.extBut D.l1z) p fun y e j m=>B y e (fun c o u v _ q=>j _ _ v (d.extBut _ _ u q)) m
 | some x =>
  have J:ys[t]?=none:=f.elim (fun z=>by rw[p] at z;cases z) id;show yr <| Xh (h1.extBut d.extBut D.i1z) (g.extBut d.extBut D.l1z) p fun y O j=>yu (yu ?_);show yr (yr (Yd ?_));show wpAny _ _ (Builtin.SmallTypes.nextOf (.ref i)>>=_) _ _ _;show yr <| wpAny_nextOf_list_end C ((H.extBut d.extBut D.i2z).extBut j.extBut D.i12.symm) ((n.extBut d.extBut D.l2z).extBut j.extBut D.l2i1) J fun G e M m=>B G e (fun c o u v K q=>M _ _ K (j.extBut _ _ v (d.extBut _ _ u q))) m
def ZAt(z TI TO N:Nat)(h:Heap):Prop:=IsZip h z TI TO .none\/∃ T a o,N<=T/\qeh h z TI TO (rawInt (T:Nat)) a/\h.get? T=some o
theorem ZAt.typ{z TI TO N:Nat}(h:ZAt z TI TO N s.heap):s.TypeIs (.ref z) "zip":=by
 rcases h with e | ⟨_,_,_,_,e,_⟩<;>show⟨_,e,rfl⟩
theorem znx_any{z TI TO h i a b N:Addr}{G H:Nat}{xs ys:Array Value}{x y:Value}{Q:Option Value->Shared->Prop}(D:ZipApart z TI TO h i a b)(O:N<=s.heap.objs.size)
  (hz:ZAt z TI TO N s.heap) (l:IsPair s.heap TI (.ref h) (.ref i)) (d:∃ u v,IsPair s.heap TO u v)
  (h1:s.heap.IsListIter h a G) (I:s.heap.IsListIter i b H) (m:s.heap.IsList a xs) (n:s.heap.IsList b ys) (K:xs[G]?=some x) (L:ys[H]?=some y) (f:z<N/\h<N/\i<N)
  (J:∀ h',ZAt z TI TO N h'->(∃ u v,IsPair h' TO u v)->h'.IsListIter h a (G+1)->h'.IsListIter i b (H+1)->IsPair h' s.heap.objs.size x y->h'.objs.size=s.heap.objs.size+1 ->
   (∀ c o,c≠z->c≠TO->c≠h->c≠i->s.heap.get? c=some o->h'.get? c=some o)->Q (some (.ref s.heap.objs.size)) { s with heap:=h' }) :
  wpAny (model prog w) A (pyNext (.ref z)) Q E s:=by
 obtain⟨u,v,d⟩:=d;have typ:=hz.typ;rcases hz with hz | ⟨T,b1,o,hT,hz,ho⟩
 .show wpAny_pyNext_zip_item D hz l d h1 I m n K L fun g r M t B p C j=>J g (.inr ⟨s.heap.objs.size,false,_,O,r,p⟩) ⟨_,_,M⟩ t B p C j
 .unfold pyNext;show yr (Xr (Xb (name:=Str.ofString "__next__") typ XA (Xl XA typ F.entry_zip_next (znx D hz ho l h1 I m n K L fun g r t B p C j=>yu ?_) (F.args_zip_next_1 _))));show J g (.inr ⟨T,true,o,hT,r,j _ _ (yW (yj f.1 hT)) (yW (yj f.2.1 hT)) (yW (yj f.2.2 hT)) ho⟩) ⟨_,_,j _ _ D.TOz D.TOi1 D.TOi2 d⟩ t B p C fun c q P _ R S e=>j c q P R S e
theorem zne_any{z TI TO l m a b N:Addr}{t x:Nat}{xs ys:Array Value}{Q:Option Value->Shared->Prop}(r:A.handled=none)(D:ZipApart z TI TO l m a b)
  (hz:ZAt z TI TO N s.heap) (h:IsPair s.heap TI (.ref l) (.ref m)) (f:∃ u v,IsPair s.heap TO u v)
  (h1:s.heap.IsListIter l a t) (n:s.heap.IsListIter m b x) (i:s.heap.IsList a xs) (j:s.heap.IsList b ys) (d:xs[t]?=none\/ys[x]?=none)
  (p:∀ h',(∀ c o,c≠z->c≠TO->c≠l->c≠m->s.heap.get? c=some o->h'.get? c=some o)->Q none { s with heap:=h' }):wpAny (model prog w) A (pyNext (.ref z)) Q E s:=by
 obtain⟨u,v,f⟩:=f;have typ:=hz.typ;rcases hz with hz | ⟨T,b1,o,hT,hz,ho⟩
 .show wpAny_pyNext_zip_end r D hz h f h1 n i j d p
 .unfold pyNext;show yr (Xr (Xb (name:=Str.ofString "__next__") typ XA (Xl XA typ F.entry_zip_next (zne r D hz ho h h1 n i j d fun g e k y=>?_) (F.args_zip_next_1 _))));obtain⟨q,B,hc⟩:=y;show yr (wpAny_isInstance (T:="StopIteration") (b:=true) ⟨q,B,hc⟩ isSubtype_stop ?_);show yu (p _ fun c o C _ G H e=>k c o C G H e)
end
structure LZ(z TI TO i1 i2 a b S N:Nat)(xs ys:Array Value)(h0:Heap)(i:Nat)(acc:Array Value)(c:Nat)(h:Heap):Prop where
 zp:ZAt z TI TO N h
 ti:IsPair h TI (.ref i1) (.ref i2)
 tO:∃ u v,IsPair h TO u v
 j1:h.IsListIter i1 a i
 j2:h.IsListIter i2 b i
 la:h.IsList a xs
 lb:h.IsList b ys
 ls:h.get? S=some { cls:=.type "list",dict:=none,data:=.seq acc c,slots:=#[] }
 sz:N<=h.objs.size
 len:acc.size=i
 its:∀(j:Nat) v,acc[j]?=some v->∃ t x y,v=.ref t/\N<=t/\IsPair h t x y/\xs[j]?=some x/\ys[j]?=some y
 nd:∀(j k:Nat) v,acc[j]?=some v->acc[k]?=some v->j=k
 kp:∀ q o,q<N->q≠z->q≠TO->q≠i1->q≠i2->q≠S->h0.get? q=some o->h.get? q=some o
structure LE(z TO i1 i2 S N:Nat)(xs ys:Array Value)(h0:Heap)(n:Nat)(acc:Array Value)(c:Nat)(h:Heap):Prop where
 ls:h.get? S=some { cls:=.type "list",dict:=none,data:=.seq acc c,slots:=#[] }
 len:acc.size=n
 its:∀(j:Nat) v,acc[j]?=some v->∃ t x y,v=.ref t/\N<=t/\IsPair h t x y/\xs[j]?=some x/\ys[j]?=some y
 nd:∀(j k:Nat) v,acc[j]?=some v->acc[k]?=some v->j=k
 kp:∀ q o,q<N->q≠z->q≠TO->q≠i1->q≠i2->q≠S->h0.get? q=some o->h.get? q=some o
structure LA(z TI TO i1 i2 a b S N:Nat):Prop where
 D:ZipApart z TI TO i1 i2 a b
 lt:z<S/\TI<S/\TO<S/\i1<S/\i2<S/\a<S/\b<S
 S:S<N
theorem LZ.at{z TI TO g l a b S N:Nat}{xs ys:Array Value}{w h h':Heap}{i c r:Nat}{acc d:Array Value}(L:LA z TI TO g l a b S N)(x:LZ z TI TO g l a b S N xs ys w i acc c h)
  (k:Heap.SameBut S h h') (W:h'.get? S=some { cls:=.type "list",dict:=none,data:=.seq d r,slots:=#[] }) (len:d.size=i) (m:∀(j:Nat) v,d[j]?=some v->∃ t x y,v=.ref t/\N<=t/\IsPair h t x y/\xs[j]?=some x/\ys[j]?=some y) (X:∀(j k:Nat) v,d[j]?=some v->d[k]?=some v->j=k):LZ z TI TO g l a b S N xs ys w i d r h':=by
 obtain⟨B,K,M,O,P,R,U⟩:=L.lt;have A:=L.S;have f:∀{q o},q≠S->h.get? q=some o->h'.get? q=some o:=fun n e=>k.extBut _ _ n e;show⟨?_,f (yy K) x.ti,?_,x.j1.at fun o e=>f (yy O) e,x.j2.at fun o e=>f (yy P) e,x.la.extBut k.extBut (yy R),x.lb.extBut k.extBut (yy U),W,by rw[k.1];show x.sz,len,fun j v e=>?_,X,fun q o C D E F G p e=>f p (x.kp q o C D E F G p e)⟩
 .rcases x.zp with e | ⟨T,b1,o,hT,e,eo⟩
  .show .inl (f (yy B) e)
  .show .inr ⟨T,b1,o,hT,f (yy B) e,f (yW (yj A hT)) eo⟩
 .obtain⟨u,v,e⟩:=x.tO;show⟨u,v,f (yy M) e⟩
 .obtain⟨t,u,v,H,s,I,J⟩:=m j v e;show⟨t,u,v,H,s,f (yW (yj A s)) I,J⟩
section
variable{prog:Program}{w:World}{A:Around}{R:Result->Shared->Prop}{z TI TO i1 i2 a b S N:Nat}{xs ys:Array Value}{h0:Heap}
theorem zloop(hh:A.handled=none)(L:LA z TI TO i1 i2 a b S N)(hn:min xs.size ys.size<=2 ^ 24)(res:Value):∀(k i:Nat) (s:Shared) (acc:Array Value) (c:Nat),min xs.size ys.size-i=k->i<=min xs.size ys.size->LZ z TI TO i1 i2 a b S N xs ys h0 i acc c s.heap ->
  (∀ h' O P,LE z TO i1 i2 S N xs ys h0 (min xs.size ys.size) O P h'->R (.ok (.ret res)) { s with heap:=h' })->codeAny (model prog w) A (.builtin "list.extend.loop" ⟨[.ref S,.ref z,res],[]⟩) R s:=by
 have E:=L.S;obtain⟨B,l2,W,G,H,l6,l7⟩:=L.lt;have p:∀{t q:Nat},N<=t->q<S->t≠q:=fun h1 h2=>by lk
 intro k
 induction k with
 | zero =>
  intro i s acc c hk hi x hR;show codeAny_builtin F.entry_extend_loop ?_;rw[Around.under_plainId xR _];show wpAny _ A.in1 (pyNext _>>=_) _ _ s
  have he:xs[i]?=none\/ys[i]?=none:=by
   rcases Nat.le_total xs.size ys.size with q | q
   .show .inl (xB (by lk))
   .show .inr (xB (by lk))
  show yr (zne_any hh L.D x.zp x.ti x.tO x.j1 x.j2 x.la x.lb he fun h' l=>yu (hR h' acc c ⟨?_,by rw[x.len];lk,fun j v e=>?_,x.nd,fun q o I y J K M Y e=>l q o y J K M (x.kp q o I y J K M Y e)⟩))
  .show l S _ (yW B) (yW W) (yW G) (yW H) x.ls
  .obtain⟨t,u,v,m,g,e3,e4⟩:=x.its j v e;show⟨t,u,v,m,g,l t _ (p g B) (p g W) (p g G) (p g H) e3,e4⟩
 | succ k ih =>
  intro i s acc c hk hi x hR;show codeAny_builtin F.entry_extend_loop ?_;rw[Around.under_plainId xR _];show wpAny _ A.in1 (pyNext _>>=_) _ _ s;obtain⟨u,hu⟩:∃ u,xs[i]?=some u:=⟨_,YL (by lk)⟩;obtain⟨v,hv⟩:∃ v,ys[i]?=some v:=⟨_,YL (by lk)⟩;show yr (znx_any L.D x.sz x.zp x.ti x.tO x.j1 x.j2 x.la x.lb hu hv ⟨xQ B E,xQ G E,xQ H E⟩ fun h1 z1 ac m g eP aa l=>?_);have U:=l S _ (yW B) (yW W) (yW G) (yW H) x.ls;show wpAny _ A.in1 (updateSeq S (·.push (.ref s.heap.objs.size))>>=_) _ _ _;have f:=x.len;have hN:=x.sz
  have X:∀ j:Nat,acc[j]?≠some (.ref s.heap.objs.size):=fun j e=>by
   obtain⟨t,Z,w',q1,C,q3,_⟩:=x.its j _ e;cases q1;show absurd (yD q3) (Yk _)
  have ab:∀(j k:Nat) r,(acc.push (.ref s.heap.objs.size))[j]?=some r->(acc.push (.ref s.heap.objs.size))[k]?=some r->j=k:=fun j k r m g=>by
   rw[Array.getElem?_push] at m g;split at m<;>split at g
   .rename_i I y;rw[I,y]
   .cases m;show absurd g (X k)
   .cases g;show absurd m (X j)
   .show x.nd j k r m g
  obtain⟨P,ad⟩:∃ P,(h1.update S (Obj.mapSeq (·.push (.ref s.heap.objs.size)))).get? S=some { cls:=.type "list",dict:=none,data:=.seq (acc.push (.ref s.heap.objs.size)) P,slots:=#[] }:=⟨_,YM (Obj.mapSeq (·.push (.ref s.heap.objs.size))) U rfl⟩;show yr (XB U rfl (yu ⟨plainId_quiet xR _,ih (i+1) _ (acc.push (.ref s.heap.objs.size)) P (by lk) (by lk) ?_ hR⟩) ?_ ?_)
  .have sb:Heap.SameBut S h1 (h1.update S (Obj.mapSeq (·.push (.ref s.heap.objs.size)))):=YB ..;have h:∀{q o},q≠S->h1.get? q=some o->(h1.update S (Obj.mapSeq (·.push (.ref s.heap.objs.size)))).get? q=some o:=fun n e=>sb.extBut _ _ n e;show⟨?_,h (yy l2) (l _ _ L.D.TIz L.D.TITO L.D.TIi1 L.D.TIi2 x.ti),?_,m.at fun o e=>h (yy G) e,g.at fun o e=>h (yy H) e,?_,?_,ad,by rw[sb.1,aa];lk,by rw[kh,f],fun j r e=>?_,ab,fun q o I y J K M Y e=>h Y (l q o y J K M (x.kp q o I y J K M Y e))⟩
   .rcases z1 with e | ⟨T,b1,o,hT,e,eo⟩
    .show .inl (h (yy B) e)
    .show .inr ⟨T,b1,o,hT,h (yy B) e,h (yW (yj E hT)) eo⟩
   .obtain⟨Z,r,e⟩:=ac;show⟨Z,r,h (yy W) e⟩
   .obtain⟨o,e,d⟩:=x.la;show⟨o,h (yy l6) (l _ _ L.D.l1z L.D.l1TO L.D.l1i1 L.D.l1i2 e),d⟩
   .obtain⟨o,e,d⟩:=x.lb;show⟨o,h (yy l7) (l _ _ L.D.l2z L.D.l2TO L.D.l2i1 L.D.l2i2 e),d⟩
   .rw [Array.getElem?_push] at e;split at e
    .rename_i ej
     cases e;rw[ej,f];show⟨_,u,v,rfl,hN,h (yW (yj E hN)) eP,hu,hv⟩
    .obtain⟨t,Z,w',q1,C,q3,q4⟩:=x.its j r e;show⟨t,Z,w',q1,C,h (yW (yj E C)) (l t _ (p C B) (p C W) (p C G) (p C H) q3),q4⟩
  .rw [f,yX];lk
  .show(acc.push _).size<=sizeLine+1;rw[kh,f,yX];lk
theorem zip_len0:typeLookup (.type "zip") "__len__"=pure none:=by rw[typeLookup_type,builtinLookup_eq_fast];kernel_rfl
theorem zip_hint0:typeLookup (.type "zip") "__length_hint__"=pure none:=by rw[typeLookup_type,builtinLookup_eq_fast];kernel_rfl
theorem zext{s:Shared}{p:Nat}(u:A.handled=none)(L:LA z TI TO i1 i2 a b S N)(y:min xs.size ys.size<=2 ^ 24)(res:Value)(hz:IsZip s.heap z TI TO .none)(x:LZ z TI TO i1 i2 a b S N xs ys h0 0 #[] p s.heap)
  (t:∀ h' c d,LE z TO i1 i2 S N xs ys h0 (min xs.size ys.size) c d h'->R (.ok (.ret res)) { s with heap:=h' }) :
  wpAny (model prog w) A.in1 (Builtin.List.listExtendWith (.ref S) (.ref z) res) (fun h g=>match h with | .done f=>R (.ok f) g | .again d=>d.quiet=true/\codeAny (model prog w) A d R g) (fun e g=>R (.error e) g) s:=by
 obtain⟨B,_⟩:=L.lt;have typ:s.TypeIs (.ref z) "zip":=⟨_,hz,rfl⟩;unfold Builtin.List.listExtendWith;show yr <| wpAny_typeOf typ ?_;have C:Builtin.List.listSameRef (.ref S) (.ref z)=false:=by simp[Builtin.List.listSameRef,yW B]
 have o:(Value.type "zip"==.type "list")=false/\(Value.type "zip"==.type "tuple")=false:=by decide
 simp only[C,o.1,o.2,XX,YR,xT];show yr <| X6 hz <| yr <| Yd ?_;unfold Builtin.List.listLengthHint;show yr <| wpAny_specialOf typ zip_len0 ?_;show wpAny _ _ (specialOf (Value.ref z) (Str.ofString "__length_hint__")>>=_) _ _ _;show yr <| wpAny_specialOf typ zip_hint0 <| yu ?_;show wpAny _ _ (rule "list.extend.makes-room">>=fun _=>Builtin.List.listTouch (.ref S)>>=fun _=>again (.builtin "list.extend.loop" ⟨[.ref S,.ref z,res],[]⟩)) _ _ _;show yr <| wpAny_rule <| yr ?_;show wpAny _ _ (updateSeq S (·.push .none)>>=fun _=>updateSeq S (·.pop)) _ _ _;show yr <| XB x.ls rfl ?_;have i:=YM (Obj.mapSeq (·.push Value.none)) x.ls rfl;show XB (hz:=by seq_fits) i rfl ?_;have r:=YM (Obj.mapSeq (·.pop)) i rfl
 have D:Heap.SameBut S s.heap ((s.heap.update S (Obj.mapSeq (·.push Value.none))).update S (Obj.mapSeq (·.pop))):=by
  have l:Heap.SameBut S s.heap (s.heap.update S (Obj.mapSeq (·.push Value.none))):=YB ..;have m:Heap.SameBut S (s.heap.update S (Obj.mapSeq (·.push Value.none))) ((s.heap.update S (Obj.mapSeq (·.push Value.none))).update S (Obj.mapSeq (·.pop))):=YB ..;show⟨m.1.trans l.1,fun q n=>(m.2 q n).trans (l.2 q n)⟩
 show yu ⟨plainId_quiet xR _,zloop u L y res _ 0 _ #[] _ rfl (Yi _) (x.at L D r rfl (fun j v e=>by simp at e) fun j k v e=>by simp at e) t⟩
theorem zinit{s:Shared}{l:Nat}(o:A.handled=none)(L:LA z TI TO i1 i2 a b S N)(p:min xs.size ys.size<=2 ^ 24)(hz:IsZip s.heap z TI TO .none)(x:LZ z TI TO i1 i2 a b S N xs ys h0 0 #[] l s.heap)
  (n:∀ h' c d,LE z TO i1 i2 S N xs ys h0 (min xs.size ys.size) c d h'->R (.ok (.ret .none)) { s with heap:=h' }) :
  wpAny (model prog w) A.in1 (Builtin.«list.__init__» ⟨[.ref S,.ref z],[]⟩) (fun h g=>match h with | .done f=>R (.ok f) g | .again d=>d.quiet=true/\codeAny (model prog w) A d R g) (fun e g=>R (.error e) g) s:=by
 obtain⟨q,_⟩:=L.lt;show wpAny _ _ (do let old <- Builtin.List.listItems (.ref S);Builtin.List.listUpdate (.ref S) (fun _=>#[]);letGo old.toList.reverse;Builtin.List.listExtendWith (.ref S) (.ref z) .none) _ _ s;show yr ?_;unfold Builtin.List.listItems;show yr <| wpAny_seqItems x.ls rfl <| yu ?_;show wpAny _ _ (updateSeq S (fun _=>#[])>>=fun _=>letGo _>>=fun _=>Builtin.List.listExtendWith (.ref S) (.ref z) .none) _ _ s;show yr <| XB x.ls rfl ?_;have m:=YM (Obj.mapSeq (fun _=>(#[]:Array Value))) x.ls rfl;have i:Heap.SameBut S s.heap (s.heap.update S (Obj.mapSeq (fun _=>(#[]:Array Value)))):=YB ..;show yr <| wpAny_letGo ?_;show zext o L p .none (i.extBut _ _ (yy q) hz) (x.at L i m rfl (fun j v e=>by simp at e) fun j k v e=>by simp at e) n
end
section
variable{prog:Program}{w:World}{A:Around}{E:Value->Shared->Prop}{s:Shared}
theorem call_list_zip{z TI TO i l a b:Nat}{xs ys:Array Value}{Q:Value->Shared->Prop}(I:A.handled=none)(D:ZipApart z TI TO i l a b)(J:min xs.size ys.size<=2 ^ 24)(hz:IsZip s.heap z TI TO .none)(m:IsPair s.heap TI (.ref i) (.ref l))(f:∃ u v,IsPair s.heap TO u v)
  (h1:s.heap.IsListIter i a 0) (B:s.heap.IsListIter l b 0) (n:s.heap.IsList a xs) (p:s.heap.IsList b ys)
  (H:∀ h' c y,LE z TO i l s.heap.objs.size (s.heap.objs.size+1) xs ys s.heap (min xs.size ys.size) c y h'->Q (.ref s.heap.objs.size) { s with heap:=h' }):wpAny (model prog w) A (call (.type "list") [.ref z]) Q E s:=by
 show callType_codes (Q₁:=fun t h=>t=.ref s.heap.objs.size/\h={ s with heap:=s.heap.push { cls:=.type "list",data:=.seq #[] } }) F.called_list (F.typeCall_list_1 _) F.entry_list_init (code_list_new _ ⟨rfl,rfl⟩) fun t h r=>?_;obtain⟨rfl,rfl⟩:=r;have C:(s.heap.push { cls:=.type "list",data:=.seq #[] }).get? s.heap.objs.size=some { cls:=.type "list",data:=.seq #[] }:=yJ _ rfl;have g:∀{q o},s.heap.get? q=some o->(s.heap.push { cls:=.type "list",data:=.seq #[] }).get? q=some o:=fun e=>yt _ e;have lt:∀{q o},s.heap.get? q=some o->q<s.heap.objs.size:=fun e=>yD e;obtain⟨u,v,f⟩:=f
 have L:LA z TI TO i l a b s.heap.objs.size (s.heap.objs.size+1):=by
  show⟨D,⟨lt hz,lt m,lt f,?_,?_,?_,?_⟩,YN _⟩
  .obtain⟨_,e,_⟩:=h1;show lt e
  .obtain⟨_,e,_⟩:=B;show lt e
  .obtain⟨_,e,_⟩:=n;show lt e
  .obtain⟨_,e,_⟩:=p;show lt e
 have x:LZ z TI TO i l a b s.heap.objs.size (s.heap.objs.size+1) xs ys s.heap 0 #[] 0 (s.heap.push { cls:=.type "list",data:=.seq #[] }):=by
  show⟨.inl (g hz),g m,⟨u,v,g f⟩,h1.at fun o e=>g e,B.at fun o e=>g e,?_,?_,C,by rw[YZ];show yh _,rfl,fun j v e=>by simp at e,fun j k v e=>by simp at e,fun q o _ _ _ _ _ _ e=>g e⟩
  .obtain⟨o,e,d⟩:=n;show⟨o,g e,d⟩
  .obtain⟨o,e,d⟩:=p;show⟨o,g e,d⟩
 show⟨⟨_,C,rfl⟩,F.args_list_init_2 _ _,zinit (A:=A.in1) I L J (g hz) x fun h' c y G=>⟨rfl,H h' c y G⟩⟩
end
structure Zl(H H':Hp)(l:Addr)(ts:LI)(xs ys:List V):Prop where
 sm:L2.Same H H'
 fl:H l=none
 ls:H' l=some (.lst (ts.map V.ref))
 len:ts.length=min xs.length ys.length
 tp:∀(j:Nat) t,ts[j]?=some t->H t=none/\∃ x y,xs[j]?=some x/\ys[j]?=some y/\H' t=some (.tup [x,y])
theorem qeC(H:Hp):∀(a:LI) (xs ys:List V),a.Nodup->a.length<=xs.length->a.length<=ys.length->∃ G:Hp,(∀(j:Nat) t x y,a[j]?=some t->xs[j]?=some x->ys[j]?=some y->G t=some (.tup [x,y]))/\∀ q,q∉a->G q=H q
 | [],_,_,_,_,_=>⟨H,fun j t x y e=>by simp at e,fun _ _=>rfl⟩
 | t::a,[],_,_,h,_=>by simp at h
 | t::a,_::_,[],_,_,h=>by simp at h
 | t::a,x::xs,y::ys,nd,h1,h2=>by
  obtain⟨m,n⟩:=yo.mp nd;obtain⟨G,i,l⟩:=qeC H a xs ys n (by simpa using h1) (by simpa using h2);show⟨upd G t (.tup [x,y]),fun j t' o p c d f=>?_,fun q g=>?_⟩
  .cases j with
   | zero=>simp at c d f;subst c d f;show qb
   | succ j =>
    have b:a[j]?=some t':=by simpa using c
    rw[qh fun z=>m (by rw[<- z];show ye b)];show i j t' o p b (by simpa using d) (by simpa using f)
  .rw [qh fun z=>g (by rw[z];show yC)];show l q fun z=>g (yw _ z)
noncomputable def refN:Value->Nat
 | .ref a=>a
 | _=>0
def tLZ(K:yg)(d:TA):TE:=fun f H Q=>d f H fun vs c=>∃ a b xs ys,vs=[.ref a,.ref b]/\SqL K c a xs/\SqL K c b ys/\xs.length<=1000/\∀ l e H',Zl c H' l e xs ys->Q (.ref l) H'
theorem vLZ{K:yg}{d:TA}{e:St}{H:Hp}{Q:VK}(h:d e H fun vs c=>∃ a b xs ys,vs=[.ref a,.ref b]/\SqL K c a xs/\SqL K c b ys/\xs.length<=1000/\∀ l f H',Zl c H' l f xs ys->Q (.ref l) H'):tLZ K d e H Q:=h
theorem qb6{X:Cx}{K:yg}{a b:Expr}{ta:TA}{p p2 pos f:Pos}(hK:X.K=K)(hc:X.calm=true)(hg:Gl X "list")(ag:Gl X "zip")(F:X.mg "list"=none)(ak:X.mg "zip"=none)(ha:PA X [a,b] ta)(hs:starEach [a,b] X.env=[(false,eval a X.env),(false,eval b X.env)]:=by rfl)(P:starEach [b] X.env=[(false,eval b X.env)]:=by rfl)
  (he:starEach [.Call (.Name "zip" p2) [a,b] [] f] X.env=[(false,eval (.Call (.Name "zip" p2) [a,b] [] f) X.env)]:=by rfl):PE X (.Call (.Name "list" p) [.Call (.Name "zip" p2) [a,b] [] f] [] pos) (tLZ K ta):=by
 subst hK;intro Z s σ H Q I h;show Call_ (qae I hg F Xo (YG (T:="list") ?_ he rfl));rw[he];show wpAny _ _ (spliced ((false,eval (.Call (.Name "zip" p2) [a,b] [] f) X.env)::[])) _ _ s;show XI ?_;show Call_ (qae I ag ak qcq (YG (thn (ha f Z s σ H _ I h) fun us w ⟨vs,H1,A,r1,q1⟩=>?_) (by rw[hs,P]) (by rw[P];rfl)));obtain⟨a,b,xs,ys,e,hq,al,hx,q⟩:=q1;subst e
 cases r1 with
 | cons r rr =>
  cases rr with
  | cons r2 rr =>
   cases rr;cases r;cases r2;obtain⟨C,rv,pl,_⟩:=A.list hq;obtain⟨l,aa,D,_⟩:=A.list al;have am:a<w.heap.objs.size:=by obtain⟨_,e,_⟩:=pl.isList;show yD e
   have an:b<w.heap.objs.size:=by obtain⟨_,e,_⟩:=D.isList;show yD e
   have l1:=rv.length;have l2:=aa.length;show call_zip_2 pl.isList D.isList fun h1 hz ae af ah ai hsz hk=>XS ?_;have la:h1.IsList a C.toArray:=by obtain⟨o,e,d⟩:=pl.isList;show⟨o,hk _ _ e,d⟩
   have B:h1.IsList b l.toArray:=by obtain⟨o,e,d⟩:=D.isList;show⟨o,hk _ _ e,d⟩
   show call_list_zip (A.ok.hd hc) (PySem.W.ktu_apart _ _ _ am an) (by simp only[yv];lk) hz ae ⟨_,_,af⟩ ah ai la B fun h2 acc c L=>?_;have L:LE (w.heap.objs.size+4) (w.heap.objs.size+3) w.heap.objs.size (w.heap.objs.size+1) h1.objs.size (h1.objs.size+1) C.toArray l.toArray h1 (min C.toArray.size l.toArray.size) acc c h2:=L;have O:acc.size=min xs.length ys.length:=by rw[L.len,l1,l2,yv,yv]
   obtain⟨g,R⟩:∃ g,g=acc.toList.map refN:=⟨_,rfl⟩;have n:g.length=min xs.length ys.length:=by rw[R,ya,YA,O]
   have J:∀(j:Nat) t,g[j]?=some t->acc[j]?=some (.ref t)/\h1.objs.size+1<=t/\∃ x y,xs[j]?=some x/\ys[j]?=some y/\∃ u v,RelV x u/\RelV y v/\IsPair h2 t u v:=fun j t e=>by
    rw[R,yd,Y5] at e;obtain⟨v,ev,et⟩:=yn.mp e;obtain⟨t',u1,u2,q1,q2,q3,q4,q5⟩:=L.its j v ev;subst q1;have ad:t'=t:=et;subst ad;have hj:j<acc.size:=(Array.getElem?_eq_some_iff.mp ev).1;obtain⟨x,S⟩:∃ x,xs[j]?=some x:=⟨_,yb (by lk)⟩;obtain⟨y,U⟩:∃ y,ys[j]?=some y:=⟨_,yb (by lk)⟩;obtain⟨a1,ab,ao⟩:=rv.get S;obtain⟨a2,ac,ap⟩:=aa.get U;have b1:a1=u1:=by rw[List.getElem?_toArray,ab] at q4;cases q4;rfl
    have b2:a2=u2:=by rw[List.getElem?_toArray,ac] at q5;cases q5;rfl
    subst b1 b2;show⟨ev,q2,x,y,S,U,a1,a2,ao,ap,q3⟩
   have nd:g.Nodup:=by
    show Y6.mpr fun i j hi hj aj e=>?_;have M:=(J i g[i] (yb hi)).1;have N:=(J j g[j] (yb hj)).1;rw[e] at M;show absurd (L.nd i j _ M N) (yy aj)
   have mem:∀ t∈g,h1.objs.size+1<=t:=fun t ht=>by
    obtain⟨j,e⟩:=xH.mp ht;show(J j t e).2.1
   obtain⟨G,g1,g2⟩:=qeC H1 g xs ys nd (by lk) (by lk)
   have Y:∀ q,q<w.heap.objs.size->upd G h1.objs.size (.lst (g.map V.ref)) q=H1 q:=fun q hq=>by
    rw[qh (yy (by lk))];show g2 q fun z=>by have:=mem q z;lk
   have tl:∀ t∈g,t≠h1.objs.size:=fun t ht=>by have:=mem t ht;show yW this
   show⟨.ref _,_,A.laidM (t':=w.toks) (H':=upd G h1.objs.size (.lst (g.map V.ref))) (fun b u e=>?_) Y fun b u hb e=>?_,rfl,q _ g _ ⟨fun b o e=>?_,A.hok.fresh (by show(w.heap.objs.size:Nat)<=h1.objs.size;lk),qb,n,fun j t e=>?_⟩⟩
   .have B:∀ m:Nat,w.heap.objs.size<=m->b<m:=fun m F=>yj (yD e) F;show L.kp b u (B _ (by lk)) (yy (B _ (by lk))) (yy (B _ (by lk))) (yy (B _ (by lk))) (yy (B _ (by lk))) (yy (B _ (by lk))) (hk b u e)
   .by_cases hl:b=h1.objs.size
    .subst hl;rw[qb] at e;cases e;show⟨by rw[ya,n,yX];lk,acc.toList,c,zr (by rw[ya,n];show O.symm) fun j y u M N=>?_,by rw[Array.toArray_toList];show L.ls⟩;rw[yd] at M;obtain⟨t,et,E⟩:=yn.mp M;subst E;rw[Y5,(J j t et).1] at N;cases N;rfl
    .rw [qh hl] at e;by_cases F:b∈g
     .obtain⟨j,ej⟩:=xH.mp F;obtain⟨_,_,x,y,ex,E,u1,u2,r1,r2,ep⟩:=J j b ej;rw[g1 j b x y ej ex E] at e;cases e;show⟨by show 2<=sizeLine;decide,[u1,u2],.cons r1 (.cons r2 .nil),⟨_,ep,rfl,_,rfl⟩⟩
     .rw [g2 b F,A.hok.fresh hb] at e;cases e
   .rw [Y b (Xn fun z=>by rw[A.hok.fresh z] at e;cases e)];show e
   .obtain⟨_,N,x,y,ex,E,_⟩:=J j t e;show⟨A.hok.fresh (by lk),x,y,ex,E,?_⟩;rw[qh (tl t (ye e))];show g1 j t x y e ex E
theorem Inv.freeze{X:Cx}{f:List (Addr×Obj)}{l:St}{H:Hp}{s:Shared}{d:Addr}{kvs:List (Key×V)}{o:Obj}(I:Inv X f l H s)(e:H d=some (.dK kvs))(y:s.heap.get? d=some o):Inv X f l (upd H d (.frz o (.dK kvs))) s:=by
 have h:∀ b,H b=none->upd H d (.frz o (.dK kvs)) b=none:=fun b hb=>by
  rw[qh (fun z=>by rw[z,e] at hb;cases hb)];show hb
 have kp:∀ b u,u≠.dK kvs->H b=some u->upd H d (.frz o (.dK kvs)) b=some u:=fun b u B hb=>by
  rw[qh (fun z=>by rw[z,e] at hb;show B (ym hb).symm)];show hb
 have st:∀ a u,ObjOk X.prog X.w H s.heap a u->ObjOk X.prog X.w (upd H d (.frz o (.dK kvs))) s.heap a u:=fun a u x =>
  x.stay (fun _ _ _ q=>q) (fun b q=>kp b _ (fun z=>by cases z) q) fun b xs q=>kp b _ (fun z=>by cases z) q
 show⟨I.ok,I.os,I.bare,⟨I.base.keep,I.base.slot,fun b i q n C=>h b (I.base.free b i q n C),I.base.there,fun b xs q=>kp b _ (fun z=>by cases z) (I.base.tups b xs q),fun b i u q=>kp b _ (fun z=>by cases z) (I.base.frzs b i u q),fun b ps q=>?_⟩,I.loc,I.cell,h _ I.free,fun x c q=>h _ (I.freeC x c q),fun p A=>?_,fun a u q=>?_,I.len⟩
 .obtain⟨g,z⟩:=I.base.tbls b ps q;show⟨g,kp b _ (fun z=>by cases z) z⟩
 .obtain⟨h1,m,r,t,v⟩:=I.pin p A;show⟨h1,h _ m,r,t,v⟩
 .by_cases j:a=d
  .subst j;rw[qb] at q;cases q;show⟨y,st _ _ (I.hok _ _ e)⟩
  .rw [qh j] at q;show st _ _ (I.hok _ _ q)
noncomputable def Itk(d:Addr)(o:Obj)(kvs:List (Key×V)):It:=
 ⟨fun i H=>H d=some (.frz o (.dK kvs))/\i<kvs.length,fun i H x H'=>H'=H/\∃ k v,kvs[i]?=some (k,v)/\x=kV k,fun i H=>H d=some (.frz o (.dK kvs))/\kvs.length=i⟩
theorem jY{a b:Type}{F:a->b->Prop}:∀{l:List a} {m:List b},Paired F l m->l.length=m.length
 | _,_,.nil=>rfl
 | _,_,.cons _ t=>congrArg (· + 1) (jY t)
theorem qbL{a b:Type}{F:a->b->Prop}:∀{l:List a} {m:List b},Paired F l m->∀{i:Nat} {x:a},l[i]?=some x->∃ y,m[i]?=some y/\F x y
 | _,_,.nil,i,x,h=>by simp at h
 | _,_,.cons r t,0,x,h=>by simp at h;subst h;show⟨_,rfl,r⟩
 | _,_,.cons r t,i+1,x,h=>by simp at h;simpa using qbL t h
theorem turn_keys{P:Program}{w:World}{K:yg}{tg:Expr}(d it:Addr)(o:Obj)(kvs:List (Key×V)){G:Array DictEntry}{ep:Nat}(C:o.data=.dict G ep):Turn P w K tg (Itk d o kvs) [it] it (fun i h=>h.IsKeyIter it d i kvs.length ep) where
 mem:=by simp
 obj:=fun i h st b hb=>by
  have e:b=it:=by simpa using hb
  subst e;obtain⟨o,e,c,d⟩:=st;show⟨o,e,fun v z=>by rw[d] at z;cases z⟩
 keep:=fun i h h' st k=>by
  obtain⟨o,e,c,d⟩:=st;show⟨o,k it (by simp) o e,c,d⟩
 item:=by
  intro X U hw T hc i j s σ H E I D st W;subst U hw T;obtain⟨S,hi⟩:=W;obtain⟨g,hz,aa,vs,B,o',J,F,f,l,a,Y,hp,m⟩:=I.hok d _ S;rw[g] at f;cases f;rw[C] at a;cases a;obtain⟨⟨k,v⟩,y⟩:∃ q,kvs[i]?=some q:=⟨_,yb hi⟩;obtain⟨⟨k',u⟩,hu,Z,ru⟩:=qbL B y;have r:k=k':=Z;subst r;obtain⟨L,M,f2,N,O,R⟩:=D it (by simp);rw[jY B] at st;show wpAny_pyNext_dict_item (knd:=qI X.prog X.w) st ⟨o,G,g,l,C,Y,hp,m⟩ hu fun A h' p n sb=>?_;have I1:Inv X j σ H { s with heap:=h' }:=I.turned (t':=s.toks) (fun b o hb e=>(sb.2 b hb).trans e) L M N O R
  have rk:RelV (kV k) A:=by
   rcases qE p with⟨i,t,rfl,rfl⟩ | ⟨x,t,rfl,rfl⟩
   .show⟨t,rfl⟩
   .show⟨t,rfl⟩
  rw[<- jY B] at n;obtain⟨o2,e2,c2,d2⟩:=id n;show⟨A,rfl,qdt (s:={ s with heap:=h' }) e2 c2 d2 (by decide) ⟨kV k,H,I1,rk,⟨rfl,k,v,y,rfl⟩,n,fun b hb=>(D b hb).1⟩⟩
 done:=by
  intro X U hw T hc i j s σ H E I D st W;subst U hw T;obtain⟨S,hi⟩:=W;obtain⟨g,hz,aa,vs,B,o',J,F,f,l,a,Y,hp,m⟩:=I.hok d _ S;rw[g] at f;cases f;rw[C] at a;cases a;obtain⟨L,M,f2,N,O,R⟩:=D it (by simp);have hl:=jY B;rw[hl] at st;show wpAny_pyNext_dict_end (knd:=qI X.prog X.w) (I.ok.hd hc) st ⟨o,G,g,l,C,Y,hp,m⟩ (by rw[List.getElem?_eq_none_iff];lk) fun h' eb=>⟨rfl,I.turned (t':=s.toks) (fun b o hb e=>eb b o hb e) L M N O R⟩
 self:=fun _ _ _ _ _ st h=>wpAny_pyIter_keyiter st h
def qfg(c:TE):TI:=fun d H R=>c d H fun v b=>∃ a kvs,v=.ref a/\b a=some (.dK kvs)/\∀ o,R (Itk a o kvs) (upd b a (.frz o (.dK kvs)))
theorem pi_dct{X:Cx}{D e:Expr}{r:TE}(u:PE X e r):PI X D e (qfg r):=by
 intro d s E H R I h;show thn (u d s E H _ I h) fun v f ⟨y,F,m,B,A⟩=>?_;obtain⟨a,kvs,rfl,n,q⟩:=A;cases B;obtain⟨hz,l,vs,C,o,t,ep,p,i,c,x,z,j⟩:=m.hok a _ n;have hl:=jY C;have g:=m.freeze n p;show wpAny_pyIter_dict (knd:=qI X.prog X.w) l ⟨o,t,p,i,c,x,z,j⟩ ?_;show⟨f.heap.objs.size,[f.heap.objs.size],_,_,_,rfl,g.kept (t':=f.toks) fun b o e=>yt _ e,turn_keys a _ o kvs c,⟨_,yJ _ rfl,rfl,by rw[hl];rfl⟩,fun b hb=>?_,q o⟩;have e:b=f.heap.objs.size:=by simpa using hb
 subst e;show g.fpOk (yh _) (g.hok.fresh (yh _))
theorem viDct{c:TE}{d:St}{H:Hp}{R:It->Hp->Prop}(h:c d H fun v b=>∃ a kvs,v=.ref a/\b a=some (.dK kvs)/\∀ o,R (Itk a o kvs) (upd b a (.frz o (.dK kvs)))):qfg c d H R:=h
theorem for_keys{d:Addr}{o:Obj}{kvs:List (Key×V)}{g:TG}{r:TS}{D:Ends}{a:St}{H:Hp}(b:Nat->St->Hp->Prop)(s:b 0 a H)(hl:∀ i a H,i<=kvs.length->b i a H->H d=some (.frz o (.dK kvs)))
  (w:∀ i k v a H,kvs[i]?=some (k,v)->b i a H->g (kV k) a H fun f j=>r { D with nx:=b (i+1),ct:=b (i+1),bk:=D.nx } f j) (t:∀ a H,b kvs.length a H->D.nx a H) :
  ∃ W:Nat->Nat->St->Hp->Prop,(∃ m,W 0 m a H)/\∀ i m a H,W i m a H ->
   ((Itk d o kvs).stop i H/\D.nx a H)\/((Itk d o kvs).go i H/\∃ N:St->Hp->Prop,(∀ c H',N c H'->∃ n,n<m/\W (i+1) n c H')/\∀ x H',(Itk d o kvs).yld i H x H'->g x a H' fun f j=>r { D with nx:=N,ct:=N,bk:=D.nx } f j):=by
 show⟨fun i m a H=>m=kvs.length-i/\i<=kvs.length/\b i a H,⟨kvs.length,by simp,Yi _,s⟩,?_⟩;rintro i m a H ⟨rfl,u,p⟩;have q:=hl i a H u p;by_cases h:i<kvs.length
 .show .inr ⟨⟨q,h⟩,b (i+1),fun c H' z=>⟨kvs.length-(i+1),by lk,rfl,h,z⟩,fun x H' y=>?_⟩;obtain⟨e,k,v,l,rfl⟩:=y;subst e;show w i k v a _ l p
 .have e:i=kvs.length:=by lk
  subst e;show .inl ⟨⟨q,rfl⟩,t a H p⟩
end L2
namespace L2
open PySem PySem.Spec PyProof.Rows PySem.W
variable{A:Around}{H H0:Hp}{P:Program}{a c f:Addr}{body:Expr}{e:Nat}{h:Heap}{params:Arguments}{q:Str}{scope:Scope}{w:World}{ws:List Value}{xs:List V}{zk:LQ}
noncomputable def LsO(a:Addr)(xs:Array Value)(e:Nat):HO:=.ext fun h=>h.get? a=some (seqObj "list" xs e)
theorem LsO.ok{xs:Array Value}(q:h.get? a=some (seqObj "list" xs e)):ObjOk P w H h a (LsO a xs e):=
 ⟨q,⟨_,q⟩,fun _ _ h1 k=>k _ h1⟩
theorem LsO.at{xs:Array Value}(ok:HOk P w H h)(q:H a=some (LsO a xs e)):h.get? a=some (seqObj "list" xs e):=(ok a _ q).1
section
variable{M:Model}{A:Around}{E:Value->Shared->Prop}{s:Shared}{a kl:Addr}{ws:List Value}{zk:LQ}{kx:Array Value}{e e1:Nat}{P:PySem.Fin->Shared->Prop}
theorem qc8{sq:SortSt}(q:s.heap.get? kl=some (seqObj "list" kx e))(w:s.heap.get? a=some (seqObj "list" #[] e1))(g:kl≠a)
  (n:IntsAre kx.toList zk) (u:zk.length=ws.length) (hw:ws.length<64) (o:(arrOf sq).Perm (kx.zip ws.toArray)) (v:SortedTo (arrOf sq) (arrOf sq).size) (f:failedOf sq=none)
  (h:∀ i h' out c t,Heap.SameBut kl s.heap i->i.get? kl=some (seqObj "list" #[] t)->Heap.SameBut a i h'->h'.get? a=some (seqObj "list" out c)->KskOut false zk ws out.toList->P (.done (.ret .none)) { s with heap:=h' }) :
  wpAny M A (ksk_tail a false e1 (.ref kl) sq) P E s:=by
 have p:kx.size=ws.length:=by
  have h1:=n.length;rw[YA] at h1;lk
 have j:((arrOf sq).map (·.2)).size=ws.length:=by rw[Array.size_map,o.size_eq,Array.size_zip,p,yv,Nat.min_self]
 have r:=YB s.heap kl (Obj.mapSeq fun _=>(#[]:Array Value));have m:=XC q fun _=>(#[]:Array Value);have d:(s.heap.update kl (Obj.mapSeq fun _=>(#[]:Array Value))).get? a=some (seqObj "list" #[] e1):=(r.2 a g.symm).trans w;have x:=YB (s.heap.update kl (Obj.mapSeq fun _=>(#[]:Array Value))) a (Obj.mapSeq fun _=>(arrOf sq).map (·.2));have l:=XC d fun _=>(arrOf sq).map (·.2);unfold ksk_tail
 try dsimp only
 show yr (XZ q rfl ?_ (by rw[p,yX];lk) (Yi _));show yr (wpAny_letGo ?_);show yr (seqEpoch_at d rfl ?_);show yr (XZ d rfl ?_ (Yi _) (yi (Xc j) (by rw[yX];lk)));rw[f];simp only[bne_self_eq_false,YR,xT];have z:=ksk_out (b:=false) n o v;show yu (h _ _ _ _ _ r m x l z)
theorem sk_end{prog:Program}(t:s.heap.get? kl=some (seqObj "list" kx e))(r:s.heap.get? a=some (seqObj "list" #[] e1))(m:kl≠a)
  (l:IntsAre kx.toList zk) (g:zk.length=ws.length) (hw:ws.length<64)
  (h:∀ o h' out c y,Heap.SameBut kl s.heap o->o.get? kl=some (seqObj "list" #[] y)->Heap.SameBut a o h'->h'.get? a=some (seqObj "list" out c)->KskOut false zk ws out.toList->P (.done (.ret .none)) { s with heap:=h' }) :
  wpAny (model prog w) A (ksk_end a false ws.toArray e1 (.ref kl) kx) P E s:=by
 have q:kx.size=ws.length:=by
  have h1:=l.length;rw[YA] at h1;lk
 have d:(kx.zip ws.toArray).size=ws.length:=by rw[Array.size_zip,q,yv,Nat.min_self]
 unfold ksk_end
 try dsimp only
 rw[yz Yh];by_cases f:ws.toArray.size<2
 .rw [yF f,yF f];show yr (yu ?_);rw[StateT.run_pure];show yr (yu ?_);try dsimp only;show qc8 (sq:=SortSt.mk' general' (kx.zip ws.toArray) #[] 7 none) t r m l g hw (Array.Perm.refl _) ?_ rfl h;intro i j B C;have n:j<(kx.zip ws.toArray).size:=C;rw[d] at n;rw[yv] at f;have:i=j:=by lk
  subst this;show Int.le_refl _
 .rw [yz f,yz f];rw[yv] at f;rw[ksk_kind l (by rw[q];lk)];show yr (yu ?_);show yr (Yz (wpS_sortRuns (a₀:=kx.zip ws.toArray) (st:=SortSt.mk' oneType' (kx.zip ws.toArray) #[] 7 none)
   (Q:=fun _ b=>(arrOf b).Perm (kx.zip ws.toArray)/\failedOf b=none/\SortedTo (arrOf b) (kx.zip ws.toArray).size)
   (ksk_intKeys l) ⟨Array.Perm.refl _,rfl,rfl,rfl⟩ (by rw[d];lk) (by rw[d];show hw) fun b u v x=>⟨u,v,x⟩) ?_ fun _ _ e=>e)
  rintro⟨⟨⟩,b⟩ F ⟨rfl,p,z,D⟩
  try dsimp only
  show qc8 t r m l g hw p (by rw[p.size_eq];show D) z h
end
def KSo(zk:LQ)(xs ys:List V):Prop:=∃ ps:List (Int×V),ps.Perm (zk.zip xs)/\ys=ps.map Prod.snd/\ps.Pairwise fun p q=>p.1<=q.1
theorem qaB{f g:Type}{R:f->g->Prop}{b e:List g}(p:b.Perm e):∀{a:List f},Paired R a b->∃ c,c.Perm a/\Paired R c e:=by
 induction p with
 | nil=>show fun{a} h=>⟨a,.refl _,h⟩
 | cons x _ ih =>
  intro a h
  cases h with
  | cons r t=>obtain⟨c,j,t'⟩:=ih t;show⟨_,j.cons _,.cons r t'⟩
 | swap x y l =>
  intro a h
  cases h with
  | cons r t =>
   cases t with
   | cons r2 d=>show⟨_,.swap _ _ _,.cons r2 (.cons r d)⟩
 | trans _ _ i1 i2 =>
  intro a h;obtain⟨q,m,o⟩:=i1 h;obtain⟨i,n,d⟩:=i2 o;show⟨i,n.trans m,d⟩
def qfh(p:Int×V)(q:Int×Value):Prop:=p.1=q.1/\RelV p.2 q.2
theorem qct:∀{zk:LQ} {xs:List V} {ws:List Value},Vals xs ws->Paired qfh (zk.zip xs) (zk.zip ws)
 | [],_,_,_=>.nil
 | _::_,_,_,.nil=>.nil
 | _::_,_,_,.cons r t=>.cons ⟨rfl,r⟩ (qct t)
theorem qbc:∀{ps:List (Int×V)} {qs:List (Int×Value)},Paired qfh ps qs->Vals (ps.map Prod.snd) (qs.map Prod.snd)/\ps.map Prod.fst=qs.map Prod.fst
 | _,_,.nil=>⟨.nil,rfl⟩
 | _,_,.cons r t=>⟨.cons r.2 (qbc t).1,by rw[yV,yV,(qbc t).2,r.1]⟩
theorem kso_of{out:List Value}(r:Vals xs ws)(h:KskOut false zk ws out):∃ ys,Vals ys out/\KSo zk xs ys:=by
 obtain⟨ps,a,rfl,b⟩:=h;obtain⟨qs,c,d⟩:=qaB a.symm (qct (zk:=zk) r);obtain⟨e,f⟩:=qbc d;show⟨_,e,qs,c,rfl,?_⟩;have h1:(ps.map Prod.fst).Pairwise (·<=·):=YI.mpr (b.imp fun h=>by simpa using h);rw[<- f] at h1;show YI.mp h1
section
variable{X:Cx}{pins:List (Addr×Obj)}{σ:St}{H:Hp}{s:Shared}{E:Value->Shared->Prop}
theorem Same.put{x:Addr}{o:HO}(h:L2.Same H0 H)(n:H0 x=none):L2.Same H0 (upd H x o):=fun c u e=>by
 rw[qh (fun z=>by rw[z,n] at e;cases e)];show h c u e
theorem sk_rest{P:PySem.Fin->Shared->Prop}{f:Value}{d:Addr}{T:Nat}(I:Inv X pins σ H s)(s0:L2.Same H0 H)(ab:H0 a=none)(M:H0 d=none)(t:d≠a)
  (ha:H a=some (LsO a #[] T)) (Z:H d=some (LsO d #[] 0)) (rv:Vals xs ws) (G:zk.length=ws.length) (hw:ws.length<64)
  (turn:∀(i:Nat) (v:V) (u:Value) (k:Int) (H':Hp) (g:Shared),xs[i]?=some v->zk[i]?=some k->RelV v u->L2.Same H0 H'->Inv X pins σ H' g->wpAny (model X.prog X.w) A (call f [u]) (EP X pins σ fun r H2=>r=.int k/\L2.Same H' H2) (fun _ _=>False) g)
  (h:∀ ys H' g,L2.Same H0 H'->Inv X pins σ H' g->H' a=some (.lst ys)->KSo zk xs ys->P (.done (.ret .none)) g) :
  wpAny (model X.prog X.w) A (ksk_rest a f false ws.toArray T (.ref d)) P E s:=by
 unfold ksk_rest;show yr (wpAny_rule ?_);first
  | rw[List.forIn_toArray]
  | (rw[<- xZ];simp only[List.toList_toArray])
  | rw[<- xZ]
 show yr (ksk_fold (fun i g=>∃ H' m e,Inv X pins σ H' g/\L2.Same H0 H'/\H' a=some (LsO a #[] T)/\H' d=some (LsO d m e)/\IntsAre m.toList (zk.take i)) ws 0 s
  ⟨H,#[],0,I,s0,ha,Z,by simpa using IntsAre.nil⟩ ?step ?done)
 case step =>
  rintro j x g hx ⟨H',m,e,B,S,p,l,y⟩;simp only[xm] at y ⊢;have hj:j<ws.length:=(yc.mp hx).1;obtain⟨k,J⟩:∃ k,zk[j]?=some k:=⟨_,yb (by lk)⟩
  have af:m.size<=ws.length:=by
   have h1:=y.length;rw[YA,yI] at h1;lk
  obtain⟨v,hv⟩:∃ v,xs[j]?=some v:=⟨_,yb (by rw[rv.length];show hj)⟩;obtain⟨x',K,ac⟩:=Vals.get rv hv;rw[hx] at K;cases K;show yr (Xr (Yz (turn j v x k H' g hv J ac S B) (fun u N he=>?_) fun _ _ hF=>hF.elim));obtain⟨r,H2,O,ru,rfl,R⟩:=he;obtain⟨z,rfl⟩:=ru
  try dsimp only
  have L:=LsO.at O.hok (R _ _ l);have s1:=YB N.heap d (Obj.mapSeq (·.push (.int k z)));have F:=XC L (·.push (.int k z));have W:zk.take (j+1)=zk.take j++[k]:=by rw[yK,J];simp
  have U:(m.push (Value.int k z)).toList=m.toList++[Value.int k z]:=by simp
  show yr (XZ L rfl ?_ (by rw[yX];lk) (yi (Xc (kh ..)) (by rw[yX];lk)));show yu ⟨rfl,_,m.push (.int k z),_,O.write (t':=N.toks) (e:=d) (x:=d) (o:=LsO d (m.push (.int k z)) _) (by rw[R _ _ l];trivial) (.inl rfl) (fun b u n q=>(s1.2 b n).trans q) ⟨_,F⟩ (LsO.ok F),(S.trans R).put M,by rw[qh (Yn t)];show R _ _ p,qb,by rw[U,W];show ksk_snoc y⟩
 case done =>
  rintro g ⟨H',m,e,B,S,p,l,y⟩
  have aa:IntsAre m.toList zk:=by
   have Y:zk.take (0+ws.length)=zk:=Yv (by lk);rw[Y] at y;show y
  have L:=LsO.at B.hok l;have na:=LsO.at B.hok p
  try dsimp only
  show yr (listItems_at L rfl ?_);show sk_end L na t aa G hw fun hm h' out c c' ad D ae C ko=>?_;obtain⟨ys,ry,ks⟩:=kso_of rv ko;have I1:Inv X pins σ (upd H' d (LsO d #[] c')) { g with heap:=hm }:=B.write (t':=g.toks) (e:=d) (x:=d) (by rw[l];trivial) (.inl rfl) (fun b u n q=>(ad.2 b n).trans q) ⟨_,D⟩ (LsO.ok D)
  have hl:ys.length<=sizeLine:=by
   obtain⟨ps,p1,rfl,_⟩:=ks;rw[ya,p1.length_eq,List.length_zip,G,yX];lk
  have O:Inv X pins σ (upd (upd H' d (LsO d #[] c')) a (.lst ys)) { g with heap:=h' }:=Inv.write (s:={ g with heap:=hm }) (t':=g.toks) (h':=h') (e:=a) (x:=a) I1 (by rw[qh (Yn t),p];trivial) (.inl rfl) (fun b u n q=>(ae.2 b n).trans q) ⟨_,C⟩ ⟨hl,out.toList,c,ry,by rw[C]⟩;show h ys _ _ ((S.put M).put ab) O qb ks
theorem sk_sorted{l:Addr}{Q:VK}(I:Inv X pins σ H s)(hl:SqL X.K H l xs)(J:zk.length=xs.length)(hw:xs.length<64)
  (turn:∀(i:Nat) (v:V) (u:Value) (k:Int) (H':Hp) (P:Shared),xs[i]?=some v->zk[i]?=some k->RelV v u->L2.Same H H'->Inv X pins σ H' P->wpAny (model X.prog X.w) X.A.in1.in1 (call (.ref f) [u]) (EP X pins σ fun r T=>r=.int k/\L2.Same H' T) (fun _ _=>False) P)
  (q:∀ D ys H',L2.Same H H'->H D=none->H' D=some (.lst ys)->KSo zk xs ys->Q (.ref D) H') :
  wpAny (model X.prog X.w) X.A (call (.builtin "sorted") [.ref l] [(Str.ofString "key",.ref f)]) (EP X pins σ Q) E s:=by
 obtain⟨ws,O,pl,aa⟩:=I.list hl;have N:ws.length<64:=by rw[<- O.length];show hw
 have M:=pl.isList;show call_function_entry_kw kind_sorted plain_sorted entry_sorted (ksk_s1 _ _) ?_;unfold Builtin.«sorted»;show yr (m:=checkCount "sorted" 1 1 _) (yu ?_);show yr (collect_list M ?_ (by rw[yX];lk));show yr (wpAny_newList ?_ (by rw[yX];lk))
 have F:((s.heap.push (seqObj "list" #[] 0)).update s.heap.objs.size (Obj.mapSeq (·++ws.toArray))).objs.size=s.heap.objs.size+1:=by
  rw[Heap.size_update,size_push']
 show wpAny _ _ _ _ _ { s with heap:=((s.heap.push (seqObj "list" #[] 0)).update s.heap.objs.size (Obj.mapSeq (·++ws.toArray))).push (seqObj "list" ws.toArray 0) };rw[F];generalize g:((s.heap.push (seqObj "list" #[] 0)).update s.heap.objs.size (Obj.mapSeq (·++ws.toArray))).push (seqObj "list" ws.toArray 0)=h1
 have a:h1.get? (s.heap.objs.size+1)=some (seqObj "list" ws.toArray 0):=by
  rw[<- g,<- F];show yJ _ rfl
 have keep:∀ b o,s.heap.get? b=some o->h1.get? b=some o:=fun b o q=>by
  have d:b<s.heap.objs.size:=yD q;rw[<- g,Heap.get?_push_ne _ _ _ (by rw[F];show yy (Xg d)),XF _ _ _ _ (yy d),Heap.get?_push_ne _ _ _ (yy d)];show q
 have y:h1.objs.size=s.heap.objs.size+2:=by rw[<- g,size_push',F]
 generalize G:s.heap.objs.size+1=D at a y;have e:H D=none:=I.hok.fresh (by lk);show yr (Yd (wpAny_call_entry_kw slot_list_sort ⟨_,a,rfl⟩ entry_list_sort ?body (ksk_l1 _ _)))
 case body =>
  show wpAny (model X.prog X.w) X.A.in1.in1 (Builtin.«list.sort» ⟨[.ref D],_⟩) _ _ _;rw[ksk_t1];have S:=YB h1 D (Obj.mapSeq fun _=>(#[]:Array Value));obtain⟨C,j⟩:∃ C,(h1.update D (Obj.mapSeq fun _=>(#[]:Array Value))).get? D=some (seqObj "list" #[] C):=⟨_,XC a fun _=>(#[]:Array Value)⟩;unfold ksk_tree;show yr (listItems_at a rfl ?_);show yr (XZ a rfl ?_ (by rw[yv,yX];lk) (Yi _));have B:(h1.update D (Obj.mapSeq fun _=>(#[]:Array Value))).objs.size=h1.objs.size:=Heap.size_update ..;generalize h1.update D (Obj.mapSeq fun _=>(#[]:Array Value))=c at S j B;show yr (seqEpoch_at j rfl ?_);show yr (wpAny_newTuple ?_ (by show ws.length<=_;rw[yX];lk));show yr (wpAny_newList ?_ (Yi _));show Yd ?_;have L:(c.push (seqObj "tuple" ws.toArray 0)).objs.size=s.heap.objs.size+3:=by rw[size_push',B,y]
  show wpAny _ _ (ksk_rest D (.ref f) false ws.toArray _ (.ref (c.push (seqObj "tuple" ws.toArray 0)).objs.size)) _ _ { s with heap:=(c.push (seqObj "tuple" ws.toArray 0)).push (seqObj "list" #[] 0) }
  have kp:∀ b o,s.heap.get? b=some o->((c.push (seqObj "tuple" ws.toArray 0)).push (seqObj "list" #[] 0)).get? b=some o:=fun b o q =>
   yt _ (yt _ ((S.2 b (yy (xQ (yD q) (G ▸ YN _)))).trans (keep b o q)))
  have p:=yt (seqObj "list" #[] 0) (yt (seqObj "tuple" ws.toArray 0) j);have h:((c.push (seqObj "tuple" ws.toArray 0)).push (seqObj "list" #[] 0)).get? (c.push (seqObj "tuple" ws.toArray 0)).objs.size=some (seqObj "list" #[] 0):=yJ _ rfl;rw[L] at h ⊢;generalize (c.push (seqObj "tuple" ws.toArray 0)).push (seqObj "list" #[] 0)=Y at kp p h;have x:H (s.heap.objs.size+3)=none:=I.hok.fresh (YS _ _);have t:s.heap.objs.size+3≠D:=fun z=>by rw[<- G] at z;lk
  have R:L2.Same H (upd (upd H D (LsO D #[] C)) (s.heap.objs.size+3) (LsO (s.heap.objs.size+3) #[] 0)):=((Same.refl H).put e).put x
  have W:Inv X pins σ (upd (upd H D (LsO D #[] C)) (s.heap.objs.size+3) (LsO (s.heap.objs.size+3) #[] 0)) { s with heap:=Y }:=I.laidM (t':=s.toks) kp (fun b hb=>by rw[qh (yy (yj hb (YS _ _))),qh (yy (G ▸ Xg hb))]) fun b u hb n=>by
   by_cases z:b=s.heap.objs.size+3
   .subst z;rw[qb] at n;cases n;show LsO.ok h
   .rw [qh z] at n;by_cases z:b=D
    .subst z;rw[qb] at n;cases n;show LsO.ok p
    .rw [qh z,I.hok.fresh hb] at n;cases n
  show sk_rest W R e x t (by rw[qh (Yn t)];show qb) qb O (by rw[J];show O.length) N turn fun ys H' P sH U Z ks=>⟨_,rfl,?_⟩;show yu ⟨_,rfl,.ref D,H',U,rfl,q D ys H' sH e Z ks⟩
end
noncomputable def CdO(c:Addr)(q:Str):HO:=.ext fun h=>h.CodeRec (.ref c) q
noncomputable def FnO(f:Addr)(o:Obj):HO:=.ext fun h=>h.get? f=some o
theorem CdO.ok(x:h.CodeRec (.ref c) q):ObjOk P w H h c (CdO c q):=by
 show⟨x,?_,fun h1 d r k=>?_⟩
 .obtain⟨b,o,ws,t,e,a,_⟩:=x;cases e;show⟨o,a⟩
 .obtain⟨b,o,ws,t,e,a,r⟩:=r;cases e;show⟨c,o,ws,t,rfl,k o a,r⟩
theorem FnO.ok{o:Obj}(x:h.get? f=some o):ObjOk P w H h f (FnO f o):=⟨x,⟨_,x⟩,fun _ _ r k=>k _ r⟩
def TbO(H:Hp)(P:Addr)(pos:Pos)(q:Str):Prop:=∃ ps:Array Value,H P=some (.tbl ps)/\TriplesOk ps.toList/\(codeAmong pos ps.toList=none\/∃ a,codeAmong pos ps.toList=some (.ref a)/\H a=some (CdO a q))
theorem TbO.same{H':Hp}{P:Addr}{pos:Pos}(h:TbO H P pos q)(s:L2.Same H H'):TbO H' P pos q:=by
 obtain⟨ps,h1,d,e⟩:=h;show⟨ps,s _ _ h1,d,e.imp id fun⟨c,a,b⟩=>⟨c,a,s _ _ b⟩⟩
def qdC(P:Addr)(H H':Hp):Prop:=∀ b o,b≠P->H b=some o->H' b=some o
section
variable{X:Cx}{pins:List (Addr×Obj)}{σ:St}{H:Hp}{s:Shared}{E:Value->Shared->Prop}
theorem lam_make{P:Addr}{pos:Pos}{g:List (Str×Addr)}{Q:VK}(I:Inv X pins σ H s)(l:X.env.code=.ref c)(C:CodeHd X.base c P)(hb:X.base.BuiltinsAt X.mg P)(T:TbO H P pos (X.env.qual++"<lambda>"))(y:closureFor scope X.env=pure g)(B:defaultsOf params X.env=([],[]))
  (q:∀ f a pm h H',qdC P H H'->TbO H' P pos (X.env.qual++"<lambda>")->H f=none->H' f=some (FnO f (kla_obj "<lambda>" (X.env.qual++"<lambda>") params body scope g pm a h))->H' a=some (CdO a (X.env.qual++"<lambda>"))->Q (.ref f) H') :
  wpAny (model X.prog X.w) X.A (eval (.Lambda params body scope pos) X.env) (EP X pins σ Q) E s:=by
 obtain⟨ps,i,F,x⟩:=T;show kla_eval B ?_;have R:=I.mod.glob.keeps I.bk;have p:s.heap.get? P=some (tabObj ps):=I.hok _ _ i
 have Z:s.heap.BuiltinsAt X.mg P:=by
  obtain⟨bm,o,b1,b2,b3,b4,b5,b6⟩:=hb;show⟨bm,o,b1,b2,b3,b4,I.bk _ _ b5,b6⟩
 have lt:∀ b u,H b=some u->b<s.heap.objs.size:=fun b u e=>Xn fun z=>by rw[I.hok.fresh z] at e;cases e
 rcases x with x | ⟨a,x,hc'⟩
 .have S:mainGlobals≠P:=fun z=>by
   obtain⟨o,es,ep,e,hd,_⟩:=R;rw[z,p] at e;cases e;cases hd
  show kla_makeFunction (mg:=X.mg) y I.ok.glob R l (C.keeps I.bk) p F x S Z fun a h h' tk hx j m D U=>?_;have n1:a≠P:=fun z=>by have:=lt _ _ i;rw[z] at j;show absurd this (Nat.not_lt.mpr j)
  have n2:h'.objs.size≠P:=fun z=>by rw[<- z] at i;show absurd (xQ (lt _ _ i) (Y0 j m)) (Yk _)
  have n3:a≠h'.objs.size:=yy m;have J:∀ b,b<s.heap.objs.size->b≠a/\b≠h'.objs.size:=fun b hb=>⟨yy (yj hb j),yy (xQ (yj hb j) m)⟩;have Y:∀ b,b<s.heap.objs.size->b≠P->∀ o1 o2 o3,upd (upd (upd H P o1) a o2) h'.objs.size o3 b=H b:=fun b hb O o1 o2 o3=>by rw[qh (J b hb).2,qh (J b hb).1,qh O]
  have kp:∀ b o,b≠P->s.heap.get? b=some o->(h'.push (kla_obj "<lambda>" (X.env.qual++"<lambda>") params body scope g ((X.mg "__name__").getD .none) a h)).get? b=some o:=fun b o n e=>yt _ (hx b o n e);have M:upd (upd (upd H P (.tbl (ps++#[rawInt pos.line,rawInt pos.col,.ref a]))) a (CdO a (X.env.qual++"<lambda>"))) h'.objs.size (FnO h'.objs.size (kla_obj "<lambda>" (X.env.qual++"<lambda>") params body scope g ((X.mg "__name__").getD .none) a h)) P=some (.tbl (ps++#[rawInt pos.line,rawInt pos.col,.ref a])):=by rw[qh (Yn n2),qh (Yn n1),qb]
  have N:upd (upd (upd H P (.tbl (ps++#[rawInt pos.line,rawInt pos.col,.ref a]))) a (CdO a (X.env.qual++"<lambda>"))) h'.objs.size (FnO h'.objs.size (kla_obj "<lambda>" (X.env.qual++"<lambda>") params body scope g ((X.mg "__name__").getD .none) a h)) a=some (CdO a (X.env.qual++"<lambda>")):=by rw[qh n3,qb]
  have bt:qdC P H (upd (upd (upd H P (.tbl (ps++#[rawInt pos.line,rawInt pos.col,.ref a]))) a (CdO a (X.env.qual++"<lambda>"))) h'.objs.size (FnO h'.objs.size (kla_obj "<lambda>" (X.env.qual++"<lambda>") params body scope g ((X.mg "__name__").getD .none) a h))):=fun b o n e=>by rw[Y b (lt b o e) n];show e
  have G:=yt (kla_obj "<lambda>" (X.env.qual++"<lambda>") params body scope g ((X.mg "__name__").getD .none) a h) U;show⟨.ref h'.objs.size,_,I.un (t':=tk) ⟨fun b o e n hb _=>kp b o (fun z=>by rw[z,i] at n;cases n) e,fun b o e n hb _=>⟨o.slots,kp b o (fun z=>by rw[z,i] at n;cases n) e⟩,fun b o e n _=>(Y b (yD e) (fun z=>by rw[z,i] at n;cases n) _ _ _).trans n,fun b o e _=>?_,fun b xs e=>bt b _ (fun z=>by rw[z,i] at e;cases e) e,fun b o u e=>bt b _ (fun z=>by rw[z,i] at e;cases e) e,fun b qs e=>?_⟩ (fun b u e=>?_),rfl,q _ a _ h _ bt ⟨_,M,?_,.inr ⟨a,?_,N⟩⟩ (I.hok.fresh (yR (Y0 j m))) qb N⟩
  .by_cases z:b=P
   .subst z;show⟨_,G⟩
   .show⟨o,kp b o z e⟩
  .by_cases z:b=P
   .subst z;rw[i] at e;cases e;show⟨_,M⟩
   .show⟨#[],by rw[bt b _ z e];simp⟩
  .by_cases z:b=h'.objs.size
   .subst z;rw[qb] at e;cases e;show FnO.ok (yJ _ rfl)
   .by_cases z2:b=a
    .subst z2;rw[N] at e;cases e;show CdO.ok ?_;obtain⟨c2,o,ws,t,e2,ho,r⟩:=D;cases e2;show⟨b,o,ws,t,rfl,yt _ ho,r⟩
    .by_cases W:b=P
     .subst W;rw[M] at e;cases e;show G
     .rw [qh z,qh z2,qh W] at e;show(I.hok b u e).stay (fun d v hd q=>kp d v (fun z=>?_) q) (fun d hd=>bt d _ (fun z=>by rw[z,i] at hd;cases hd) hd) fun d xs hd=>bt d _ (fun z=>by rw[z,i] at hd;cases hd) hd;rcases hd with hd | hd
      .show W (hd.symm.trans z)
      .rw [z,i] at hd;cases hd
  .have L:(ps++#[rawInt pos.line,rawInt pos.col,Value.ref a]).toList=ps.toList++[rawInt pos.line,rawInt pos.col,.ref a]:=by simp
   rw[L];show TriplesOk_snoc _ _ _ _ F
  .have L:(ps++#[rawInt pos.line,rawInt pos.col,Value.ref a]).toList=ps.toList++[rawInt pos.line,rawInt pos.col,.ref a]:=by simp
   rw[L];show codeAmong_snoc _ F x
 .show kla_makeFunctionHit (mg:=X.mg) y I.ok.glob R l (C.keeps I.bk) p F x Z fun h h' tk hk kq=>?_;have hn:H h'.objs.size=none:=I.hok.fresh kq;have K:=Same.put (o:=FnO h'.objs.size (kla_obj "<lambda>" (X.env.qual++"<lambda>") params body scope g ((X.mg "__name__").getD .none) a h)) (Same.refl H) hn;show⟨.ref h'.objs.size,_,I.laid (t':=tk) (fun b o e=>yt _ (hk b o e)) kq (FnO.ok (yJ _ rfl)),rfl,q _ a _ h _ (fun b o _ e=>K b o e) ⟨ps,K _ _ i,F,.inr ⟨a,x,K _ _ hc'⟩⟩ hn qb (K _ _ hc')⟩
noncomputable def qdD(X:Cx)(A:Around)(N:LS)(b:Str)(scope:Scope)(f c:Addr)(a:List (Str×Addr))(s:Shared)(H:Hp):Cx where
 prog:=X.prog
 w:=X.w
 K:=X.K
 mg:=X.mg
 base:=X.base
 A:=A.deeper (envX b scope s.heap.objs.size f (.ref c) a)
 N:=N
 s₀:=s
 H₀:=H
 env:=envX b scope s.heap.objs.size f (.ref c) a
 outer:=X.stack
 stack:=envX b scope s.heap.objs.size f (.ref c) a::X.stack
 ex:=[]
 calm:=true
 fn:=fun _=>false
 pn:=[]
 xe:=fun _ _=>False
structure LamSc(scope:Scope)(p w:Str):Prop where
 kind:scope.kind=.function
 co:scope.isCoroutine=false
 gen:scope.isGenerator=false
 par:scope.names.lookup p=some .local
 fre:scope.names.lookup w=some .free
 noc:∀ x∈scope.names,x.2≠.cell
 one:∀ x,scope.names.lookup x=some .cell\/scope.names.lookup x=some .free->x=w
theorem lam_call{n g:Addr}{a p d:Str}{pm G:Value}{iw:Nat}{v T:V}{u:Value}{t:TE}{Q:VK}(I:Inv X pins σ H s)(hA:A.frames=some X.stack)(hh:A.handled=none)(C:A.depth<recursionLimit)
  (hf:H f=some (FnO f (kla_obj "<lambda>" a params body scope [(d,g)] pm n G))) (hc:H n=some (CdO n a)) (B:bindArgs (kla_fn "<lambda>" a params body scope [(d,g)] pm (.ref n) G) ⟨[u],[]⟩=pure [(p,u)]) (S:LamSc scope p d) (ab:p≠d)
  (K:X.env.cells.lookup d=some g) (L:X.env.kindOf d=some .cell) (hi:X.N[iw]?=some d) (Z:σ[iw]?=some (some T)) (rv:RelV v u)
  (hb:PE (qdD X A [p,d] a scope f n [(d,g)] s H) body t) (ht:t [some v,some T] H Q):wpAny (model X.prog X.w) A (call (.ref f) [u]) (EP X pins σ Q) E s:=by
 have q:=I.env0;show Xk (kla_callFunE (body:=body) C (I.hok _ _ hf).1 rfl S.co S.gen rfl (I.hok _ _ hc).1 ?_);rw[B];show yu (wpAny_newFunctionEnv S.noc (fun y Y=>?_) (fun l W M=>⟨(I.nolimit).fresh _ M,?_⟩) S.kind)
 .have e:y=(p,u):=by simpa using Y
  rw[e];show S.par
 show codeAny _ _ (.expr body (envX a scope s.heap.objs.size f (.ref n) [(d,g)])) _ _;have U:∀ b o,s.heap.get? b=some o->l.get? b=some o:=fun b o e=>M.extBut b o (yy (yD e)) (yt _ e);obtain⟨m,_,hl⟩:=I.loc;obtain⟨R,aa,lk⟩:=hl iw d T hi Z (.inr (.inl L))
 have F:s.heap.IsCell g (some R):=by
  rcases lk with⟨k,_⟩ | ⟨_,c,e,z⟩
  .rw [L] at k;cases k
  .rw [K] at e;cases e;show z
 have j:l.IsCell g (some R):=let ⟨o,ho,hd⟩:=F;⟨o,U _ _ ho,hd⟩
 have P:∀ x c,([(d,g)]:List (Str×Addr)).lookup x=some c->x=d/\c=g:=fun x c e=>by
  rw[YX] at e;by_cases z:x=d
  .subst z;rw[YQ] at e;show⟨rfl,(ym e).symm⟩
  .rw [Yy.mpr z] at e;cases e
 have D:∀ b:Addr,b∉(qdD X A [p,d] a scope f n [(d,g)] s H).ex:=fun b z=>absurd (show b∈([]:LI) from z) (by simp)
 have J:Inv (qdD X A [p,d] a scope f n [(d,g)] s H) [] [some v,some T] H { s with heap:=l,toks:=s.toks + [(p,u)].length }:=by
  show⟨⟨q.mod,S.kind,rfl,rfl,yh _,fun y z c h1 r=>(P y c h1).1.trans (P z c r).1.symm,fun y Y=>?_,(fun y c h=>by cases h),fun _=>hh,Around.frames_deeper hA,.inr ⟨rfl,rfl⟩,fun b z=>absurd z (D b),q.bs,q.bsz,fun b _ _=>D b,fun b z=>absurd z (D b),q.funs,q.frf⟩,
   rfl,q.bare,Un.kept U,⟨_,W,fun i y v' h1 r h3=>?_⟩,fun y c h=>⟨some R,(P y c h).2 ▸ j⟩,q.hok.fresh (yh _),fun y c h=>by rw[(P y c h).2];show I.freeC d g K,fun p hp=>absurd (show p∈([]:List (Addr×Obj)) from hp) (by simp),q.hok.kept U,rfl⟩
  .have e:=S.one y Y;show⟨g,by rw[e];show List.lookup_cons_self⟩
  .match i,h1,r with
   | 0,h1,r =>
    cases h1;cases r;show⟨u,rv,.inl ⟨S.par,by simp⟩⟩
   | 1,h1,r =>
    cases h1;cases r;show⟨R,aa,.inr ⟨.inr S.fre,g,List.lookup_cons_self,j⟩⟩
   | i+2,h1,_=>cases h1
 show kla_codeExpr (Yz (hb [] _ _ H Q J ht) (fun u' s' ⟨v',H',O,r',q'⟩=>?_) fun _ _ z=>z.elim);show I.after ⟨v',H',O.os,O.bare,O.base,O.hok,r',q'⟩
end
end L2
namespace L2
open PySem PySem.Spec PyProof.Rows
variable{c p:Addr}{ps:Array Value}{x:Str}
theorem law_callT{P:Program}{w:World}{K:yg}{mg mb:Str->Option Value}{CX:CXT}{k:Nat}{U a:Addr}{fd:FuncData}{sp:Sp}{f:Shared}{vs:List Value}{ns:LQ}
  (KX:K.In f.heap) (N:f.heap.Ns mainGlobals mg) (hb:f.heap.Ns builtinsNs mb) (X:∀ x:Str,x≠"__name__"->mb x=bootBuiltins x) (M:f.heap.NoLimit) (hg:f.gens=#[])
  (D:f.heap.get? a=some { cls:=.type "list",data:=.seq vs.toArray }) (hi:IntsAre vs ns) (hl:ns.length<=sizeLine) (hr:Room k callerA) (J:f.heap.TableAt c p ps) (Z:K.lookup p=none)
  (F:∀ j:Heap,K.In j->j.Ns mainGlobals mg->FnOk P w K mg j CX k U fd [x] sp) (C:∀(s:Shared) (u:Value),BindsTo s fd ⟨[u],[]⟩ [(x,u)])
  (aa:∀ H:Hp,H p=some (.tbl ps)->SqL K H a (ns.map V.int)->sp [.ref a] H (fun v _=>v=.bl true) fun _ _ _=>False)
  (W:∀ H e i,CX [] H f (fun _ _ _=>False) e i->False) :
  codeAny (model P w) callerA (.call (.ref U) ⟨[.ref a],[]⟩) (fun r i=>r=.ok (.ret (.bool true))/\OldK f.heap i.heap/\i.os=f.os/\AllBare i.gens) f:=by
 have rv:=qat hi;have S:=hi.length;have y:∀ H:Hp,H p=some (.tbl ps)->(∀ b,b=p\/H b=none\/∃ o xs,H b=some (.frz o (.lst xs)))->SqL K H a (ns.map V.int)->HOk P w H f.heap->(∀ b,H b≠none->b=a\/b=p)->(H a≠none->K.lookup a=none) ->
   codeAny (model P w) callerA (.call (.ref U) ⟨[.ref a],[]⟩) (fun r i=>r=.ok (.ret (.bool true))/\OldK f.heap i.heap/\i.os=f.os/\AllBare i.gens) f:=by
  intro H hp hO hS O hA hK;have base_of:∀{b:Addr} {o:Obj},f.heap.get? b=some o->H b=none->(qcc f.heap H).get? b=some o:=fun e n=>qcd e n
  have ab:∀{b:Addr} {o:Obj} {G:Array DictEntry} {ep:Nat},f.heap.get? b=some o->o.data=.dict G ep->H b=none:=fun{b o G ep} e d=>by
   cases q:H b with
   | none=>rfl
   | some u =>
    rcases hA b (by rw[q];simp) with e' | e'
    .subst e';rw[D] at e;cases e;have d':Data.seq vs.toArray _=Data.dict G ep:=d;cases d'
    .subst e';rw[J.2] at e;cases e;cases d
  have l:∀{b:Addr} {m:Str->Option Value},f.heap.Ns b m->(qcc f.heap H).Ns b m:=fun{b m} ⟨o,G,ep,e,d,r⟩=>⟨o,G,ep,base_of e (ab e d),d,r⟩
  have I:K.In (qcc f.heap H):=fun b o e=>base_of (KX b o e) (by
   cases q:H b with
   | none=>rfl
   | some u =>
    rcases hA b (by rw[q];simp) with e' | e'
    .subst e';rw[hK (by rw[q];simp)] at e;cases e
    .subst e';rw[Z] at e;cases e)
  have hM:Mod K mg (qcc f.heap H):=⟨I,l N,⟨mb,l hb,X⟩,let ⟨mc,h1,h2⟩:=M;⟨mc,l h1,h2⟩⟩;have e0:Env0 P w K mg (qcc f.heap H) callerA [] f H:=⟨rfl,hM,fun b o e=>qcP e,Xc (qbo _ _),trivial,fun b hb=>absurd (show b∈([]:LI) from hb) (by simp),O,.of_eq hg⟩;show XH ((F _ I (l N)).run callerA [] f H ⟨[.ref a],[]⟩ [.ref a] [.ref a] _ _ hr e0 (C f (.ref a)) (.cons rfl .nil) (aa H hp hS)) fun r i h=>?_
  cases r with
  | error e=>show(W H e i h).elim
  | ok fl =>
   cases fl with
   | next=>show False.elim h
   | brk=>show False.elim h
   | cont=>show False.elim h
   | ret u =>
    obtain⟨v,H',os,E,un,A,r',q⟩:=h;have q':v=.bl true:=q;subst q';obtain rfl:u=Value.bool true:=r';show⟨rfl,⟨fun b o e=>?_,fun b o e=>un.there b o e (by simp)⟩,os,E⟩;rcases hO b with z | q | ⟨ob,xs,z⟩
    .subst z;obtain⟨B,z2⟩:=un.tbls b ps hp;have T:i.heap.get? b=some { cls:=.none,data:=.fields (ps++B) }:=A b _ z2;rw[J.2] at e;cases e;show .inr (.inl ⟨J.isCodeTable,rfl,ps,B,rfl,T⟩)
    .show .inl (un.keep b o e q (by intro z;show absurd (show b∈([]:LI) from z) (by simp)) (by simp))
    .have z2:=un.frzs b ob _ z;obtain⟨e1,_⟩:=O b _ z;obtain⟨T,_⟩:=A b _ z2;rw[e] at e1;cases e1;show .inl T
 have L:a≠p:=fun z=>by rw[z,J.2] at D;cases D
 have R:∀{H:Hp},ObjOk P w H f.heap p (.tbl ps):=J.2
 cases Y:K.lookup a with
 | some o =>
  have e:=KX a o Y;rw[D] at e;cases e;show y (fun b=>if b=p then some (.tbl ps) else none) (yF rfl) (fun b=>?_) (.inr ⟨_,vs.toArray,_,Y,rfl,rfl,rfl,by rw[yv,S];show hl,by simpa using rv⟩) (fun b u z=>?_) (fun b z=>?_) fun z=>absurd (yz L) z
  .by_cases hb:b=p
   .show .inl hb
   .show .inr (.inl (yz hb))
  .by_cases hb:b=p
   .have t:=(yF hb).symm.trans z;cases t;subst hb;show R
   .have t:=(yz hb).symm.trans z;cases t
  .by_cases hb:b=p
   .show .inr hb
   .show absurd (yz hb) z
 | none =>
  show y (fun b=>if b=p then some (.tbl ps) else if b=a then some (.frz { cls:=.type "list",data:=.seq vs.toArray } (.lst (ns.map V.int))) else none) (yF rfl) (fun b=>?_) (.inl (.inr ⟨{ cls:=.type "list",data:=.seq vs.toArray },(yz L).trans (yF rfl)⟩)) (fun b u z=>?_) (fun b z=>?_) fun _=>Y
  .by_cases hb:b=p
   .show .inl hb
   .by_cases g:b=a
    .show .inr (.inr ⟨_,_,(yz hb).trans (yF g)⟩)
    .show .inr (.inl ((yz hb).trans (yz g)))
  .by_cases hb:b=p
   .have t:=(yF hb).symm.trans z;cases t;subst hb;show R
   .by_cases g:b=a
    .have t:=((yz hb).trans (yF g)).symm.trans z;cases t;subst g;show⟨D,by rw[ya];show hl,vs,_,rv,D⟩
    .have t:=((yz hb).trans (yz g)).symm.trans z;cases t
  .by_cases hb:b=p
   .show .inr hb
   .by_cases g:b=a
    .show .inl g
    .show absurd ((yz hb).trans (yz g)) z
theorem walk_ofT{l:PySem.W.OpenLaw}{n k:Nat}{q:Program}{loose:LS}{XP:(Str->Option Value)->Heap->Prop}{YP:World->Heap->Prop}{d:DefRec}{K:Params->yg}{CX:World->CXT}{sp:World->Sp}
  (hn:l.most=some n) (D:n<=sizeLine) (B:d.params.defaults=[]) (hr:Room k callerA)
  (U:∀(w:World) (h:Heap),YP w h->(K w.params).In h/\h.TableAt c p ps) (E:∀ w:World,(K w.params).lookup p=none)
  (F:∀(w:World) (mg:Str->Option Value) (y:Addr) (h:Heap),(K w.params).In h->h.Ns mainGlobals mg->mg d.name=some (.ref y) ->
   ∃ z:FuncData,(∀(s:Shared) (u:Value),BindsTo s z ⟨[u],[]⟩ [(x,u)]) /\
    ∀ i:Heap,(K w.params).In i->i.Ns mainGlobals mg->FnOk l.prog w (K w.params) mg i (CX w) k y z [x] (sp w))
  (I:∀(w:World) (H:Hp) (a:Addr) (ns:LQ),ns.length<=n->H p=some (.tbl ps)->SqL (K w.params) H a (ns.map V.int)->sp w [.ref a] H (fun v _=>v=.bl true) fun _ _ _=>False)
  (A:∀(w:World) (H:Hp) (s:Shared) (e:Value) (J:Shared),CX w [] H s (fun _ _ _=>False) e J->False) :
  PySem.W.WalkO q loose XP YP l.row.toRowW d [] (fun f vs=>PySem.call f vs):=by
 show Att.attach_call hn B fun w M t mg mb y o pm cd N a vs ns G Y ho hd X C r m j Z=>?_;obtain⟨L,S⟩:=U w _ Y;obtain⟨z,hb,O⟩:=F w mg y _ L G.T.g C;show law_callT L G.T.g G.T.b G.T.builtins G.T.nolimit Z r m (yi j D) hr S (E w) O hb (fun H P R=>I w H a ns j P R) fun H e J=>A w H t e J
end L2
namespace L2
open PySem PySem.Spec PyProof.Rows PySem.W
variable{c tb:Addr}{h:Heap}
inductive SrK(K:yg)(P:Addr)(lp:Pos)(qual:Str)(iw:Nat)(t:TE)(σ:St)(x:V)(H:Hp)(Q:VK):Prop
 | mk (l:Addr) (xs:List V) (zk:LQ) (wv:V) (_:x=.ref l) (_:SqL K H l xs) (_:zk.length=xs.length) (_:xs.length<64) (_:TbO H P lp qual) (_:σ[iw]?=some (some wv))
  (_:∀(i:Nat) (v:V) (k:Int) (H':Hp),xs[i]?=some v->zk[i]?=some k->qdC P H H'->t [some v,some wv] H' fun r H2=>r=.int k/\L2.Same H' H2)
  (_:∀(D:Addr) (ys:List V) (H':Hp),qdC P H H'->TbO H' P lp qual->H D=none->H' D=some (.lst ys)->KSo zk xs ys->Q (.ref D) H')
def tSortK(K:yg)(P:Addr)(d:Pos)(a:Str)(iw:Nat)(e t:TE):TE:=fun b H Q=>e b H fun x c=>SrK K P d a iw t b x c Q
section
variable{X:Cx}{K:yg}{e body:Expr}{te t:TE}{p lp kp pos:Pos}{params:Arguments}{scope:Scope}{c P cw:Addr}{pn wn:Str}{iw:Nat}{k:Nat}
theorem pe_sortK(hK:X.K=K)(hm:X.mg "sorted"=none)(r:X.env.code=.ref c)(C:CodeHd X.base c P)(hB:X.base.BuiltinsAt X.mg P)(hr:Room (k+3) X.A)(he:PE X e te)
  (Z:closureFor scope X.env=pure [(wn,cw)]) (F:defaultsOf params X.env=([],[])) (S:LamSc scope pn wn) (ae:pn≠wn) (aa:X.env.cells.lookup wn=some cw) (ac:X.env.kindOf wn=some .cell) (hi:X.N[iw]?=some wn)
  (m:∀(J:Str) (B:Value) (d:Addr) (a u:Value),bindArgs (kla_fn "<lambda>" J params body scope [(wn,cw)] B (.ref d) a) ⟨[u],[]⟩=pure [(pn,u)])
  (hb:∀(A:Around) (f d:Addr) (s:Shared) (H:Hp),Room (k+1) A->PE (qdD X A [pn,wn] (X.env.qual++"<lambda>") scope f d [(wn,cw)] s H) body t)
  (hg:Gl X "sorted":=by rfl) (h1:starEach [e] X.env=(false,eval e X.env)::starEach [] X.env:=by rfl) (h2:(backTo pos (starEach [e] X.env)).any (·.1)=false:=by rfl) :
  PE X (.Call (.Name "sorted" p) [e] [⟨some "key",.Lambda params body scope lp,kp⟩] pos) (tSortK K P lp (X.env.qual++"<lambda>") iw te t):=by
 subst hK;intro G s σ H Q I h;show xz (qae (u:=.builtin "sorted") I hg hm rfl ?_ (by decide) (by decide));show callWith_kw ?_ (by rw[h1];rfl) h2 rfl rfl;show thn (qa he qd h1 pos G s σ H (fun vs L=>match vs with | [x]=>SrK X.K P lp (X.env.qual++"<lambda>") iw t σ x L Q | _=>False) I h) fun us s1 ⟨vs,L,I1,r1,y⟩=>?_
 match vs,r1,y with
 | [],_,y=>show y.elim
 | _::_::_,_,y=>show y.elim
 | [x],r1,y =>
  obtain⟨l,xs,zk,wv,rfl,hl,ab,hw,T,af,kt,q⟩:=y;obtain⟨u,rfl,ru⟩:=qap r1;obtain rfl:u=.ref l:=ru;show wpAny _ _ (evalAll [(do let v <- eval (.Lambda params body scope lp) X.env;standAt pos;pure v)]) _ _ s1;show wpAny_evalAll_cons (yr (thn (lam_make (Q:=fun v g=>∃ f d B a,v=.ref f/\qdC P L g/\TbO g P lp (X.env.qual++"<lambda>")/\g f=some (FnO f (kla_obj "<lambda>" (X.env.qual++"<lambda>") params body scope [(wn,cw)] B d a))/\g d=some (CdO d (X.env.qual++"<lambda>"))) I1 r C hB T Z F fun f d B a g j M _ U R=>⟨f,d,B,a,rfl,j,M,U,R⟩) fun v s2 ⟨v',g,I2,r2,f,d,B,a,e2,j,M,U,R⟩=>yr (XW (yu ?_))));subst e2;obtain rfl:v=.ref f:=r2;show wpAny_evalAll_nil ?_;show wpAny _ _ (call (.builtin "sorted") [.ref l] [(Str.ofString "key",.ref f)]) _ _ s2
  have ad:SqL X.K g l xs:=by
   obtain⟨ps,W,_⟩:=T;rcases hl with hl | hl
   .show .inl ?_;rcases hl with hl | ⟨o,hl⟩
    .show .inl (j _ _ (fun z=>by rw[z,W] at hl;cases hl) hl)
    .show .inr ⟨o,j _ _ (fun z=>by rw[z,W] at hl;cases hl) hl⟩
   .show .inr hl
  show sk_sorted I2 ad ab hw (fun i v u k H' s' hv hk rv E I'=>?_) fun D ys H' E O eD ks=>q D ys H' (fun b o n e=>E b o (j b o n e)) (M.same E) ?_ eD ks
  .have w:=hr.in1.in1;show lam_call I' I'.ok.frames w.hd w.depth (E _ _ U) (E _ _ R) (m _ _ _ _ _) S ae aa ac hi af rv (hb _ _ _ _ _ w) (kt i v k H' hv hk fun b o n e=>E b o (j b o n e))
  .cases e:L D with
   | none=>rfl
   | some o =>
    obtain⟨ps,W,_⟩:=id T;by_cases z:D=P
    .obtain⟨ag,Y,_⟩:=M;rw[z,Y] at O;cases O
    .rw [j D o z e] at O;cases O
end
theorem lam_sc{scope:Scope}{p w:Str}(h1:scope.kind=.function)(b:scope.isCoroutine=false)(c:scope.isGenerator=false)(d:scope.names.lookup p=some .local)(e:scope.names.lookup w=some .free)(a:∀ x∈scope.names,x.2≠.cell)(f:∀ x∈scope.names,x.2=.free->x.1=w):LamSc scope p w:=
 ⟨h1,b,c,d,e,a,fun x h=>by
  rcases h with h | h
  .show absurd rfl (a _ (YJ h))
  .show f _ (YJ h) rfl⟩
theorem ki_tup{X:Cx}{K:yg}{d e:Expr}{a:TE}(b:X.K=K)(c:PE X e a):PI X d e (qe5 K a):=by subst b;show pi_tup c
theorem hu_lam{k:Nat}{A:Around}(r:Room k A):A.units+100<cLine:=by have:=r.un;lk
section
variable{P:Program}{w:World}{K:yg}{mg:Str->Option Value}{base:Heap}
theorem Fun.okC{x b:Str}{st:Stmt}{f:Addr}{g:FuncData}{N ps:LS}{k:Nat}{sp:Sp}(F:Fun K x b st f g)(j:g.code=.ref c)(S:FnScope N ps (qg st))(len:∀ vs H Q E,sp vs H Q E->vs.length=ps.length)
  (d:∀(A:Around) (a:List Env) (s:Shared) (H:Hp) (vs:List V) (Q:VK) (E:XK),Room k (A.deeper (envOfC b (qg st) s.heap.objs.size f (.ref c)))->sp vs H Q E ->
   ∃ t,PSs (qd7 CX0 P w K mg base N b (qg st) f (.ref c) A a s H E).nox (jU st) t/\t { nx:=fun _ H'=>Q .non H',rt:=Q } (start N vs) H):FnOk P w K mg base CX0 (k+1) f g ps sp:=by
 obtain⟨u,od,kV,m,v,r,e,ct,p,rfl,o,i⟩:=F.ex;obtain rfl:e=.ref c:=j;show qer o i S len fun A a s H vs Q E n l=>let ⟨t,h,q⟩:=d A a s H vs Q E n l;⟨t,h.nox,q⟩
end
def FGC(K:yg)(a:Str)(st:Stmt)(c:Addr):Prop:=∃ f b,PySem.W.nsIn K mainGlobals a=some (some (.ref f))/\Fun K a a st f b/\b.code=.ref c
noncomputable def qeX(K:yg)(c tb:Addr):Bool:=match K.lookup c with
 | some ⟨.type t,_,.fields vs,_⟩=>t=="code"&&(match vs.getD 11 .none,vs.getD 18 .none,vs.getD 7 .none,vs.getD 9 .none,vs.getD 10 .none with
  | .ref q,.str _ _,.int _ _,.bool _,.int _ _=>q==tb&&decide (11<vs.size)&&c != tb
  | _,_,_,_,_=>false)
 | _=>false
theorem chd_of{K:yg}(X:K.In h)(e:qeX K c tb=true):CodeHd h c tb:=by
 unfold qeX at e;split at e
 .rename_i t d vs sl ho
  rw[yS] at e;obtain⟨g,a⟩:=e;split at a
  .rename_i q f tf fl tg b x tx h11 h18 h7 h9 h10
   rw[yS,yS] at a;obtain⟨⟨l,m⟩,n⟩:=a;have i:q=tb:=yY.mp l;have j:t="code":=yY.mp g;subst i j;have hl:=yk m;show⟨_,vs,f,tf,fl,tg,b,x,tx,X _ _ ho,rfl,rfl,?_,h11,h18,h7,h9,h10,by simpa using n⟩;rw[<- h11,Array.getD_eq_getD_getElem?,YL hl];rfl
  .cases a
 .cases e
noncomputable def bmB(K:yg)(a tb:Addr):Bool:=match K.lookup a with
 | some ⟨.type t,some d,.plain,_⟩=>t=="module"&&d==builtinsNs&&a != builtinsNs&&a != mainGlobals&&a != tb
 | _=>false
theorem bm_of{K:yg}{a:Addr}{mg:Str->Option Value}(X:K.In h)(m:mg "__builtins__"=some (.ref a))(e:bmB K a tb=true):h.BuiltinsAt mg tb:=by
 unfold bmB at e;split at e
 .rename_i t d sl ho
  simp only[yS,yY,bne_iff_ne] at e;obtain⟨⟨⟨⟨b,c⟩,f⟩,g⟩,i⟩:=e;subst b c;show⟨a,_,m,f,g,i,X _ _ ho,rfl,rfl,rfl⟩
 .cases e
end L2
namespace K25
open PySem L2 PyProof.Rows
variable{A:Around}{G H H' H1 H2 J:Hp}{K:W.Frag}{L:List (LS)}{M N e i j n:Nat}{U Yw ah rs seen ss:LS}{a b c s t u y z:Str}{ab q:Str×Str}{cw dx l p r tb x:Addr}{d ol:V}{fd:FuncData}{g:Str->Option Str}{nb nb':Str->LS}{ns:LN}{o:HO}{ps:Array Value}{qs tps:LP}{ts us:LI}{xs ys:List V}{α β:Type}
theorem Sr(H:Hp):L2.Same H H:=L2.Same.refl H
theorem zC{k:Nat}(a:Room k A):A.units+100<cLine:=by have:=a.un;lk
theorem hmR{k:Nat}(a:Room k A)(h:j<=k:=by decide):Room j A:=a.mono h
local macro_rules | `(tactic| walk_at "w")=>`(tactic| first
 | with_reducible refine vSeq ?_ | with_reducible refine vAsg ?_ | with_reducible refine vAsgS ?_ | with_reducible refine vIfS ?_ | with_reducible refine vRet ?_ | with_reducible refine vNext ?_ | with_reducible refine vC ?_
 | ((with_reducible refine' vVar ?hv ?_);(case hv=>rfl)) | with_reducible refine vOp ?_ | with_reducible refine vChain ?_ | with_reducible refine vNil ?_ | with_reducible refine vCons ?_ | with_reducible refine vCB ?_ | with_reducible refine vCall ?_
 | with_reducible refine vLst ?_ | with_reducible refine vTup ?_ | with_reducible refine vTest ?_ | with_reducible refine vB ?_ | with_reducible refine vNot ?_ | with_reducible refine vAnd ?_ | with_reducible refine vOr ?_
 | with_reducible refine vAndV ?_ | with_reducible refine vOrV ?_ | with_reducible refine vNotV ?_ | with_reducible refine vYes ?_ | with_reducible refine vLeI ?_ | with_reducible refine vLeS ?_ | with_reducible refine vIsB ?_ | with_reducible refine vAddI ?_ | with_reducible refine vSl ?_ | with_reducible refine vNoPart ?_ | with_reducible refine vPart ?_ | with_reducible refine vExI ?_ | with_reducible refine vBM ?_ | with_reducible refine vBM0 ?_ | with_reducible refine vComp ?_ | with_reducible refine vFor ?_ | with_reducible refine vRng1 ?_ | with_reducible refine vAny ?_ | with_reducible refine vGN ?_ | with_reducible refine vI0 ?_ | with_reducible refine vEqI ?_ | with_reducible refine vEqB ?_ | with_reducible refine vEx ?_ | with_reducible refine vDrop ?_ | with_reducible refine vRetN ?_ | with_reducible refine vFldU ?_ | with_reducible refine vSFldU ?_ | with_reducible refine vXMake ?_ | with_reducible refine vMake ?_ | with_reducible refine vMeth ?_ | with_reducible refine vVinit ?_ | with_reducible refine vCallS ?_ | with_reducible refine vRaise ?_ | with_reducible refine vMethS ?_ | with_reducible refine vMakeS ?_ | with_reducible refine vUn ?_ | with_reducible refine vIf ?_ | with_reducible refine vRev ?_ | with_reducible refine vEnum ?_ | with_reducible refine vDGet2 ?_ | with_reducible refine vStep ?_)
local macro_rules | `(tactic| walk_at "v")=>`(tactic| repeat walk_at "w")
local macro_rules | `(tactic| ext)=>`(tactic| walk_at "v")
local macro_rules | `(tactic| apply $e)=>`(tactic| (ext;refine $e))
structure Txt(K:W.Frag)(mg:Str->Option Value)(cc:Nat->Addr)(cw:Addr):Prop where
 b_len:mg "len"=none
 b_int:mg "int"=none
 b_enumerate:mg "enumerate"=none
 b_all:mg "all"=none
 b_max:mg "max"=none
 b_min:mg "min"=none
 b_isinstance:mg "isinstance"=none
 b_bool:mg "bool"=none
 b_str:mg "str"=none
 b_range:mg "range"=none
 b_list:mg "list"=none
 b_tuple:mg "tuple"=none
 g_LONGEST_NAME:∃ tk,mg "LONGEST_NAME"=some (.int 6 tk)
 g_MOST_PLACES:∃ tk,mg "MOST_PLACES"=some (.int 14 tk)
 g_MOST_TIES:∃ tk,mg "MOST_TIES"=some (.int 30 tk)
 wcl:Cls K cw
 wn:NoAttr K cw "numbers"
 wo:NoAttr K cw "order"
 wr:NoAttr K cw "near"
 m_Web:mg "Web"=some (.ref cw)
 b_zip:mg "zip"=none
 b_sorted:mg "sorted"=none
 b_sum:mg "sum"=none
theorem KN:FnScope ["thing"] ["thing"] (qg zn):=fS
theorem KO:FnScope ["bits","number"] ["bits","number"] (qg zP):=fS
theorem KH:FnScope ["numbers","thing"] ["numbers","thing"] (qg zt):=fS
theorem kZ:FnScope ["numbers","thing","both"] ["numbers","thing"] (qg q9):=fS
theorem qG(a:L2.Same H H1)(hl:H1 l=none):L2.Same H (upd H1 l o):=fun c u e=>by
 have q:=a c u e;rw[qh (qA q hl)];show q
theorem qbU(a:L2.Same H H1)(hl:H l=none):L2.Same H (upd H1 l o):=fun c u e=>by
 rw[qh (qA e hl)];show a c u e
noncomputable def sg(c:Nat):Bool:=if (!decide (([c]:LN)<("a":Str).cps.toList))=true then !decide (("z":Str).cps.toList < [c]) else false
noncomputable def zD(x:Str):Bool:=if 1<=x.length/\x.length<=6 then x.cps.toList.all sg else false
theorem nameS_at{x:Str}(h:zD x=true):1<=x.length/\x.length<=6/\x.cps.toList.all sg=true:=by
 unfold zD at h;split at h
 .rename_i z;show⟨z.1,z.2,h⟩
 .cases h
structure All2{α β:Type}(R:α->β->Prop)(l:List α)(m:List β):Prop where
 len:l.length=m.length
 at_:∀(k:Nat) a b,l[k]?=some a->m[k]?=some b->R a b
theorem All2.nil{R:α->β->Prop}:All2 R [] []:=⟨rfl,fun k a b h=>by simp at h⟩
theorem All2.mono{R S:α->β->Prop}{l:List α}{m:List β}(h:All2 R l m)(f:∀ a b,R a b->S a b):All2 S l m:=⟨h.len,fun k a b x y=>f a b (h.at_ k a b x y)⟩
theorem All2.snoc{R:α->β->Prop}{l:List α}{m:List β}{x:α}{y:β}(h:All2 R l m)(r:R x y):All2 R (l++[x]) (m++[y]):=by
 show⟨by rw[yx,yx,h.len];rfl,fun k a b c hb=>?_⟩;by_cases d:k<l.length
 .rw [yP d] at c;rw[yP (by rw[<- h.len];show d)] at hb;show h.at_ k a b c hb
 .rw [Yb (by lk)] at c;rw[Yb (by rw[<- h.len];lk)] at hb
  have e:k-l.length=0:=by
   have:=(yc.mp c).1;simp at this;lk
  rw[<- h.len] at hb;rw[e] at c hb;cases c;cases hb;show r
theorem All2.mem{R:α->β->Prop}{l:List α}{m:List β}(h:All2 R l m){x:α}(c:x∈l):∃ y∈m,R x y:=by
 obtain⟨k,b,e⟩:=List.getElem_of_mem c;have a:k<m.length:=by rw[<- h.len];show b
 show⟨m[k],List.getElem_mem a,h.at_ k x m[k] (by rw[yb b,e]) (yb a)⟩
def PL(H:Hp)(l:Addr)(ts:LI)(tps:LP):Prop:=H l=some (.lst (ts.map V.ref))/\All2 (fun t ab=>H t=some (.tup [.str ab.1,.str ab.2])) ts tps
theorem PL.same(h:PL H l ts tps)(s:L2.Same H H'):PL H' l ts tps:=⟨s _ _ h.1,h.2.mono fun _ _ z=>s _ _ z⟩
section
variable{P:Program}{w:World}{K:W.Frag}{mg:Str->Option Value}{base:Heap}{cc:Nat->Addr}{cw:Addr}{f:Addr}{fd:FuncData}
inductive spName(vs:List V)(H:Hp)(Q:VK)(E:XK):Prop|mk (x:Str) (_:vs=[.str x]) (_:zD x=true) (_:∀ H',L2.Same H H'->Q (.bl true) H')
theorem ok_name(F:Fun K "is_name" "is_name" zn f fd)(T:Txt K mg cc cw):FnOk P w K mg base CX0 1 f fd ["thing"] spName:=by
 show F.ok KN fun _ _ _ _ H vs Q E s h=>?_
 .obtain⟨x,rfl,m,q⟩:=h;obtain⟨t,p,r⟩:=nameS_at m;show⟨_,(qc (qM (PW.pt (qbX (jm (je (qr (qco (K:=K) rfl) rfl T.b_isinstance xF (qa (pv 0) (qa (zg (v:=.ty "str") rfl T.b_str boot_str rfl) qd))))) (qaK (jm (pt_chain qeK qeK qe (qr (jW (K:=K) rfl) rfl T.b_len YF (qa (pv 0) qd)) (qa8 rfl T.g_LONGEST_NAME)))))) (qf (qq jx)) qw)
 (qf (qq (qr (qeb (K:=K) rfl rfl) rfl T.b_all boot_all (qa (jV (sc:=qg zn) (XN:=["thing"]) ["sign"] 1 [] rfl rfl rfl (by room) rfl (by room)
  (qP (K:=K) rfl (pv 0)) (fun _ _ _ _=>(qo (i:=0) (show(["sign"]:LS).Nodup by room) rfl (yN rfl))) jh
  (fun _ _ _ _=>jN)
  (fun _ _ _ _=>(pe_chain qeK qeK zF (pv 0) zF))) qd))))),?_⟩
  apply qdA (.inl (.str x)) rfl (qa9 K "str" (by simp) "str" (by simp)) ?_;apply yq ?_;apply qex (yi p (by decide)) ?_;apply qT (fun h1=>?_) fun h1=>absurd (yH (by lk)) h1;apply qT (fun g=>by simp only[Bool.not_eq_true',decide_eq_false_iff_not] at g;lk) fun g=>?_;apply comp_str (fun i ys H'=>H'=H/\ys=((x.cps.toList.take i).map sg).map V.bl) ⟨rfl,by simp⟩ (fun i c ys H' hc e=>?_) fun ys H' e=>?_
  .obtain⟨rfl,rfl⟩:=e;apply qbT ?_;ext
   have hl:(List.map V.bl (List.map sg (List.take i x.cps.toList))).length<sizeLine:=by
    rw[ya,ya,yI];show qi (yi (X1 _ _) (by simpa [Str.length] using(show x.length<=1000 by lk)))
   have a:∀ b,b=sg c->(List.map V.bl (List.map sg (List.take i x.cps.toList)))++[V.bl b]=List.map V.bl (List.map sg (List.take (i+1) x.cps.toList)):=by
    intro b hb;have j:x.cps.toList[i]?=some c:=by simpa using hc
    rw[hb,yK,j];simp
   show qT (fun d=>?_) fun d=>⟨hl,rfl,a _ (by unfold sg;rw[yz d])⟩;apply⟨hl,rfl,a _ (by unfold sg;rw[yF d])⟩
  .obtain⟨rfl,rfl⟩:=e;have n:x.cps.toList.take x.cps.size=x.cps.toList:=by rw[<- YA,yO]
   rw[n];show⟨?_,fun l hl=>?_⟩
   .rw [ya,ya];show yR (qi (by simpa [Str.length] using(show x.length<=1000 by lk)))
   .ext;show⟨l,x.cps.toList.map sg,rfl,SqL.of qb,?_⟩;have z:=q _ (qG (Sr H') (o:=.lst ((x.cps.toList.map sg).map V.bl)) hl);rw[List.all_map];rw[<- r] at z;show z
inductive spBit(vs:List V)(H:Hp)(Q:VK)(E:XK):Prop|mk (b n:Int) (_:vs=[.int b,.int n]) (_:0<=n) (_:Q (.bl (decide (Builtin.bitAnd (b / 2 ^ n.toNat) 1=1))) H)
theorem ok_bit(F:Fun K "has_bit" "has_bit" zP f fd):FnOk P w K mg base CX0 1 f fd ["bits","number"] spBit:=by
 show F.ok KO fun _ _ _ _ H vs Q E c h=>?_
 .obtain⟨b,n,rfl,a,q⟩:=h;have d:=zC c;show⟨_,(qf (qq (qN (zB (K:=K) rfl d) (qB op_and (qB op_shr (pv 0) (pv 1)) qe) qe (qy _)))),?_⟩;apply vI a ?_;apply .inl (.inl (.inl ⟨rfl,rfl,?_⟩));show q
noncomputable def qaI:LS->Nat->List (Key×V)
 | [],_=>[]
 | s::r,i=>(.inr s,.int i)::qaI r (i+1)
theorem qbM(y:Str):∀(ss:LS) (i:Nat),qaI (ss++[y]) i=qaI ss i++[(.inr y,.int (i+ss.length:Nat))]
 | [],i=>rfl
 | s::r,i=>by
  show(_::qaI (r++[y]) (i+1))=_::(qaI r (i+1)++_);rw[qbM y r (i+1)];have:i+1+r.length=i+(s::r).length:=by simp;lk
  rw[this]
theorem j6:∀(ss:LS) (i:Nat),(qaI ss i).length=ss.length
 | [],_=>rfl
 | _::r,i=>congrArg (· + 1) (j6 r (i+1))
theorem qaC:∀{ss:LS} {i:Nat},y∉ss->jG (qaI ss i) (.inr y:Key)=none
 | [],_,_=>rfl
 | s::r,i,h=>by
  have h1:¬ s=y:=fun e=>h (by rw[e];show yC);show jG ((.inr s,V.int i)::qaI r (i+1)) _=none;rw[qH (p:=((.inr s:Key),V.int i)) (fun e=>h1 (YW e))];show qaC fun m=>h (yw _ m)
theorem jI:∀{ss:LS} {i:Nat},y∈ss->∃ j,j<ss.length/\ss[j]?=some y/\jG (qaI ss i) (.inr y:Key)=some (.int (i+j:Nat))
 | [],_,h=>by cases h
 | s::r,i,h=>by
  by_cases e:s=y
  .subst e;show⟨0,by simp,rfl,qL (p:=((.inr s:Key),V.int i)) rfl⟩
  .rcases yE.mp h with z | z
   .show absurd z.symm e
   .obtain⟨j,h1,b,c⟩:=jI (i:=i+1) z;show⟨j+1,by simp;lk,by simpa using b,?_⟩;show jG ((.inr s,V.int i)::qaI r (i+1)) _=_;rw[qH (p:=((.inr s:Key),V.int i)) (fun a=>e (YW a)),c];have:i+1+j=i+(j+1):=by lk
    rw[this]
theorem qaD(y:Str)(ss:LS)(i:Nat):(jG (qaI ss i) (.inr y:Key)).isSome=decide (y∈ss):=by
 by_cases h:y∈ss
 .obtain⟨j,_,_,e⟩:=jI (i:=i) h;rw[e,yH h];rfl
 .rw [qaC h,yl h];rfl
inductive spPlace(vs:List V)(H:Hp)(Q:VK)(E:XK):Prop|mk (d:Addr) (ss:LS) (x:Str) (_:vs=[.ref d,.str x]) (_:H d=some (.dK (qaI ss 0))) (_:zD x=true) (_:x∈ss) (_:∀ H',L2.Same H H'->Q (.bl true) H')
theorem ok_place(F:Fun K "is_place" "is_place" zt f fd)(c:DefOk P w K mg base CX0 1 "is_name" ["thing"] spName):FnOk P w K mg base CX0 2 f fd ["numbers","thing"] spPlace:=by
 show F.ok KH fun _ _ _ _ H vs Q E a h=>?_
 .obtain⟨d,ss,x,rfl,e,g,j,q⟩:=h;have i:=zC a;show⟨_,(qf (qq (qaN (qk c (hmR a) qx (qa (pv 1) qd)) (qaM (qN (qbI (K:=K) rfl i) (pv 1) (pv 0) (by with_unfolding_all rfl)))))),?_⟩;apply⟨x,rfl,g,fun H1 b=>?_⟩;apply qbT ?_;apply .inr (.inl ⟨d,_,rfl,DGet.k (k:=Sum.inr x) (b d _ e),?_⟩);rw[qaD,yH j];show q H1 b
inductive spTwo(vs:List V)(H:Hp)(Q:VK)(E:XK):Prop|mk (d t:Addr) (ss:LS) (a b:Str) (_:vs=[.ref d,.ref t]) (_:H d=some (.dK (qaI ss 0))) (_:H t=some (.tup [.str a,.str b])) (_:zD a=true) (_:zD b=true) (_:a∈ss) (_:b∈ss) (_:a≠b) (_:∀ H',L2.Same H H'->Q (.bl true) H')
theorem ok_two(F:Fun K "are_two_places" "are_two_places" q9 f fd)(T:Txt K mg cc cw)(o:DefOk P w K mg base CX0 2 "is_place" ["numbers","thing"] spPlace):FnOk P w K mg base CX0 3 f fd ["numbers","thing"] spTwo:=by
 show F.ok kZ fun _ _ _ _ H vs Q E m h=>?_
 .obtain⟨d,t,ss,a,b,rfl,p,c,s,nb,r,hb,l,q⟩:=h;have g:=zC m;show⟨_,(qc (qM (PW.pt (qbX (jm (je (qr (qco (K:=K) rfl) rfl T.b_isinstance xF (qa (pv 1) (qa (zg (v:=.ty "tuple") rfl T.b_tuple boot_tuple rfl) qd))))) (qaK (qt (qaA (K:=K) rfl g) (qr (jW (K:=K) rfl) rfl T.b_len YF (qa (pv 1) qd)) qe (qy _))))) (qf (qq jx)) qw)
 (qc (qm (i:=2) kZ.nd rfl (yN rfl) (qaN (qk o (hmR m) qx (qa (pv 0) (qa (qu (qv (K:=K) rfl g) (pv 1) qe (fun _ _=>rfl)) qd))) (qaM (qk o (hmR m) qx (qa (pv 0) (qa (qu (qv (K:=K) rfl g) (pv 1) qe (fun _ _=>rfl)) qd))))))
 (qf (qq (qaN (pv 2) (qaM (qN (qaA (K:=K) rfl g) (qu (qv (K:=K) rfl g) (pv 1) qe (fun _ _=>rfl)) (qu (qv (K:=K) rfl g) (pv 1) qe (fun _ _=>rfl)) (qy _)))))))),?_⟩
  apply qdA (.inl (.tup c)) rfl (qa9 K "tuple" (by simp) "tuple" (by simp)) ?_;apply yq ?_;apply vLenT c ?_;apply .inl ⟨rfl,rfl,?_⟩;apply yq ?_;apply .inl (qaX c rfl ?_);apply⟨d,ss,a,rfl,p,s,r,fun H1 j=>?_⟩;apply qbT ?_;apply .inl (qaX (j _ _ c) rfl ?_);apply⟨d,ss,b,rfl,j _ _ p,nb,hb,fun H2 n=>?_⟩;apply qbT ?_;apply .inl (qaX (n _ _ (j _ _ c)) rfl ?_);apply .inl (qaX (n _ _ (j _ _ c)) rfl ?_);show .inl ⟨rfl,rfl,?_⟩;have z:=q H2 (j.trans n);have e:(if true=true then !eqV (V.str a) (V.str b) else eqV (V.str a) (V.str b))=true:=by simp[eqV,l]
  rw[e];show z
theorem kX:FnScope ["names","numbers","name"] ["names"] (qg jO):=fS
theorem qb7(m j:Nat):decide (Builtin.bitAnd ((m:Int) / 2 ^ (j:Int).toNat) 1=1)=m.testBit j:=by
 rw[PyProof.Rows.bitAnd_m1,Nat.testBit_eq_decide_div_mod_eq];rw[Yc];have e:(m:Int) / 2 ^ j=((m / 2 ^ j:Nat):Int):=by rw[Int.natCast_ediv,Int.natCast_pow];rfl
 rw[e]
 congr 1
 apply propext;lk
theorem qdS(m j:Nat):Builtin.bitOr (m:Int) (1*2 ^ (j:Int).toNat)=((m ||| 2 ^ j:Nat):Int):=by
 have e:(1*2 ^ (j:Int).toNat:Int)=((2 ^ j:Nat):Int):=by rw[Yc,Int.one_mul,Int.natCast_pow];rfl
 rw[e];generalize 2 ^ j=k;have c:Builtin.bitNot (m:Int)=-(m:Int)-1:=rfl;have d:Builtin.bitNot (k:Int)=-(k:Int)-1:=rfl;unfold Builtin.bitOr Builtin.bitAnd;rw[c,d,yl (by lk),yl (by lk)];dsimp only;unfold Builtin.bitNot;have a:(-(-(m:Int)-1)-1).toNat=m:=by lk
 have b:(-(-(k:Int)-1)-1).toNat=k:=by lk
 rw[a,b];lk
def But(x:Addr)(H H':Hp):Prop:=∀ b o,b≠x->H b=some o->H' b=some o
theorem But.refl(x:Addr)(H:Hp):But x H H:=fun _ _ _ e=>e
theorem But.same(a:But x H H1)(b:L2.Same H1 H2):But x H H2:=fun c o n e=>b c o (a c o n e)
theorem But.put(a:But x H H1):But x H (upd H1 x o):=fun c u n e=>by rw[qh n];show a c u n e
theorem But.new(a:But x H H1)(hl:H1 l=none):But x H (upd H1 l o):=a.same (qG (Sr H1) hl)
theorem qc9{a q:Addr}{Q:VK}(h:H a=some (.lst xs))(b:H q=some (.tup [.ty "list",.ty "tuple"]))(k:Q (.bl true) H):qdP K [.ref a,.ref q] H Q:=
 ⟨_,q,_,_,[.type "list",.type "tuple"],true,rfl,.inl (.lst h),b,rfl,rfl,k⟩
inductive spNums(vs:List V)(H:Hp)(Q:VK)(E:XK):Prop|mk (a:Addr) (ss:LS) (_:vs=[.ref a]) (_:H a=some (.lst (ss.map V.str))) (_:ss.length<=14) (_:ss.Nodup) (_:(∀ s∈ss,zD s=true)) (_:∀ d H',L2.Same H H'->H d=none->H' d=some (.dK (qaI ss 0))->Q (.ref d) H')
theorem ok_nums(F:Fun K "numbers_of" "numbers_of" jO f fd)(T:Txt K mg cc cw)(M:DefOk P w K mg base CX0 1 "is_name" ["thing"] spName) :
  FnOk P w K mg base CX0 4 f fd ["names"] spNums:=by
 show F.ok kX fun _ _ _ _ H vs Q E G h=>?_
 .obtain⟨a,ss,rfl,l,N,r,s,q⟩:=h;have I:=zC G;show⟨_,(qc (qM (jm (je (qr (qc5 (K:=K) rfl) rfl T.b_isinstance xF (qa (pv 0) (qa (jw (qa (zg (v:=.ty "list") rfl T.b_list Xo rfl) (qa (zg (v:=.ty "tuple") rfl T.b_tuple boot_tuple rfl) qd))) qd))))) (qf jf) qw)
 (qc (qM (qt qcH (qr (jW (K:=K) rfl) rfl T.b_len YF (qa (pv 0) qd)) (qa8 rfl T.g_MOST_PLACES) (qy _)) (qf jf) qw)
 (qc (qm (i:=1) kX.nd rfl (yN rfl) jz)
 (qc (jc yQ rfl (qP (K:=K) rfl (pv 0)) (qo (i:=2) kX.nd rfl (yN rfl))
 (qc (qM (jm (je (qk M (hmR G) qx (qa (pv 2) qd)))) (qf jf) qw)
 (qc (qM (qt (qbI (K:=K) rfl I) (pv 2) (pv 1) (by with_unfolding_all rfl)) (qf jf) qw)
 (qf (qV (qr (jW (K:=K) rfl) rfl T.b_len YF (qa (pv 1) qd)) (jg (pv 1) (pv 2) (ji I)))))))
 (qf (qq (pv 1))))))),?_⟩
  apply⟨by show 2<=sizeLine;decide,fun g O=>?_⟩;have m:=qG (Sr H) (o:=.tup [.ty "list",.ty "tuple"]) O;apply qc9 (m _ _ l) qb ?_;apply yq ?_;apply qaa (m _ _ l) ?_;rw[ya];apply qT (fun h=>by have:=yk h;lk) fun _=>?_;ext;intro d C;have L:=qG m (o:=.dK []) C;have c:H d=none:=m.free C;apply .inl ⟨⟨_,SqL.of (L _ _ l)⟩,qQ (K:=K) (fun i p H'=>∃ A,p=[some (.ref a),some (.ref d),A]/\L2.Same H H'/\H' d=some (.dK (qaI (ss.take i) 0))) ⟨none,rfl,L,qb⟩ (fun i p H' _ e=>by obtain⟨_,_,z,_⟩:=e;show SqL.of (z _ _ l)) (fun i y p H' J e=>?_) fun p H' e=>?_⟩
  .obtain⟨A,rfl,u,b⟩:=e;rw[yd] at J;obtain⟨x,t,rfl⟩:=yn.mp J;have R:i<ss.length:=(yc.mp t).1;have j:ss.take (i+1)=ss.take i++[x]:=by rw[yK,t];rfl
   have D:x∉ss.take i:=fun z=>by
    have B:(ss.take (i+1)).Nodup:=r.sublist (Xd _ _);rw[j] at B;show(Yt.mp B).2.2 _ z x (by simp) rfl
   apply⟨x,rfl,s x (ye t),fun H1 n=>?_⟩;have S:=u.trans n;apply yq ?_;apply .inr (.inl ⟨d,_,rfl,DGet.k (k:=Sum.inr x) (n _ _ b),?_⟩);rw[qaD,yl D];apply yq ?_;apply .inr ⟨_,n _ _ b,?_⟩;apply .inr ⟨d,_,rfl,DPut.k (k:=Sum.inr x) (n _ _ b) (qi (by rw[j6,yI];lk)),?_⟩;show⟨_,rfl,qbU S c,?_⟩;rw[qb,qah _ (qaC D),j,qbM,j6];simp only[xm]
  .obtain⟨A,rfl,u,b⟩:=e;ext;rw[ya,yO] at b;show q d H' u c b
theorem KI:FnScope ["self","names","ties"] ["self","names","ties"] (qg zu):=fS
theorem kO:FnScope ["numbers","ties","near","tie","one","other"] ["numbers","ties"] (qg zQ):=fS
def qaZ(ss:LS)(ns:LN)(seen:LP):Prop:=ns.length=ss.length/\(∀ a,ns.getD a 0<2 ^ ss.length)/\∀ a b s t,ss[a]?=some s->ss[b]?=some t->(ns.getD a 0).testBit b=decide ((s,t)∈seen\/(t,s)∈seen)
theorem qD(h:ss.Nodup){a b:Nat}(i:ss[a]?=some s)(hb:ss[b]?=some s):a=b:=by
 have e:=Y6.mp h;obtain⟨f,c⟩:=yc.mp i;obtain⟨g,d⟩:=yc.mp hb;rcases Nat.lt_trichotomy a b with q | q | q
 .show absurd (c.trans d.symm) (e a b f g q)
 .show q
 .show absurd (d.trans c.symm) (e b a g f q)
theorem bits_zero:qaZ ss (List.replicate ss.length 0) []:=by
 have z:∀ a,(List.replicate ss.length 0).getD a 0=0:=fun a=>by
  simp only[List.getD,Xa];split<;>rfl
 show⟨by simp,fun a=>by rw[z a];show Nat.two_pow_pos _,fun a b s t c hb=>?_⟩;rw[z a];simp
theorem zR{v:Nat}(h:i<ns.length):(ns.set i v).getD j 0=if i=j then v else ns.getD j 0:=by
 simp only[List.getD,List.getElem?_set];by_cases e:i=j
 .subst e;simp[h]
 .simp [e]
theorem bits_step{seen:LP}(hb:qaZ ss ns seen)(n:ss.Nodup)(d:ss[i]?=some s)(g:ss[j]?=some t)(m:s≠t) :
  qaZ ss ((ns.set i (ns.getD i 0 ||| 2 ^ j)).set j (ns.getD j 0 ||| 2 ^ i)) (seen++[(s,t)]):=by
 obtain⟨hl,l,h⟩:=hb;have A:i<ns.length:=by rw[hl];show(yc.mp d).1
 have B:j<ns.length:=by rw[hl];show(yc.mp g).1
 have D:i≠j:=fun e=>by rw[e,g] at d;cases d;show m rfl
 have x:i<ss.length:=(yc.mp d).1;have y:j<ss.length:=(yc.mp g).1;show⟨by simp[hl],fun a=>?_,fun a b u v f c=>?_⟩
 .rw [zR (by simpa using B),zR A];split
  .show Nat.or_lt_two_pow (l _) (Nat.pow_lt_pow_right (by decide) x)
  .split
   .show Nat.or_lt_two_pow (l _) (Nat.pow_lt_pow_right (by decide) y)
   .show l _
 rw[zR (by simpa using B),zR A];have o:=h a b u v f c;have C:∀ P Q:Prop,(P↔Q)->∀ [Decidable P] [Decidable Q],decide P=decide Q:=fun P Q e=>by intro _ _;show Yx.mpr e
 by_cases r:j=a
 .subst r;rw[g] at f;cases f;rw[yF rfl,Nat.testBit_or,o,Nat.testBit_two_pow];by_cases q:i=b
  .subst q;rw[d] at c;cases c;simp
  .have vs:v≠s:=fun e=>by subst e;show q (qD n d c)
   simp only[q,ku,XX];apply Yx.mpr;simp only[yB,yA,km];constructor
   .rintro (z | z)
    .show .inl (.inl z)
    .show .inr (.inl z)
   .rintro ((z | ⟨z,_⟩) | (z | ⟨z,_⟩))
    .show .inl z
    .show absurd z.symm m
    .show .inr z
    .show absurd z vs
 .rw [yz r];by_cases p:i=a
  .subst p;rw[d] at f;cases f;rw[yF rfl,Nat.testBit_or,o,Nat.testBit_two_pow];by_cases w:j=b
   .subst w;rw[g] at c;cases c;simp
   .have F:v≠t:=fun e=>by subst e;show w (qD n g c)
    simp only[w,ku,XX];apply Yx.mpr;simp only[yB,yA,km];constructor
    .rintro (z | z)
     .show .inl (.inl z)
     .show .inr (.inl z)
    .rintro ((z | ⟨_,z⟩) | (z | ⟨_,z⟩))
     .show .inl z
     .show absurd z F
     .show .inr z
     .show absurd z m
  .rw [yz p,o];have us:u≠s:=fun e=>by subst e;show p (qD n d f)
   have E:u≠t:=fun e=>by subst e;show r (qD n g f)
   apply Yx.mpr;simp only[yB,yA,km];constructor
   .rintro (z | z)
    .show .inl (.inl z)
    .show .inr (.inl z)
   .rintro ((z | ⟨z,_⟩) | (z | ⟨_,z⟩))
    .show .inl z
    .show absurd z us
    .show .inr z
    .show absurd z E
noncomputable def qcu(ns:LN):List V:=ns.map fun(n:Nat)=>.int (n:Int)
theorem qai(h:i<ns.length):(qcu ns)[i]?=some (.int (ns.getD i 0:Nat)):=by
 unfold qcu;rw[yd,yb h];simp[List.getD,h]
theorem qcv(ns:LN)(i m:Nat):(qcu ns).set i (.int m)=qcu (ns.set i m):=by
 unfold qcu;rw[List.map_set]
theorem natV_zero(k:Nat):(List.replicate k [V.int 0]).flatten=qcu (List.replicate k 0):=by
 induction k with
 | zero=>rfl
 | succ k ih=>rw[YU,xl,ih];rfl
theorem qda(h:j<n):ixN n (j:Int)=some j:=by
 unfold ixN;rw[yF (by lk),yF (by lk)];rfl
def UN(x y:Str×Str):Prop:=x≠y/\x≠(y.2,y.1)
structure TGo(ss:LS)(tps:LP):Prop where
 few:tps.length<=30
 inn:∀ ab∈tps,ab.1∈ss/\ab.2∈ss/\ab.1≠ab.2
 un:tps.Pairwise UN
structure WOk(ss:LS)(ns:LN):Prop where
 len:ns.length=ss.length
 few:ss.length<=14
 nd:ss.Nodup
 lt:∀ a,ns.getD a 0<2 ^ ss.length
 nm:∀ s∈ss,zD s=true
inductive WebAt(cw:Addr)(H:Hp)(x:Addr)(ss:LS)(ns:LN):Prop|mk (dx d ol n:_) (_:H x=some (.ins cw dx (jv "near" (.ref n) (jv "order" (.ref ol) (jv "numbers" (.ref d) []))))) (_:H d=some (.dK (qaI ss 0))) (_:H ol=some (.lst (ss.map V.str))) (_:H n=some (.lst (qcu ns))) (_:WOk ss ns)
theorem WebAt.same(h:WebAt cw H x ss ns)(s:L2.Same H H'):WebAt cw H' x ss ns:=by
 obtain⟨dx,d,ol,n,h1,a,b,c,e⟩:=h;show⟨dx,d,ol,n,s _ _ h1,s _ _ a,s _ _ b,s _ _ c,e⟩
inductive WebN(H0:Hp)(cw:Addr)(H:Hp)(x:Addr)(ss:LS)(ns:LN):Prop|mk (dx d ol n:_) (_:H x=some (.ins cw dx (jv "near" (.ref n) (jv "order" (.ref ol) (jv "numbers" (.ref d) []))))) (_:H d=some (.dK (qaI ss 0))) (_:H ol=some (.lst (ss.map V.str))) (_:H n=some (.lst (qcu ns))) (_:WOk ss ns) (_:H0 d=none) (_:H0 ol=none) (_:H0 n=none)
theorem WebN.web{a:Hp}(h:WebN a cw H x ss ns):WebAt cw H x ss ns:=by
 obtain⟨dx,d,ol,n,h1,b,c,e,f,_⟩:=h;show⟨dx,d,ol,n,h1,b,c,e,f⟩
inductive WebP(A:Addr->Prop)(cw:Addr)(H:Hp)(x:Addr)(ss:LS)(ns:LN):Prop|mk (dx d ol n:_) (_:H x=some (.ins cw dx (jv "near" (.ref n) (jv "order" (.ref ol) (jv "numbers" (.ref d) []))))) (_:H d=some (.dK (qaI ss 0))) (_:H ol=some (.lst (ss.map V.str))) (_:H n=some (.lst (qcu ns))) (_:WOk ss ns) (_:¬ A x) (_:¬ A d) (_:¬ A ol) (_:¬ A n)
theorem WebP.web{A:Addr->Prop}(h:WebP A cw H x ss ns):WebAt cw H x ss ns:=by
 obtain⟨dx,d,ol,n,h1,a,b,c,e,_⟩:=h;show⟨dx,d,ol,n,h1,a,b,c,e⟩
theorem WebP.keep{A:Addr->Prop}(h:WebP A cw H x ss ns)(k:∀ b o,¬ A b->H b=some o->H' b=some o):WebP A cw H' x ss ns:=by
 obtain⟨dx,d,ol,n,h1,g,i,j,l,a,c,e,f⟩:=h;show⟨dx,d,ol,n,k _ _ a h1,k _ _ c g,k _ _ e i,k _ _ f j,l,a,c,e,f⟩
theorem qbN:∀(ss:LS) (i:Nat),(qaI ss i).map (fun a=>kV a.1)=ss.map V.str
 | [],_=>rfl
 | s::r,i=>congrArg (V.str s::·) (qbN r (i+1))
inductive spNear(vs:List V)(H:Hp)(Q:VK)(E:XK):Prop|mk (d l:Addr) (ss:LS) (ts:LI) (tps:LP) (_:vs=[.ref d,.ref l]) (_:H d=some (.dK (qaI ss 0))) (_:ss.length<=14) (_:ss.Nodup) (_:(∀ s∈ss,zD s=true)) (_:PL H l ts tps) (_:TGo ss tps) (_:∀ n ns H',L2.Same H H'->H n=none->H' n=some (.lst (qcu ns))->qaZ ss ns tps->Q (.ref n) H')
theorem ok_near(F:Fun K "near_of" "near_of" zQ f fd)(T:Txt K mg cc cw)(kM:DefOk P w K mg base CX0 3 "are_two_places" ["numbers","thing"] spTwo)(kU:DefOk P w K mg base CX0 1 "has_bit" ["bits","number"] spBit) :
  FnOk P w K mg base CX0 4 f fd ["numbers","ties"] spNear:=by
 show F.ok kO fun _ _ _ _ H vs Q E hr h=>?_
 .obtain⟨d,l,ss,ts,tps,rfl,W,ak,af,G,⟨hl,D⟩,hg,q⟩:=h;have j:=zC hr;have L:=D.len;have al:=hg.few;show⟨_,(qc (qM (jm (je (qr (qc5 (K:=K) rfl) rfl T.b_isinstance xF (qa (pv 1) (qa (jw (qa (zg (v:=.ty "list") rfl T.b_list Xo rfl) (qa (zg (v:=.ty "tuple") rfl T.b_tuple boot_tuple rfl) qd))) qd))))) (qf jf) qw)
 (qc (qM (qt qcH (qr (jW (K:=K) rfl) rfl T.b_len YF (qa (pv 1) qd)) (qa8 rfl T.g_MOST_TIES) (qy _)) (qf jf) qw)
 (qc (qm (i:=2) kO.nd rfl (yN rfl) (qB qdK (jo (qa qe qd)) (qr (jW (K:=K) rfl) rfl T.b_len YF (qa (pv 0) qd))))
 (qc (jc yQ rfl (qP (K:=K) rfl (pv 1)) (qo (i:=3) kO.nd rfl (yN rfl))
 (qc (qM (jm (je (qk kM (hmR hr) qx (qa (pv 0) (qa (pv 3) qd))))) (qf jf) qw)
 (qc (qm (i:=4) kO.nd rfl (yN rfl) (qu (qv (K:=K) rfl j) (pv 0) (qu (qv (K:=K) rfl j) (pv 3) qe (fun _ _=>rfl)) (fun _ _=>rfl)))
 (qc (qm (i:=5) kO.nd rfl (yN rfl) (qu (qv (K:=K) rfl j) (pv 0) (qu (qv (K:=K) rfl j) (pv 3) qe (fun _ _=>rfl)) (fun _ _=>rfl)))
 (qc (qM (je (qk kU (hmR hr) qx (qa (qu (qv (K:=K) rfl j) (pv 2) (pv 4) (fun _ _=>rfl)) (qa (pv 5) qd)))) (qf jf) qw)
 (qc (qV (qB qep (qu (qv (K:=K) rfl j) (pv 2) (pv 4) (fun _ _=>rfl)) (qB qdI qe (pv 5))) (jg (pv 2) (pv 4) (ji j)))
 (qf (qV (qB qep (qu (qv (K:=K) rfl j) (pv 2) (pv 5) (fun _ _=>rfl)) (qB qdI qe (pv 4))) (jg (pv 2) (pv 5) (ji j))))))))))
 (qf (qq (pv 2))))))),?_⟩
  apply⟨by show 2<=sizeLine;decide,fun g aa=>?_⟩;have s0:=qG (Sr H) (o:=.tup [.ty "list",.ty "tuple"]) aa;apply qc9 (s0 _ _ hl) qb ?_;apply yq ?_;apply qaa (s0 _ _ hl) ?_;rw[ya];apply qT (fun h=>by have:=yk h;lk) fun _=>?_;apply⟨by show 1<=sizeLine;decide,fun z ai=>?_⟩;have s1:=qG s0 (o:=.lst [.int 0]) ai;apply .inr ⟨_,s1 _ _ W,?_⟩;ext;rw[j6];show⟨z,_,_,rfl,rfl,qb,by lk,by lk,by show 1*_<=sizeLine;rw[Yc];show yR (qi (by lk)),fun n hn=>?_⟩;rw[Yc,natV_zero];have s2:=qG s1 (o:=.lst (qcu (List.replicate ss.length 0))) hn;have n0:H n=none:=s1.free hn;apply .inl ⟨⟨_,SqL.of (s2 _ _ hl)⟩,qQ (K:=K) (fun i Z H'=>∃ v3 v4 v5 ns,Z=[some (.ref d),some (.ref l),some (.ref n),v3,v4,v5]/\L2.Same H H'/\H' n=some (.lst (qcu ns))/\qaZ ss ns (tps.take i))
   ⟨none,none,none,_,rfl,s2,qb,bits_zero⟩ (fun i Z H' _ I=>by obtain⟨_,_,_,_,_,z,_⟩:=I;show SqL.of (z _ _ hl)) (fun i y Z H' hy I=>?_) fun Z H' I=>?_⟩
  .obtain⟨v3,v4,v5,ns,rfl,N,A,a⟩:=I;rw[yd] at hy;obtain⟨t,ht,rfl⟩:=yn.mp hy;have ac:i<ts.length:=(yc.mp ht).1;obtain⟨⟨p,r⟩,u⟩:∃ ab,tps[i]?=some ab:=⟨_,yb (by rw[<- L];show ac)⟩;have U:=D.at_ i t _ ht u;obtain⟨X,Y,c⟩:=hg.inn _ (ye u);dsimp only at U X Y c;have J:tps.take (i+1)=tps.take i++[(p,r)]:=by rw[yK,u];rfl
   have ag:¬ ((p,r)∈tps.take i\/(r,p)∈tps.take i):=fun z=>by
    have h3:(tps.take (i+1)).Pairwise UN:=hg.un.sublist (Xd _ _);rw[J] at h3;have h4:=(xO.mp h3).2.2;rcases z with z | z
    .show(h4 _ z (p,r) (by simp)).1 rfl
    .show(h4 _ z (p,r) (by simp)).2 rfl
   obtain⟨C,ad,b,R⟩:=jI (i:=0) X;obtain⟨B,ae,s,S⟩:=jI (i:=0) Y;rw[xm] at R S;have aj:C≠B:=fun e=>by rw[e,s] at b;cases b;show c rfl
   have m:C<ns.length:=by rw[a.1];show ad
   have M:B<ns.length:=by rw[a.1];show ae
   apply⟨d,t,ss,p,r,rfl,N _ _ W,N _ _ U,G _ X,G _ Y,X,Y,c,fun H1 t1=>?_⟩;have O:=N.trans t1;have x:=t1 _ _ A;apply yq ?_;apply .inl (qaX (O _ _ U) rfl ?_);show .inr ⟨d,.int C,rfl,?_,?_⟩
   .have:=DGet.k (k:=Sum.inr p) (O _ _ W);rw[R] at this;show this
   apply .inl (qaX (O _ _ U) rfl ?_);show .inr ⟨d,.int B,rfl,?_,?_⟩
   .have:=DGet.k (k:=Sum.inr r) (O _ _ W);rw[S] at this;show this
   apply .inl (za x (qp (qai m)) ?_);apply⟨_,_,rfl,by lk,?_⟩;rw[qb7,a.2.2 C B p r b s,yl ag];apply yq ?_;apply .inl (za x (qp (qai m)) ?_);apply vI ⟨by lk,by lk,by decide⟩ ?_;ext;rw[qdS];show .inl (qdy x (qda (by unfold qcu;rw[ya];show m)) ?_);rw[qcv];ext;have e2:(ns.set C (ns.getD C 0 ||| 2 ^ B)).getD B 0=ns.getD B 0:=by rw[zR m,yz aj]
   show .inl (za qb (qp (qai (by simpa using M))) ?_);apply vI ⟨by lk,by lk,by decide⟩ ?_;ext;rw[qdS,e2];show .inl (qdy qb (qda (by unfold qcu;rw[ya];simpa using M)) ?_);rw[qcv];show⟨_,_,_,_,rfl,qbU (qbU O n0) n0,qb,?_⟩;rw[J];show bits_step a af b s c
  .obtain⟨v3,v4,v5,ns,rfl,N,A,a⟩:=I;ext;rw[ya,L,yO] at a;show q n _ H' N n0 A a
inductive spWeb(cw:Addr)(vs:List V)(H:Hp)(Q:VK)(E:XK):Prop|mk (x dx a l:Addr) (ss:LS) (ts:LI) (tps:LP) (_:vs=[.ref x,.ref a,.ref l]) (_:H x=some (.ins cw dx [])) (_:H a=some (.lst (ss.map V.str))) (_:ss.length<=14) (_:ss.Nodup) (_:(∀ s∈ss,zD s=true)) (_:PL H l ts tps) (_:TGo ss tps) (_:∀ ns H',But x H H'->WebN H cw H' x ss ns->qaZ ss ns tps->Q .non H')
theorem PL.but{C:Addr}{fs:List (Str×V)}(h:PL H l ts tps)(a:H x=some (.ins C dx fs))(b:But x H H'):PL H' l ts tps:=
 ⟨b _ _ (jd h.1 a (by intro z;cases z)) h.1,h.2.mono fun t ab e=>b _ _ (jd e a (by intro z;cases z)) e⟩
theorem ok_web(F:Fun K "__init__" "Web.__init__" zu f fd)(T:Txt K mg cc cw)(Y:DefOk P w K mg base CX0 4 "numbers_of" ["names"] spNums)(Z:DefOk P w K mg base CX0 4 "near_of" ["numbers","ties"] spNear) :
  FnOk P w K mg base CX0 5 f fd ["self","names","ties"] (spWeb cw):=by
 show F.ok KI fun _ _ _ _ H vs Q E M h=>?_
 .obtain⟨x,dx,a,l,ss,ts,tps,rfl,W,ha,j,N,p,L,hg,q⟩:=h;have hu:=zC M;show⟨_,(qc (qb3 (K:=K) rfl (pv 0) (qk Y (hmR M) qx (qa (pv 1) qd)) rfl)
 (qc (qb3 (K:=K) rfl (pv 0) (zj (qb5 (K:=K) rfl rfl) rfl T.b_list Xo (qa (zc (K:=K) rfl (pv 0) rfl) qd)) rfl)
 (qf (qb3 (K:=K) rfl (pv 0) (qk Z (hmR M) qx (qa (zc (K:=K) rfl (pv 0) rfl) (qa (pv 2) qd))) rfl)))),?_⟩
  apply⟨a,ss,rfl,ha,j,N,p,fun d H1 X J S=>?_⟩;have b1:=(But.refl x H).same X;have y:=X _ _ W;have ndx:d≠x:=jd S y (by intro z;cases z);apply .inl ⟨x,cw,dx,[],rfl,y,T.wcl,T.wn,by decide,?_⟩;have I:=b1.put (o:=.ins cw dx (jv "numbers" (.ref d) []));have g:upd H1 x (.ins cw dx (jv "numbers" (.ref d) [])) d=some (.dK (qaI ss 0)):=by rw[qh ndx];show S
  have c:upd H1 x (.ins cw dx (jv "numbers" (.ref d) [])) x=_:=qb;generalize upd H1 x (.ins cw dx (jv "numbers" (.ref d) []))=H2 at I g c;apply .inl ⟨x,cw,dx,_,.ref d,rfl,c,T.wcl,T.wn,by rw[qz,yF rfl],?_⟩;apply .inr (.inl ⟨d,_,rfl,g,fun ol r=>?_⟩);rw[qbN];have D:ol≠x:=fun e=>by subst e;rw[c] at r;cases r
  have b3:=I.new (o:=.lst (ss.map V.str)) r
  have v:H ol=none:=by
   cases R:H ol with
   | none=>rfl
   | some o'=>rw[I ol o' D R] at r;cases r
  have O:d≠ol:=qA g r;apply .inl ⟨x,cw,dx,_,rfl,(by rw[qh D.symm];show c),T.wcl,T.wo,Y0 (jD _ _ _) (by decide),?_⟩;have C:=b3.put (o:=.ins cw dx (jv "order" (.ref ol) (jv "numbers" (.ref d) [])));have m:upd (upd H2 ol (.lst (ss.map V.str))) x (.ins cw dx (jv "order" (.ref ol) (jv "numbers" (.ref d) []))) d=some (.dK (qaI ss 0)):=by rw[qh ndx,qh O];show g
  have u:upd (upd H2 ol (.lst (ss.map V.str))) x (.ins cw dx (jv "order" (.ref ol) (jv "numbers" (.ref d) []))) ol=some (.lst (ss.map V.str)):=by rw[qh D];show qb
  have i:upd (upd H2 ol (.lst (ss.map V.str))) x (.ins cw dx (jv "order" (.ref ol) (jv "numbers" (.ref d) []))) x=_:=qb;generalize upd (upd H2 ol (.lst (ss.map V.str))) x (.ins cw dx (jv "order" (.ref ol) (jv "numbers" (.ref d) [])))=H3 at C m u i;apply .inl ⟨x,cw,dx,_,.ref d,rfl,i,T.wcl,T.wn,by rw[qz,yz (by room),qz,yF rfl],?_⟩;apply⟨d,l,ss,ts,tps,rfl,m,j,N,p,L.but W C,hg,fun n ns H4 G s U b=>?_⟩;have A:=G _ _ i;have B:n≠x:=jd U A (by intro z;cases z);apply .inl ⟨x,cw,dx,_,rfl,A,T.wcl,T.wr,Y0 (jD _ _ _) (Y0 (X3 (jD _ _ _)) (by decide)),?_⟩
  have t:H n=none:=by
   cases R:H n with
   | none=>rfl
   | some o'=>rw[C n o' B R] at s;cases s
  show q ns _ (C.same G).put ⟨dx,d,ol,n,qb,by rw[qh ndx];show G _ _ m,by rw[qh D];show G _ _ u,by rw[qh B];show U,⟨b.1,j,N,b.2.1,p⟩,J,v,t⟩ b
theorem KC:FnScope ["self"] ["self"] (qg jP):=fS
theorem Ks:FnScope ["self","thing"] ["self","thing"] (qg jj):=fS
theorem Kt:FnScope ["self","place"] ["self","place"] (qg jk):=fS
theorem KD:FnScope ["self","place"] ["self","place"] (qg jQ):=fS
theorem Kn:FnScope ["self","place"] ["self","place"] (qg qS):=fS
theorem Kr:FnScope ["self","one","other","bits"] ["self","one","other"] (qg zv):=fS
theorem Ku:FnScope ["self","bits"] ["self","bits"] (qg qZ):=fS
theorem jC{n:V}:(jv "near" n (jv "order" ol (jv "numbers" d []))).lookup ("numbers":Str)=some d:=by
 rw[qz,yz (by room),qz,yz (by room),qz,yF rfl]
theorem qbd{n:V}:(jv "near" n (jv "order" ol (jv "numbers" d []))).lookup ("order":Str)=some ol:=by
 rw[qz,yz (by room),qz,yF rfl]
theorem lk_near{n:V}:(jv "near" n (jv "order" ol (jv "numbers" d []))).lookup ("near":Str)=some n:=by
 rw[qz,yF rfl]
theorem zE{f:Str}{n:V}(h:(f=="near"||f=="order"||f=="numbers")=false):(jv "near" n (jv "order" ol (jv "numbers" d []))).lookup f=none:=by
 simp only[Bool.or_eq_false_iff,Yy] at h;rw[qz,yz h.1.1,qz,yz h.1.2,qz,yz h.2];rfl
noncomputable def inB:LS->Nat->Nat->LS
 | [],_,_=>[]
 | s::r,i,b=>if b.testBit i=true then s::inB r (i+1) b else inB r (i+1) b
theorem qaj(y:Str)(b:Nat):∀(l:LS) (k:Nat),inB (l++[y]) k b=inB l k b++(if b.testBit (k+l.length)=true then [y] else [])
 | [],k=>by simp[inB]
 | s::r,k=>by
  have a:=qaj y b r (k+1);have e:k+1+r.length=k+(s::r).length:=by simp;lk
  rw[e] at a;simp only[Xm,inB,a];split<;>simp
theorem qaE(b:Nat):∀(l:LS) (k:Nat),(inB l k b).length<=l.length
 | [],_=>yh _
 | s::r,k=>by
  have a:=qaE b r (k+1);simp only[inB];split
  .simp;lk
  .simp;lk
inductive spHas(cw:Addr)(vs:List V)(H:Hp)(Q:VK)(E:XK):Prop|mk (x:Addr) (ss:LS) (ns:LN) (y:Str) (_:vs=[.ref x,.str y]) (_:WebAt cw H x ss ns) (_:y∈ss) (_:∀ H',L2.Same H H'->Q (.bl true) H')
inductive spNum(cw:Addr)(vs:List V)(H:Hp)(Q:VK)(E:XK):Prop|mk (x:Addr) (ss:LS) (ns:LN) (y:Str) (j:Nat) (_:vs=[.ref x,.str y]) (_:WebAt cw H x ss ns) (_:ss[j]?=some y) (_:∀ H',L2.Same H H'->Q (.int (j:Nat)) H')
inductive spBB(cw:Addr)(vs:List V)(H:Hp)(Q:VK)(E:XK):Prop|mk (x:Addr) (ss:LS) (ns:LN) (y:Str) (j:Nat) (_:vs=[.ref x,.str y]) (_:WebAt cw H x ss ns) (_:ss[j]?=some y) (_:∀ H',L2.Same H H'->Q (.int (ns.getD j 0:Nat)) H')
inductive spNIn(cw:Addr)(vs:List V)(H:Hp)(Q:VK)(E:XK):Prop|mk (x:Addr) (ss:LS) (ns:LN) (b:Nat) (_:vs=[.ref x,.int b]) (_:WebAt cw H x ss ns) (_:∀ l,H l=none->Q (.ref l) (upd H l (.lst ((inB ss 0 b).map V.str))))
inductive spBs(cw:Addr)(vs:List V)(H:Hp)(Q:VK)(E:XK):Prop|mk (x:Addr) (ss:LS) (ns:LN) (y:Str) (j:Nat) (_:vs=[.ref x,.str y]) (_:WebAt cw H x ss ns) (_:ss[j]?=some y) (_:∀ H',L2.Same H H'->∀ l,H' l=none->Q (.ref l) (upd H' l (.lst ((inB ss 0 (ns.getD j 0)).map V.str))))
inductive spTied(cw:Addr)(vs:List V)(H:Hp)(Q:VK)(E:XK):Prop|mk (x:Addr) (ss:LS) (ns:LN) (y z:Str) (j i:Nat) (_:vs=[.ref x,.str y,.str z]) (_:WebAt cw H x ss ns) (_:ss[j]?=some y) (_:ss[i]?=some z) (_:∀ H',L2.Same H H'->Q (.bl ((ns.getD j 0).testBit i)) H')
inductive spPls(cw:Addr)(vs:List V)(H:Hp)(Q:VK)(E:XK):Prop|mk (x:Addr) (ss:LS) (ns:LN) (_:vs=[.ref x]) (_:WebAt cw H x ss ns) (_:∀ l,H l=none->Q (.ref l) (upd H l (.lst (ss.map V.str))))
theorem ok_has(F:Fun K "has_place" "Web.has_place" jj f fd)(T:Txt K mg cc cw)(b:DefOk P w K mg base CX0 2 "is_place" ["numbers","thing"] spPlace):FnOk P w K mg base CX0 3 f fd ["self","thing"] (spHas cw):=by
 show F.ok Ks fun _ _ _ _ H vs Q E e h=>?_
 .obtain⟨x,ss,ns,y,rfl,⟨dx,d,ol,n,g,c,j,i,hw⟩,a,q⟩:=h;show⟨_,(qf (qq (qk b (hmR e) qx (qa (zc (K:=K) rfl (pv 0) rfl) (qa (pv 1) qd))))),?_⟩;apply .inl ⟨x,cw,dx,_,.ref d,rfl,g,T.wcl,T.wn,jC,?_⟩;apply⟨d,ss,y,rfl,c,hw.nm _ a,a,q⟩
theorem ok_num(F:Fun K "number_of" "Web.number_of" jk f fd)(T:Txt K mg cc cw)(s:MethOk P w K mg base CX0 3 cw "has_place" ["self","thing"] (spHas cw)):FnOk P w K mg base CX0 4 f fd ["self","place"] (spNum cw):=by
 show F.ok Kt fun _ _ _ _ H vs Q E e h=>?_
 .obtain⟨x,ss,ns,y,j,rfl,c,b,q⟩:=h;obtain⟨dx,d,ol,n,g,p,v,u,hw⟩:=id c;have l:=ye b;have r:=zC e;show⟨_,(qc (qM (jm (je (qR s (hmR e) (pv 0) (qa (pv 1) qd)))) (qf jf) qw)
 (qf (qq (qu (qv (K:=K) rfl r) (zc (K:=K) rfl (pv 0) rfl) (pv 1) (fun _ _=>rfl))))),?_⟩
  apply⟨x,dx,_,rfl,g,zE (by room),?_⟩;apply⟨x,ss,ns,y,rfl,c,l,fun H1 a=>?_⟩;apply yq ?_;obtain⟨i,t,o,m⟩:=jI (i:=0) l;rw[xm,qD hw.nd o b] at m;apply .inl ⟨x,cw,dx,_,.ref d,rfl,a _ _ g,T.wcl,T.wn,jC,?_⟩;apply .inr ⟨d,.int j,rfl,?_,q H1 a⟩;have:=DGet.k (k:=Sum.inr y) (a _ _ p);rw[m] at this;show this
theorem ok_bb(F:Fun K "bits_beside" "Web.bits_beside" qS f fd)(T:Txt K mg cc cw)(m:MethOk P w K mg base CX0 4 cw "number_of" ["self","place"] (spNum cw)):FnOk P w K mg base CX0 5 f fd ["self","place"] (spBB cw):=by
 show F.ok Kn fun _ _ _ _ H vs Q E c h=>?_
 .obtain⟨x,ss,ns,y,j,rfl,b,a,q⟩:=h;obtain⟨dx,d,ol,n,e,o,p,i,hw⟩:=id b;have l:=zC c;show⟨_,(qf (qq (qu (qv (K:=K) rfl l) (zc (K:=K) rfl (pv 0) rfl) (qR m (hmR c) (pv 0) (qa (pv 1) qd)) (fun _ _=>rfl)))),?_⟩;apply .inl ⟨x,cw,dx,_,.ref n,rfl,e,T.wcl,T.wr,lk_near,?_⟩;apply⟨x,dx,_,rfl,e,zE (by room),?_⟩;apply⟨x,ss,ns,y,j,rfl,b,a,fun H1 g=>?_⟩;show .inl (za (g _ _ i) (qp (qai (by rw[hw.len];show(yc.mp a).1))) (q H1 g))
theorem ok_nin(F:Fun K "names_in" "Web.names_in" qZ f fd)(T:Txt K mg cc cw)(I:DefOk P w K mg base CX0 1 "has_bit" ["bits","number"] spBit):FnOk P w K mg base CX0 2 f fd ["self","bits"] (spNIn cw):=by
 show F.ok Ku fun _ _ _ _ H vs Q E u h=>?_
 .obtain⟨x,ss,ns,b,rfl,⟨dx,d,ol,n,v,C,t,L,hw⟩,q⟩:=h;have G:=zC u;show⟨_,(qf (qq (jV (sc:=qg qZ) (XN:=["self","bits"]) ["name","bits","self"] 1 [1,0] rfl rfl rfl (by room) rfl (by room)
  (qP (K:=K) rfl (zc (K:=K) rfl (pv 0) rfl)) (fun _ _ _ _=>(qo (i:=0) (show(["name","bits","self"]:LS).Nodup by room) rfl (yN rfl))) jh
  (fun _ _ _ _=>(j4 (je (qk I (hmR u) qx (qa (pv 1) (qa (qu (qv (K:=K) rfl G) (zc (K:=K) rfl (pv 2) rfl) (pv 0) (fun _ _=>rfl)) qd))))))
  (fun _ _ _ _=>(pv 0))))),?_⟩
  apply .inl ⟨x,cw,dx,_,.ref ol,rfl,v,T.wcl,T.wo,qbd,?_⟩;show .inl ⟨⟨_,SqL.of t⟩,qX (K:=K) (fun i ys H'=>H'=H/\ys=(inB (ss.take i) 0 b).map V.str) ⟨rfl,by simp[inB]⟩ (fun i ys H' _ e=>by rw[e.1];show SqL.of t) (fun i y ys H' r e=>?_) fun ys H' e=>?_⟩
  .obtain⟨rfl,rfl⟩:=e;have D:i<ss.length:=by simpa using(yc.mp r).1
   have c:ss[i]?=some ss[i]:=yb D;generalize ss[i]=s at c;have A:y=.str s:=by rw[yd,c] at r;cases r;rfl
   subst A;obtain⟨j,J,B,z⟩:=jI (i:=0) (ye c);rw[xm] at z;have p:j=i:=qD hw.nd B c;subst p;have g:ss.take (j+1)=ss.take j++[s]:=by rw[yK,c];rfl
   have a:(ss.take j).length=j:=by rw[yI];lk
   apply .inl ⟨x,cw,dx,_,.ref d,rfl,v,T.wcl,T.wn,jC,?_⟩;apply .inr ⟨d,.int j,rfl,?_,?_⟩
   .have:=DGet.k (k:=Sum.inr s) C;rw[z] at this;show this
   apply⟨_,_,rfl,by lk,?_⟩;rw[qb7];ext
   have o:((inB (ss.take j) 0 b).map V.str).length<sizeLine:=by
    rw[ya];show qi (yi (qaE _ _ _) (by rw[a];have:=hw.few;lk))
   show qT (fun hb=>?_) fun hb=>?_
   .ext;show⟨o,rfl,?_⟩;rw[g,qaj,a,xm,yF hb];simp
   .show⟨rfl,?_⟩;rw[g,qaj,a,xm,yz hb];simp
  .obtain⟨rfl,rfl⟩:=e;have m:ss.take (ss.map V.str).length=ss:=by rw[ya,yO]
   rw[m];show⟨?_,fun l hl=>q l hl⟩;rw[ya];show yR (qi (yi (qaE _ _ _) (by have:=hw.few;lk)))
theorem ok_bs(F:Fun K "beside" "Web.beside" jQ f fd)(T:Txt K mg cc cw)(l:MethOk P w K mg base CX0 5 cw "bits_beside" ["self","place"] (spBB cw))(g:MethOk P w K mg base CX0 2 cw "names_in" ["self","bits"] (spNIn cw)):FnOk P w K mg base CX0 6 f fd ["self","place"] (spBs cw):=by
 show F.ok KD fun _ _ _ _ H vs Q E b h=>?_
 .obtain⟨x,ss,ns,y,j,rfl,a,i,q⟩:=h;obtain⟨dx,d,ol,n,c,_⟩:=id a;show⟨_,(qf (qq (qR g (hmR b) (pv 0) (qa (qR l (hmR b) (pv 0) (qa (pv 1) qd)) qd)))),?_⟩;apply⟨x,dx,_,rfl,c,zE (by room),?_⟩;apply⟨x,dx,_,rfl,c,zE (by room),?_⟩;apply⟨x,ss,ns,y,j,rfl,a,i,fun H1 e=>?_⟩;apply⟨x,ss,ns,_,rfl,a.same e,q H1 e⟩
theorem ok_tied(F:Fun K "tied" "Web.tied" zv f fd)(T:Txt K mg cc cw)(o:MethOk P w K mg base CX0 5 cw "bits_beside" ["self","place"] (spBB cw))(m:MethOk P w K mg base CX0 4 cw "number_of" ["self","place"] (spNum cw))
  (p:DefOk P w K mg base CX0 1 "has_bit" ["bits","number"] spBit):FnOk P w K mg base CX0 6 f fd ["self","one","other"] (spTied cw):=by
 show F.ok Kr fun _ _ _ _ H vs Q E b h=>?_
 .obtain⟨x,ss,ns,y,z,j,i,rfl,a,l,g,q⟩:=h;obtain⟨dx,d,ol,n,e,_⟩:=id a;show⟨_,(qc (qm (i:=3) Kr.nd rfl (yN rfl) (qR o (hmR b) (pv 0) (qa (pv 1) qd)))
 (qf (qq (qk p (hmR b) qx (qa (pv 3) (qa (qR m (hmR b) (pv 0) (qa (pv 2) qd)) qd)))))),?_⟩
  apply⟨x,dx,_,rfl,e,zE (by room),?_⟩;apply⟨x,ss,ns,y,j,rfl,a,l,fun H1 c=>?_⟩;apply⟨x,dx,_,rfl,c _ _ e,zE (by room),?_⟩;apply⟨x,ss,ns,z,i,rfl,a.same c,g,fun H2 r=>?_⟩;apply⟨_,_,rfl,by lk,?_⟩;rw[qb7];show q H2 (c.trans r)
theorem ok_pls(F:Fun K "places" "Web.places" jP f fd)(T:Txt K mg cc cw):FnOk P w K mg base CX0 1 f fd ["self"] (spPls cw):=by
 show F.ok KC fun _ _ _ _ H vs Q E g h=>?_
 .obtain⟨x,ss,ns,rfl,⟨dx,d,ol,n,b,c,a,e,hw⟩,q⟩:=h;show⟨_,(qf (qq (zj (qb5 (K:=K) rfl rfl) rfl T.b_list Xo (qa (zc (K:=K) rfl (pv 0) rfl) qd)))),?_⟩;apply .inl ⟨x,cw,dx,_,.ref ol,rfl,b,T.wcl,T.wo,qbd,?_⟩;apply .inl ⟨ol,_,rfl,.inl (SqL.of a),q⟩
theorem qdb(b:ss.Nodup)(h:ss[i]?=some s):ss.idxOf s=i:=by
 have a:s∈ss:=ye h;have hl:ss.idxOf s<ss.length:=xK a;show qD b (by rw[yb hl,XM]) h
theorem qab(f:ss.Nodup)(b:Nat):inB ss 0 b=ss.filter fun s=>b.testBit (ss.idxOf s):=by
 have e:∀ k,k<=ss.length->inB (ss.take k) 0 b=(ss.take k).filter fun s=>b.testBit (ss.idxOf s):=fun k=>by
  induction k with
  | zero=>intro _;simp[inB]
  | succ k ih =>
   intro h;have a:ss[k]?=some ss[k]:=yb (by lk);generalize ss[k]=g at a;have d:ss.take (k+1)=ss.take k++[g]:=by rw[yK,a];rfl
   have c:(ss.take k).length=k:=by rw[yI];lk
   rw[d,qaj,y0,ih (by lk),c,xm]
   congr 1
   rw[yU,xi,qdb f a]
 have:=e ss.length (yh _)
 rwa[yO] at this
theorem kR:FnScope ["self","ties","one","other"] ["self"] (qg zw):=fS
theorem inB_mem(a:ss.Nodup){b:Nat}(h:s∈inB ss 0 b):s∈ss/\b.testBit (ss.idxOf s)=true:=by
 rw[qab a] at h;show yp.mp h
noncomputable def qed(ss:LS)(ns:LN)(i:Nat):LP:=((inB ss 0 (ns.getD i 0)).filter fun o=>decide (i<ss.idxOf o)).map fun o=>(ss.getD i "",o)
noncomputable def jR(ss:LS)(ns:LN)(i:Nat):LP:=(List.range i).flatMap (qed ss ns)
def PrAt(H H':Hp)(l:Addr)(t:Addr)(ab:Str×Str):Prop:=H t=none/\t≠l/\H' t=some (.tup [.str ab.1,.str ab.2])
theorem PrAt.same{t:Addr}(h:PrAt H H1 l t ab)(s:L2.Same H1 H2):PrAt H H2 l t ab:=⟨h.1,h.2.1,s _ _ h.2.2⟩
inductive spTs(cw:Addr)(vs:List V)(H:Hp)(Q:VK)(E:XK):Prop|mk (x:Addr) (ss:LS) (ns:LN) (_:vs=[.ref x]) (_:WebAt cw H x ss ns) (_:∀(l:Addr) (ts:LI) (H':Hp),L2.Same H H'->H l=none->H' l=some (.lst (ts.map V.ref))->ts.length<=196->All2 (PrAt H H' l) ts (jR ss ns ss.length)->Q (.ref l) H')
theorem ok_ts(F:Fun K "ties" "Web.ties" zw f fd)(T:Txt K mg cc cw)(Kc:MethOk P w K mg base CX0 6 cw "beside" ["self","place"] (spBs cw)):FnOk P w K mg base CX0 7 f fd ["self"] (spTs cw):=by
 show F.ok kR fun _ _ _ _ H vs Q E hr h=>?_
 .obtain⟨x,ss,ns,rfl,hW,q⟩:=h;have hu:=zC hr;obtain⟨dx,d,ol,n,hx,hd,ho,hn,hw⟩:=id hW;have ac:=hw.few
  have Y:∀(H1:Hp) (y:Str) (i:Nat),L2.Same H H1->ss[i]?=some y->DGet H1 d (.str y) (some (.int (i:Nat))):=fun H1 y i R D=>by
   obtain⟨j,hj,gj,vj⟩:=jI (i:=0) (ye D);rw[xm] at vj;have ag:j=i:=qD hw.nd gj D;subst ag;have:=DGet.k (k:=Sum.inr y) (R _ _ hd);rw[vj] at this;show this
  show⟨_,(qc (qm (i:=1) kR.nd rfl (yN rfl) (jo qd))
 (qc (jc yQ rfl (qP (K:=K) rfl (zc (K:=K) rfl (pv 0) rfl)) (qo (i:=2) kR.nd rfl (yN rfl))
 (qf (jc yQ rfl (qP (K:=K) rfl (qR Kc (hmR hr) (pv 0) (qa (pv 2) qd))) (qo (i:=3) kR.nd rfl (yN rfl))
 (qf (qM (qt qcQ (qu (qv (K:=K) rfl hu) (zc (K:=K) rfl (pv 0) rfl) (pv 2) (fun _ _=>rfl)) (qu (qv (K:=K) rfl hu) (zc (K:=K) rfl (pv 0) rfl) (pv 3) (fun _ _=>rfl)) (qy _)) (qf (zh (qc3 (K:=K) rfl Yj Yr Ys jp (pv 1) (qa (jw (qa (pv 2) (qa (pv 3) qd))) qd)))) qw)))))
 (qf (qq (pv 1))))),?_⟩
  apply⟨by decide,fun l hl=>?_⟩;have s0:=qG (Sr H) (o:=.lst []) hl;apply .inl ⟨x,cw,dx,_,.ref ol,rfl,s0 _ _ hx,T.wcl,T.wo,qbd,?_⟩;show .inl ⟨⟨_,SqL.of (s0 _ _ ho)⟩,qQ (K:=K) (fun i J H'=>∃(ts:LI) (x2 U:Option V),J=[some (.ref x),some (.ref l),x2,U]/\L2.Same H H'/\H' l=some (.lst (ts.map V.ref))/\ts.length<=i*14/\All2 (PrAt H H' l) ts (jR ss ns i))
   ⟨[],none,none,rfl,s0,qb,by simp,All2.nil⟩ (fun i J H' _ B=>by obtain⟨_,_,_,_,z,_⟩:=B;show SqL.of (z _ _ ho)) (fun i y J H1 hy B=>?_) fun J H1 B=>?_⟩
  .obtain⟨ts,x2,U,rfl,R,G,s,c⟩:=B;have hi:i<ss.length:=by simpa using(yc.mp hy).1
   have D:ss[i]?=some ss[i]:=yb hi;generalize ss[i]=p at D;have ey:y=.str p:=by rw[yd,D] at hy;cases hy;rfl
   subst ey;have an:=hw.nm p (ye D);apply⟨x,dx,_,rfl,R _ _ hx,zE (by room),?_⟩;apply⟨x,ss,ns,p,i,rfl,hW.same R,D,fun H2 s2 b hb=>?_⟩;have s3:=R.trans s2;have s4:=qG s3 (o:=.lst ((inB ss 0 (ns.getD i 0)).map V.str)) hb;have S:=qG s2 (o:=.lst ((inB ss 0 (ns.getD i 0)).map V.str)) hb;have eb:upd H2 b (.lst ((inB ss 0 (ns.getD i 0)).map V.str)) b=some (.lst ((inB ss 0 (ns.getD i 0)).map V.str)):=qb;have aj:b≠l:=fun e=>by rw[e,s2 _ _ G] at hb;cases hb
   have al:H b=none:=s3.free hb;show .inl ⟨⟨_,SqL.of qb⟩,?_⟩;generalize upd H2 b (.lst ((inB ss 0 (ns.getD i 0)).map V.str))=H3 at s4 S eb ⊢;have L:∀ o,o∈inB ss 0 (ns.getD i 0)->o∈ss:=fun o h=>(inB_mem hw.nd h).1;have ae:=qaE (ns.getD i 0) ss 0;have r:qed ss ns i=((inB ss 0 (ns.getD i 0)).filter fun o=>decide (i<ss.idxOf o)).map fun o=>(ss.getD i "",o):=rfl;have aa:ss.getD i ""=p:=by simp[List.getD,D]
   rw[aa] at r;generalize am:inB ss 0 (ns.getD i 0)=bs at eb L ae r ⊢;show qQ (K:=K) (fun k J H'=>∃(us:LI) (U:Option V),J=[some (.ref x),some (.ref l),some (.str p),U]/\L2.Same H H'/\H' b=some (.lst (bs.map V.str))/\H' l=some (.lst (us.map V.ref))/\us.length<=i*14+k/\All2 (PrAt H H' l) us (jR ss ns i++((bs.take k).filter fun o=>decide (i<ss.idxOf o)).map fun o=>(p,o)))
    ⟨ts,_,rfl,s4,eb,S _ _ G,s,by simpa using c.mono fun _ _ h=>h.same S⟩ (fun k J H' _ B=>by obtain⟨_,_,_,_,z,_⟩:=B;show SqL.of z) (fun k u J Z N B=>?_) fun J Z B=>?_
   .obtain⟨us,U,rfl,I,C,g,v,a⟩:=B;have hk:k<bs.length:=by simpa using(yc.mp N).1
    have gk:bs[k]?=some bs[k]:=yb hk;generalize bs[k]=m at gk;have eu:u=.str m:=by rw[yd,gk] at N;cases N;rfl
    subst eu;have ai:=L m (ye gk);have af:=xK ai;have ad:ss[ss.idxOf m]?=some m:=by rw[yb af,XM]
    have X:bs.take (k+1)=bs.take k++[m]:=by rw[yK,gk];rfl
    apply .inl ⟨x,cw,dx,_,.ref d,rfl,I _ _ hx,T.wcl,T.wn,jC,?_⟩;apply .inr ⟨d,.int i,rfl,Y Z p i I D,?_⟩;apply .inl ⟨x,cw,dx,_,.ref d,rfl,I _ _ hx,T.wcl,T.wn,jC,?_⟩;apply .inr ⟨d,.int (ss.idxOf m:Nat),rfl,Y Z m _ I ad,?_⟩;apply qT (fun M=>?_) fun M=>?_
    .have A:i<ss.idxOf m:=by have:=yk M;lk
     apply⟨.inl ⟨rfl,_,SqL.of g⟩,?_⟩;apply⟨by show 2<=sizeLine;decide,fun t ht=>?_⟩;have O:l≠t:=qA g ht;have ak:b≠t:=qA C ht;have s6:=qG (Sr Z) (o:=.tup [.str p,.str m]) ht;apply⟨l,_,_,rfl,rfl,by rw[qh O];show g,by rw[ya];show qi (by have:i*14<=14*14:=Nat.mul_le_mul_right 14 (by lk);lk),?_⟩;show⟨us++[t],_,rfl,qbU (I.trans s6) hl,by rw[qh aj,qh ak];show C,by rw[qb,yL];rfl,by rw[yx];show us.length+1<=_;lk,?_⟩;rw[X,y0,yL,<- Yo];have W:([m].filter fun o=>decide (i<ss.idxOf o)).map (fun o=>(p,o))=[(p,m)]:=by simp[A]
     rw[W];show All2.snoc (a.mono fun t' ab h=>⟨h.1,h.2.1,?_⟩) ⟨I.free ht,O.symm,?_⟩
     .rw [qh h.2.1];show s6 _ _ h.2.2
     .rw [qh O.symm,qb]
    .have A:¬ i<ss.idxOf m:=fun h=>M (yH (by lk));show⟨us,_,rfl,I,C,g,by lk,?_⟩;have W:([m].filter fun o=>decide (i<ss.idxOf o)).map (fun o=>(p,o))=[]:=by simp[A]
     rw[X,y0,yL,W,Yg];show a
   .obtain⟨us,U,rfl,I,C,g,v,a⟩:=B;rw[ya,yO] at a;rw[ya] at v;show⟨us,_,_,rfl,I,g,by lk,?_⟩;unfold jR at a ⊢;rw[Xz,YV];have W:[i].flatMap (qed ss ns)=(bs.filter fun o=>decide (i<ss.idxOf o)).map fun o=>(p,o):=by rw[<- r];simp
    rw[W];show a
  .obtain⟨ts,x2,U,rfl,R,G,s,c⟩:=B;rw[ya] at s c;apply q l ts H1 R hl G (by have:ss.length*14<=14*14:=Nat.mul_le_mul_right 14 ac;lk) c
def Box(H:Hp)(p:Addr):Prop:=∃ a b c:Int,H p=some (.lst [.int a,.int b,.int c])
def BB(p:Addr)(H H':Hp):Prop:=(∀ b o,b≠p->H b=some o->H' b=some o)/\Box H' p
inductive spCell(K:W.Frag)(vs:List V)(H:Hp)(Q:VK)(E:XK):Prop|mk (a:Addr) (ns:LQ) (k:Int) (_:vs=[.ref a,.int k]) (_:SqL K H a (ns.map V.int)) (_:0<=k) (_:k<1000) (_:∀ i:Int,Q (.int i) H)
noncomputable def NewH(H H':Hp):Hp:=fun a=>match H a with | none=>H' a | some _=>none
theorem qK:∀{l m:LS},l.Nodup->(∀ x∈l,x∈m)->l.length<=m.length
 | [],_,_,_=>Yi _
 | x::r,m,hn,h=>by
  obtain⟨h1,c⟩:=yo.mp hn;have a:=h x yC;have d:=qK (l:=r) (m:=m.erase x) c fun y b=>(List.mem_erase_of_ne (fun e=>h1 (by rw[<- e];show b))).mpr (h y (yw _ b));rw[List.length_erase_of_mem a] at d;have:0<m.length:=List.length_pos_of_mem a;simp only[yM];lk
theorem inV_str(c:Str)(ss:LS):inV (.str c) (ss.map V.str)=decide (c∈ss):=by
 unfold inV;rw[List.any_map,Y8,xt,xC];constructor
 .rintro ⟨y,a,e⟩;have:y=c:=eq_of_beq e;rw[<- this];show a
 .intro h;show⟨c,h,YQ c⟩
inductive spFresh(vs:List V)(H:Hp)(Q:VK)(E:XK):Prop|mk (l:Addr) (ss:LS) (_:vs=[.ref l]) (_:H l=some (.lst (ss.map V.str))) (_:ss.length<=14) (_:∀(x:Str) (H':Hp),L2.Same H H'->zD x=true->x∉ss->Q (.str x) H')
noncomputable def signs:LS:=("abcdefghijklmno":Str).cps.toList.map fun c=>⟨#[c]⟩
theorem slice_ix(k n:Nat):Builtin.Str.strSliceIndices none (some (k:Int)) 1 n=List.range (min k n):=by
 unfold Builtin.Str.strSliceIndices sliceRange;simp only[show(1:Int)>0 by decide,xV];rw[yz (show ¬ ((k:Int)<0) by lk)];have a:max 0 (min (k:Int) n)=((min k n:Nat):Int):=by lk
 rw[a];have b:(fun(j:Nat)=>((0:Int)+1*(j:Int)).toNat)=id:=by funext j;show _=j;lk
 rw[b,List.map_id]
 congr 1
 split
 .rw [kr];lk
 .omega
theorem qdc(a:Array Nat):∀ m,m<=a.size->(List.range m).filterMap (a[·]?)=a.toList.take m
 | 0,_=>rfl
 | m+1,h=>by
  rw[Xz,List.filterMap_append,qdc a m (by lk),yK]
  congr 1
  have e:a[m]?=some a[m]:=YL (by lk);have b:a.toList[m]?=some a[m]:=by rw[Y5];show e
  rw[b,xo,e];rfl
theorem qa0(z:Str)(k:Nat):(Txt.slice z none (some (k:Int))).cps.toList=z.cps.toList.take k:=by
 unfold Txt.slice;rw[slice_ix];have hz:z.length=z.cps.toList.length:=by simp[Str.length]
 split
 .rename_i h
  rw[List.length_range] at h;have:min k z.length=z.length:=by simpa using h
  rw[Yv (by lk)]
 .show(List.filterMap _ _).toArray.toList=_;rw[qdc z.cps (min k z.length) (X1 _ _)];show z.cps.toList.take (min k z.length)=_;by_cases a:k<=z.length
  .rw [kg a]
  .rw [X5 (by lk),Yv (by lk),Yv (by lk)]
theorem zS(a b:Str):(a++b).cps.toList=a.cps.toList++b.cps.toList:=by
 show(a.cps++b.cps).toList=_;show Array.toList_append
theorem qcw:∀{xs:LS},(∀ x∈xs,x.cps.toList.all sg=true)->(Str.join "" xs).cps.toList.all sg=true
 | [],_=>rfl
 | [x],h=>h x (by simp)
 | x::y::r,h=>by
  have e:Str.join "" (x::y::r)=x++""++Str.join "" (y::r):=rfl;rw[e,zS,zS,xW,xW,h x (by simp),qcw fun z hz=>h z (yw _ hz)]
  room
theorem qee{c:Nat}(h:97<=c)(b:c<=122):sg c=true:=by
 have a:∀ i,i<26->sg (97+i)=true:=by room
 have:=a (c-97) (by lk)
 rwa[show 97+(c-97)=c by lk] at this
theorem join_len{xs:LS}(h:∀ x∈xs,x.length=1):(Txt.join "" xs).length=xs.length:=by
 have e:Txt.join "" xs=Str.join "" xs:=yY.mp (join_plain_closes "" xs);rw[e]
 cases xs with
 | nil=>rfl
 | cons a l =>
  rw[len_join_cons]
  have b:∀ l:LS,(∀ x∈l,x.length=1)->(l.map (·.length)).sum=l.length:=by
   intro l
   induction l with
   | nil=>intro _;rfl
   | cons a l ih =>
    intro h;rw[yV,kn,h a yC,ih fun x c=>h x (yw _ c),yM];lk
  have z:("":Str).length=0:=by room
  rw[b _ h,z];lk
theorem qcx{xs:LS}(h:∀ x∈xs,x.length=1):(xs.map (·.length)).sum=xs.length:=by
 induction xs with
 | nil=>rfl
 | cons a l ih =>
  rw[yV,kn,h a yC,ih fun x b=>h x (yw _ b),yM];lk
def Signs(p:Addr)(H:Hp)(i:Nat)(ys:List V)(H':Hp):Prop:=BB p H H'/\∃ xs:LS,ys=xs.map V.str/\xs.length=i/\∀ x∈xs,x.length=1/\x.cps.toList.all sg=true
noncomputable def L26:Str:="abcdefghijklmnopqrstuvwxyz"
theorem qdd{i:Int}(b:0<=i)(h1:i<26):atI L26.cps.toList i=some (97+i.toNat):=by
 obtain⟨n,rfl⟩:=Int.eq_ofNat_of_zero_le b;have a:∀ n,n<26->L26.cps.toList[n]?=some (97+n):=by room
 rw[Yc];show qp (a n (by lk))
theorem qcy{x:Str}{l:LN}(e:x.cps.toList=l)(h1:1<=l.length)(a:l.length<=6)(h:l.all sg=true):zD x=true:=by
 have hl:x.length=l.length:=by rw[<- e];simp[Str.length]
 unfold zD;rw[yF ⟨by lk,by lk⟩,e];show h
theorem qbO(h:∀(i j:Nat) (s:Str),ss[i]?=some s->ss[j]?=some s->i=j):ss.Nodup:=by
 show Y6.mpr fun i j a c b e=>?_;have:=h i j ss[j] (by rw[yb a,e]) (yb c);lk
def NL(p:Addr)(H':Hp)(l:Addr)(ss:LS):Prop:=H' l=some (.lst (ss.map V.str))/\l≠p
structure NOk(ss:LS):Prop where
 few:ss.length<=14
 nd:ss.Nodup
 nm:∀ s∈ss,zD s=true
def PrT(p:Addr)(H:Hp)(t:Addr)(ab:Str×Str):Prop:=t≠p/\H t=some (.tup [.str ab.1,.str ab.2])
def TL(p:Addr)(H:Hp)(l:Addr)(ts:LI)(tps:LP):Prop:=H l=some (.lst (ts.map V.ref))/\l≠p/\All2 (PrT p H) ts tps
theorem qaF(f:α->β):∀(l:List α) (k:Nat),(l.map f).eraseIdx k=(l.eraseIdx k).map f
 | [],_=>rfl
 | _::_,0=>rfl
 | a::r,k+1=>congrArg (f a::·) (qaF f r k)
theorem All2.erase{R:α->β->Prop}{l:List α}{m:List β}(h:All2 R l m)(k:Nat):All2 R (l.eraseIdx k) (m.eraseIdx k):=by
 show⟨by rw[xP,xP,h.len],fun j a b c hb=>?_⟩;rw[List.getElem?_eraseIdx] at c hb;split at c
 .rename_i hlt
  rw[yF hlt] at hb;show h.at_ j a b c hb
 .rename_i hlt
  rw[yz hlt] at hb;show h.at_ (j+1) a b c hb
structure TOk(ss:LS)(tps:LP):Prop where
 few:tps.length<=30
 ok:∀ ab∈tps,∃ j k:Nat,j<k/\ss[j]?=some ab.1/\ss[k]?=some ab.2
 nd:tps.Nodup
inductive spTies(vs:List V)(H:Hp)(Q:VK)(E:XK):Prop|mk (p n:Addr) (ss:LS) (_:vs=[.ref p,.ref n]) (_:Box H p) (_:NL p H n ss) (_:NOk ss) (_:∀(l:Addr) (ts:LI) (tps:LP) (H':Hp),BB p H H'->H l=none->TL p H' l ts tps->TOk ss tps->Q (.ref l) H')
def Shuf(tps d:LP):Prop:=∃ c,d.Perm c/\All2 (fun a b=>b=a\/b=(a.2,a.1)) tps c
inductive spShuf(vs:List V)(H:Hp)(Q:VK)(E:XK):Prop|mk (p l:Addr) (ts:LI) (tps:LP) (_:vs=[.ref p,.ref l]) (_:Box H p) (_:TL p H l ts tps) (_:tps.length<=30) (_:∀(l':Addr) (us:LI) (ups:LP) (H':Hp),BB p H H'->H l'=none->TL p H' l' us ups->Shuf tps ups->Q (.ref l') H')
theorem qdT{z:Addr}{Q:VK}(hl:H l=some (.lst xs))(hz:H z=some (.lst []))(q:Q (.bl (!xs.isEmpty)) H):qec K true (.ref l) (.ref z) H Q:=by
 cases xs with
 | nil=>show .inr (.inl ⟨l,z,true,1,rfl,rfl,by decide,EqT.lst (n:=0) (e:=fun _=>true) (SqL.of hl) (SqL.of hz) rfl fun j x y h=>by(simp at h),q⟩)
 | cons x r=>show .inr (.inl ⟨l,z,false,1,rfl,rfl,by decide,EqT.lstL (SqL.of hl) (SqL.of hz) (by simp),q⟩)
theorem all_true(n:Nat):(List.range n).all (fun _=>true)=true:=by simp
theorem qcz{a b:Addr}{c t':Str}(hb:H b=some (.tup [.str c,.str t']))(g:H a=some (.tup [.str s,.str t])):EqD K H 1 (.ref b) (.ref a) (decide ((c,t')=(s,t))):=by
 by_cases e:b=a
 .subst e;rw[hb] at g;cases g;rw[yH rfl];show .self
 .have z:=EqT.tup (K:=K) (H:=H) (n:=0) (e:=fun j=>if j=0 then eqV (.str c) (.str s) else eqV (.str t') (.str t)) (SqT.of hb) (SqT.of g) fun j x y d f=>by
   match j,d,f with
   | 0,d,f=>cases d;cases f;show .flat rfl rfl
   | 1,d,f=>cases d;cases f;show .flat rfl rfl
  have h:((List.range (min [V.str c,V.str t'].length [V.str s,V.str t].length)).all (fun j=>if j=0 then eqV (.str c) (.str s) else eqV (.str t') (.str t))&&[V.str c,V.str t'].length==[V.str s,V.str t].length)=decide ((c,t')=(s,t)):=by
   show((c==s)&&((t'==t)&&true)&&true)=_;rw[Y8];simp
  rw[h] at z;show .deep z e
noncomputable def qcL(H:Hp)(z:V):Option (Str×Str):=match z with
 | .ref t=>(match H t with
  | some (.tup [.str a,.str b])=>some (a,b)
  | _=>none)
 | _=>none
theorem qbe{t:Addr}(h:H t=some (.tup [.str a,.str b])):qcL H (.ref t)=some (a,b):=by
 unfold qcL;dsimp only;rw[h]
theorem any_in(h:All2 (fun t ab=>H t=some (.tup [.str ab.1,.str ab.2])) ts tps)(st:Str×Str):((ts.map V.ref).any fun z=>decide (qcL H z=some st))=decide (st∈tps):=by
 rw[Y8,xt,xC];constructor
 .rintro ⟨z,hz,e⟩;obtain⟨t,f,rfl⟩:=YE.mp hz;obtain⟨ab,b,r⟩:=h.mem f;have e:=yk e;rw[qbe r] at e;cases e;show b
 .intro d;obtain⟨k,c,e⟩:=List.getElem_of_mem d;have a:k<ts.length:=by rw[h.len];show c
  have r:=h.at_ k ts[k] tps[k] (yb a) (yb c);show⟨.ref ts[k],YE.mpr ⟨_,List.getElem_mem a,rfl⟩,yH ?_⟩;rw[qbe r,e]
theorem qeD{a:Addr}{Q:VK}(h:PL H l ts tps)(d:H a=some (.tup [.str s,.str t]))(q:Q (.bl (decide ((s,t)∈tps))) H):qeg K false (.ref a) (.ref l) H Q:=by
 show .inr (.inr ⟨l,ts.map V.ref,fun z=>decide (qcL H z=some (s,t)),1,rfl,SqL.of h.1,by decide,fun z hz=>?_,?_⟩)
 .obtain⟨b,hb,rfl⟩:=YE.mp hz;obtain⟨ab,_,r⟩:=h.2.mem hb;have e:=qcz (K:=K) r d
  have c:decide (qcL H (.ref b)=some (s,t))=decide ((ab.1,ab.2)=(s,t)):=by
   rw[qbe r];apply Yx.mpr;rw[Option.some.injEq]
  show EqD K H 1 (.ref b) (.ref a) (decide (qcL H (.ref b)=some (s,t)));rw[c];show e
 .rw [any_in h.2];show q
def Adj(ss:LS)(ns:LN)(tps:LP):Prop:=∀ a b s t,ss[a]?=some s->ss[b]?=some t->((ns.getD a 0).testBit b=true↔((s,t)∈tps\/(t,s)∈tps))
theorem qb8{a b:Addr}(c:H a=some (.lst xs))(hb:H b=some (.lst ys))(hl:xs.length=ys.length)(h:∀(j:Nat) x y,xs[j]?=some x->ys[j]?=some y->EqD K H n x y true):EqT K H (n+1) a b true:=by
 have z:=EqT.lst (K:=K) (H:=H) (n:=n) (e:=fun _=>true) (SqL.of c) (SqL.of hb) hl h;rw[all_true] at z;show z
theorem eqT_pl(h:PL H l ts tps)(g:PL H r us tps):EqT K H 2 l r true:=by
 show qb8 h.1 g.1 (by rw[ya,ya,h.2.len,g.2.len]) fun j x y c d=>?_;rw[yd] at c d
 cases a:ts[j]? with
 | none=>rw[a] at c;cases c
 | some t =>
  cases b:us[j]? with
  | none=>rw[b] at d;cases d
  | some u =>
   rw[a] at c;rw[b] at d;cases c;cases d;have f:j<tps.length:=by rw[<- h.2.len];show(yc.mp a).1
   have e:=qcz (K:=K) (h.2.at_ j t tps[j] a (yb f)) (g.2.at_ j u tps[j] b (yb f));rw[yH rfl] at e;show e
theorem Kd:FnScope ["web","thing","paired","tie"] ["web","thing"] (qg j7):=fS
theorem Kx:FnScope ["self","thing"] ["self","thing"] (qg jA):=fS
noncomputable def ze(seen:LS):List (Key×V):=seen.map fun s=>(.inr s,.bl true)
theorem jt(y:Str):∀ seen:LS,(jG (ze seen) (.inr y:Key)).isSome=decide (y∈seen)
 | []=>rfl
 | s::r=>by
  by_cases e:s=y
  .subst e;show(jG (((.inr s:Key),V.bl true)::ze r) _).isSome=_;rw[yH (by simp)];simp[jG]
  .show(jG (((.inr s:Key),V.bl true)::ze r) _).isSome=_;rw[qH (p:=((.inr s:Key),V.bl true)) (fun z=>e (YW z)),jt y r];apply Yx.mpr;simp[Yn e]
theorem zx(h:y∉seen):zm (ze seen) (.inr y:Key) (.bl true)=ze (seen++[y]):=by
 have:jG (ze seen) (.inr y:Key)=none:=by
  have:=jt y seen;rw[yl h] at this;show Option.isNone_iff_eq_none.mp (by rw[<- Option.not_isSome,this];rfl)
 rw[qah _ this];unfold ze;rw[yL];rfl
noncomputable def qj(qs:LP):LS:=qs.flatMap fun q=>[q.1,q.2]
noncomputable def prK(qs:LP):List (Key×V):=qs.flatMap fun q=>[(.inr q.1,.str q.2),(.inr q.2,.str q.1)]
noncomputable def pt:LP->Str->Option Str
 | [],_=>none
 | q::r,s=>if q.1=s then some q.2 else if q.2=s then some q.1 else pt r s
theorem qU(s:Str):∀ qs,jG (prK qs) (.inr s:Key)=(pt qs s).map V.str
 | []=>rfl
 | q::r=>by
  show jG (((.inr q.1:Key),V.str q.2)::((.inr q.2:Key),V.str q.1)::prK r) _=(pt (q::r) s).map V.str;unfold pt;by_cases h1:q.1=s
  .rw [qL (p:=((.inr q.1:Key),V.str q.2)) (congrArg Sum.inr h1),yF h1];rfl
  .rw [qH (p:=((.inr q.1:Key),V.str q.2)) (fun z=>h1 (YW z)),yz h1];by_cases a:q.2=s
   .rw [qL (p:=((.inr q.2:Key),V.str q.1)) (congrArg Sum.inr a),yF a];rfl
   .rw [qH (p:=((.inr q.2:Key),V.str q.1)) (fun z=>a (YW z)),yz a,qU s r]
theorem pt_none:∀{qs:LP},pt qs s=none↔s∉qj qs
 | []=>by simp[pt,qj]
 | q::r=>by
  have e:qj (q::r)=q.1::q.2::qj r:=rfl;rw[e];unfold pt;by_cases h1:q.1=s
  .rw [yF h1];simp[h1]
  .rw [yz h1];by_cases a:q.2=s
   .rw [yF a];simp[a]
   .rw [yz a,pt_none];simp only[yE,not_or];show⟨fun z=>⟨Yn h1,Yn a,z⟩,fun z=>z.2.2⟩
structure PGo(ss:LS)(tps qs:LP):Prop where
 inn:∀ q∈qs,(q∈tps\/(q.2,q.1)∈tps)/\q.1∈ss/\q.2∈ss/\q.1≠q.2
 nd:(qj qs).Nodup
 few:qs.length<=30
theorem jJ(qs:LP):(qj qs).length=2*qs.length:=by
 induction qs with
 | nil=>rfl
 | cons q r ih=>show(q.1::q.2::qj r).length=_;simp only[yM];lk
theorem ju(qs:LP)(q:Str×Str):qj (qs++[q])=qj qs++[q.1,q.2]:=by
 unfold qj;rw[YV];rfl
theorem PGo.new(g:PGo ss tps qs)(h:qs[i]?=some ab):qs.take (i+1)=qs.take i++[ab]/\(qj (qs.take i++[ab])).Nodup/\ab.1∉qj (qs.take i)/\ab.2∉qj (qs.take i):=by
 have b:qs.take (i+1)=qs.take i++[ab]:=by rw[yK,h];rfl
 have a:(qj (qs.take i++[ab])).Nodup:=by
  rw[<- b];have:qj qs=qj (qs.take (i+1))++qj (qs.drop (i+1)):=by unfold qj;rw[<- YV,xI]
  have e:=g.nd;rw[this] at e;show(Yt.mp e).1
 have c:=a;rw[ju] at c;have d:=(Yt.mp c).2.2;show⟨b,a,fun z=>d _ z ab.1 (by simp) rfl,fun z=>d _ z ab.2 (by simp) rfl⟩
inductive spHt(cw:Addr)(vs:List V)(H:Hp)(Q:VK)(E:XK):Prop|mk (x t:Addr) (ss:LS) (ns:LN) (tps:LP) (ab:Str×Str) (_:vs=[.ref x,.ref t]) (_:WebAt cw H x ss ns) (_:Adj ss ns tps) (_:H t=some (.tup [.str ab.1,.str ab.2])) (_:(ab∈tps\/(ab.2,ab.1)∈tps)) (_:ab.1∈ss) (_:ab.2∈ss) (_:ab.1≠ab.2) (_:∀ H',L2.Same H H'->Q (.bl true) H')
inductive spAp(cw:Addr)(vs:List V)(H:Hp)(Q:VK)(E:XK):Prop|mk (x l:Addr) (ss:LS) (ns:LN) (us:LI) (tps qs:LP) (_:vs=[.ref x,.ref l]) (_:WebAt cw H x ss ns) (_:Adj ss ns tps) (_:PL H l us qs) (_:PGo ss tps qs) (_:∀ H',L2.Same H H'->Q (.bl true) H')
theorem ok_ht(F:Fun K "has_tie" "Web.has_tie" jA f fd)(T:Txt K mg cc cw)(D:DefOk P w K mg base CX0 3 "are_two_places" ["numbers","thing"] spTwo)(z:MethOk P w K mg base CX0 6 cw "tied" ["self","one","other"] (spTied cw)):FnOk P w K mg base CX0 7 f fd ["self","thing"] (spHt cw):=by
 show F.ok Kx fun _ _ _ _ H vs Q E g h=>?_
 .obtain⟨x,t,ss,ns,tps,ab,rfl,s,A,o,c,l,m,e,q⟩:=h;have u:=zC g;obtain⟨y,n,ol,I,hb,d,C,B,hw⟩:=id s;show⟨_,(qf (qq (qaN (qk D (hmR g) qx (qa (zc (K:=K) rfl (pv 0) rfl) (qa (pv 1) qd))) (qaM (qR z (hmR g) (pv 0) (qa (qu (qv (K:=K) rfl u) (pv 1) qe (fun _ _=>rfl)) (qa (qu (qv (K:=K) rfl u) (pv 1) qe (fun _ _=>rfl)) qd))))))),?_⟩;apply .inl ⟨x,cw,y,_,.ref n,rfl,hb,T.wcl,T.wn,jC,?_⟩;apply⟨n,t,ss,ab.1,ab.2,rfl,d,o,hw.nm _ l,hw.nm _ m,l,m,e,fun H1 b=>?_⟩;show⟨true,rfl,qbT ?_⟩;have a:=b _ _ o;apply⟨x,y,_,rfl,b _ _ hb,zE (by room),?_⟩;apply .inl (qaX a (v:=.str ab.1) (qp (j:=0) rfl) ?_);apply .inl (qaX a (v:=.str ab.2) (qp (j:=1) rfl) ?_);ext;obtain⟨j,r⟩:=yf l;obtain⟨i,p⟩:=yf m;show⟨x,ss,ns,ab.1,ab.2,j,i,rfl,s.same b,r,p,fun H2 G=>?_⟩;rw[(A j i ab.1 ab.2 r p).mpr c];show q H2 (b.trans G)
theorem ok_ap(F:Fun K "are_pairs" "are_pairs" j7 f fd)(T:Txt K mg cc cw)(kY:MethOk P w K mg base CX0 7 cw "has_tie" ["self","thing"] (spHt cw)):FnOk P w K mg base CX0 8 f fd ["web","thing"] (spAp cw):=by
 show F.ok Kd fun _ _ _ _ H vs Q E X h=>?_
 .obtain⟨x,l,ss,ns,us,tps,qs,rfl,W,hA,⟨hl,r⟩,g,q⟩:=h;have e:=zC X;obtain⟨wx,dd,ol,nn,hb,_⟩:=id W;have aa:=g.few;have N:=r.len;show⟨_,(qc (qM (jm (je (qr (qco (K:=K) rfl) rfl T.b_isinstance xF (qa (pv 1) (qa (zg (v:=.ty "list") rfl T.b_list Xo rfl) qd))))) (qf (qq jx)) qw)
 (qc (qm (i:=2) Kd.nd rfl (yN rfl) jz)
 (qc (jc yQ rfl (qP (K:=K) rfl (pv 1)) (qo (i:=3) Kd.nd rfl (yN rfl))
 (qc (qM (PW.pt (qbX (jm (je (qR kY (hmR X) (pv 0) (qa (pv 3) qd)))) (qbX (qt (qbI (K:=K) rfl e) (qu (qv (K:=K) rfl e) (pv 3) qe (fun _ _=>rfl)) (pv 2) (by with_unfolding_all rfl)) (qaK (qt (qbI (K:=K) rfl e) (qu (qv (K:=K) rfl e) (pv 3) qe (fun _ _=>rfl)) (pv 2) (by with_unfolding_all rfl)))))) (qf (qq jx)) qw)
 (qc (qV jx (jg (pv 2) (qu (qv (K:=K) rfl e) (pv 3) qe (fun _ _=>rfl)) (ji e)))
 (qf (qV jx (jg (pv 2) (qu (qv (K:=K) rfl e) (pv 3) qe (fun _ _=>rfl)) (ji e)))))))
 (qf (qq jx))))),?_⟩
  apply qdA (.inl (.lst hl)) rfl (qa9 K "list" (by simp) "list" (by simp)) ?_;apply yq ?_;ext;intro d C;have O:=qG (Sr H) (o:=.dK []) C;have U:upd H d (.dK []) d=some (.dK (ze [])):=qb;generalize upd H d (.dK [])=H1 at O U;apply .inl ⟨⟨_,.of (O _ _ hl)⟩,qQ (xs:=us.map V.ref) (fun i G J=>L2.Same H J/\∃ R,G=[some (.ref x),some (.ref l),some (.ref d),R]/\J d=some (.dK (ze (qj (qs.take i))))) ⟨O,_,rfl,U⟩ (fun i G J _ u=>.of (u.1 _ _ hl)) (fun i y G J Y u=>?_) fun G J u=>?_⟩
  .obtain⟨n,R,rfl,c⟩:=u;rw[yd] at Y;obtain⟨b,s,rfl⟩:=yn.mp Y;have hi:i<us.length:=(yc.mp s).1;obtain⟨ab,m⟩:∃ ab,qs[i]?=some ab:=⟨_,yb (by rw[<- N];show hi)⟩;have B:=r.at_ i b ab s m;obtain⟨ht,m1,m2,t⟩:=g.inn ab (ye m);obtain⟨M,ac,Z,n2⟩:=g.new m;have ad:(qj (qs.take i)).length<=60:=by rw[jJ,yI];lk
   have L:b≠d:=fun z=>by rw[z,C] at B;cases B
   apply⟨x,wx,_,rfl,n _ _ hb,zE (by room),?_⟩;apply⟨x,b,ss,ns,tps,ab,rfl,W.same n,hA,n _ _ B,ht,m1,m2,t,fun I D=>?_⟩;have A:=n.trans D;have a:=A _ _ B;apply yq ?_;apply .inl (qaX a (v:=.str ab.1) (qp (j:=0) rfl) ?_);apply .inr (.inl ⟨d,_,rfl,DGet.k (k:=Sum.inr ab.1) (D _ _ c),?_⟩);rw[yz (by decide),jt,yl Z];apply yq ?_;apply .inl (qaX a (v:=.str ab.2) (qp (j:=1) rfl) ?_);apply .inr (.inl ⟨d,_,rfl,DGet.k (k:=Sum.inr ab.2) (D _ _ c),?_⟩);rw[yz (by decide),jt,yl n2];apply yq ?_;apply .inl (qaX a (v:=.str ab.1) (qp (j:=0) rfl) ?_);apply .inr ⟨d,_,rfl,DPut.k (k:=Sum.inr ab.1) (D _ _ c) (by unfold ze;rw[ya,yX];lk),?_⟩;rw[zx Z];have s3:=qbU A (o:=.dK (ze (qj (qs.take i)++[ab.1]))) C;have S:upd I d (.dK (ze (qj (qs.take i)++[ab.1]))) d=some (.dK (ze (qj (qs.take i)++[ab.1]))):=qb;have p:upd I d (.dK (ze (qj (qs.take i)++[ab.1]))) b=some (.tup [.str ab.1,.str ab.2]):=by rw[qh L];show a
   generalize upd I d (.dK (ze (qj (qs.take i)++[ab.1])))=J3 at s3 S p;apply .inl (qaX p (v:=.str ab.2) (qp (j:=1) rfl) ?_);apply .inr ⟨d,_,rfl,DPut.k (k:=Sum.inr ab.2) S (by unfold ze;rw[ya,yx,yX];simp only[yM,Ym];lk),?_⟩;rw[zx (fun z=>by rcases yB.mp z with z | z;show n2 z;show t (yA.mp z).symm)];show⟨qbU s3 C,_,rfl,by rw[qb,M,ju,Yo];rfl⟩
  .obtain⟨n,R,rfl,c⟩:=u;apply q J n
theorem kQ:FnScope ["web","pairs","partners","pair"] ["web","pairs"] (qg jB):=fS
theorem qaG(qs:LP):(prK qs).length=2*qs.length:=by
 induction qs with
 | nil=>rfl
 | cons q r ih=>show(_::_::prK r).length=_;simp only[yM];rw[ih];lk
theorem prK_snoc(qs:LP)(q:Str×Str):prK (qs++[q])=prK qs++[(.inr q.1,.str q.2),(.inr q.2,.str q.1)]:=by
 unfold prK;rw[YV];rfl
theorem qde(h:(qj (qs++[q])).Nodup):zm (zm (prK qs) (.inr q.1:Key) (.str q.2)) (.inr q.2:Key) (.str q.1)=prK (qs++[q]):=by
 rw[ju] at h;obtain⟨h1,b,c⟩:=Yt.mp h;have e:q.1∉qj qs:=fun z=>c _ z _ (by simp) rfl;have f:q.2∉qj qs:=fun z=>c _ z q.2 (by simp) rfl;have g:q.1≠q.2:=by simp at b;show b
 have i:jG (prK qs) (.inr q.1:Key)=none:=by rw[qU,pt_none.mpr e];rfl
 rw[qah _ i]
 have a:jG (prK qs++[((.inr q.1:Key),V.str q.2)]) (.inr q.2:Key)=none:=by
  have a:jG (prK qs) (.inr q.2:Key)=none:=by rw[qU,pt_none.mpr f];rfl
  unfold jG at a ⊢;rw[List.find?_append];have:(prK qs).find? (fun d=>decide (d.1=(.inr q.2:Key)))=none:=by simpa using a
  rw[this];simp[g]
 rw[qah _ a,prK_snoc];simp
inductive spPn(cw:Addr)(vs:List V)(H:Hp)(Q:VK)(E:XK):Prop|mk (x l:Addr) (ss:LS) (ns:LN) (us:LI) (tps qs:LP) (_:vs=[.ref x,.ref l]) (_:WebAt cw H x ss ns) (_:Adj ss ns tps) (_:PL H l us qs) (_:PGo ss tps qs) (_:∀(d:Addr) (H':Hp),L2.Same H H'->H d=none->H' d=some (.dK (prK qs))->Q (.ref d) H')
theorem ok_pn(F:Fun K "partners_in" "partners_in" jB f fd)(T:Txt K mg cc cw)(Y:DefOk P w K mg base CX0 8 "are_pairs" ["web","thing"] (spAp cw)):FnOk P w K mg base CX0 9 f fd ["web","pairs"] (spPn cw):=by
 show F.ok kQ fun _ _ _ _ H vs Q E S h=>?_
 .obtain⟨x,l,ss,ns,us,tps,qs,rfl,hW,hA,⟨hl,n⟩,g,q⟩:=h;have p:=zC S;have Z:=g.few;have u:=n.len;show⟨_,(qc (qM (jm (je (qk Y (hmR S) qx (qa (pv 0) (qa (pv 1) qd))))) (qf jf) qw)
 (qc (qm (i:=2) kQ.nd rfl (yN rfl) jz)
 (qc (jc yQ rfl (qP (K:=K) rfl (pv 1)) (qo (i:=3) kQ.nd rfl (yN rfl))
 (qc (qV (qu (qv (K:=K) rfl p) (pv 3) qe (fun _ _=>rfl)) (jg (pv 2) (qu (qv (K:=K) rfl p) (pv 3) qe (fun _ _=>rfl)) (ji p)))
 (qf (qV (qu (qv (K:=K) rfl p) (pv 3) qe (fun _ _=>rfl)) (jg (pv 2) (qu (qv (K:=K) rfl p) (pv 3) qe (fun _ _=>rfl)) (ji p))))))
 (qf (qq (pv 2)))))),?_⟩
  apply⟨x,l,ss,ns,us,tps,qs,rfl,hW,hA,⟨hl,n⟩,g,fun H1 W=>?_⟩;apply yq ?_;ext;intro d R;have c:=W.free R;have L:=qG W (o:=.dK []) R;have O:upd H1 d (.dK []) d=some (.dK (prK [])):=qb;generalize upd H1 d (.dK [])=H2 at L O;apply .inl ⟨⟨_,.of (L _ _ hl)⟩,qQ (xs:=us.map V.ref) (fun i B J=>L2.Same H J/\∃ M,B=[some (.ref x),some (.ref l),some (.ref d),M]/\J d=some (.dK (prK (qs.take i)))) ⟨L,_,rfl,O⟩ (fun i B J _ t=>.of (t.1 _ _ hl)) (fun i y B J U t=>?_) fun B J t=>?_⟩
  .obtain⟨A,M,rfl,a⟩:=t;rw[yd] at U;obtain⟨b,s,rfl⟩:=yn.mp U;have hi:i<us.length:=(yc.mp s).1;obtain⟨ab,r⟩:∃ ab,qs[i]?=some ab:=⟨_,yb (by rw[<- u];show hi)⟩;have C:=n.at_ i b ab s r;obtain⟨I,G,n1,n2⟩:=g.new r;have D:b≠d:=fun z=>by rw[z,c] at C;cases C
   have m:=A _ _ C;have aa:(prK (qs.take i)).length<=2000:=by rw[qaG,yI];lk
   apply .inl (qaX m (v:=.str ab.2) (qp (j:=1) rfl) ?_);apply .inl (qaX m (v:=.str ab.1) (qp (j:=0) rfl) ?_);apply .inr ⟨d,_,rfl,DPut.k (k:=Sum.inr ab.1) a (by rw[yX];lk),?_⟩;have X:=qbU A (o:=.dK (zm (prK (qs.take i)) (Sum.inr ab.1) (.str ab.2))) c;have N:upd J d (.dK (zm (prK (qs.take i)) (Sum.inr ab.1) (.str ab.2))) d=some (.dK (zm (prK (qs.take i)) (Sum.inr ab.1) (.str ab.2))):=qb;have e:upd J d (.dK (zm (prK (qs.take i)) (Sum.inr ab.1) (.str ab.2))) b=some (.tup [.str ab.1,.str ab.2]):=by rw[qh D];show m
   generalize upd J d (.dK (zm (prK (qs.take i)) (Sum.inr ab.1) (.str ab.2)))=J3 at X N e;apply .inl (qaX e (v:=.str ab.1) (qp (j:=0) rfl) ?_);apply .inl (qaX e (v:=.str ab.2) (qp (j:=1) rfl) ?_);apply .inr ⟨d,_,rfl,DPut.k (k:=Sum.inr ab.2) N ?_,?_⟩
   .have:=qO (prK (qs.take i)) (Sum.inr ab.1:Key) (.str ab.2);rw[yX];lk
   .show⟨qbU X c,_,rfl,by rw[qb,qde G,I]⟩
  .obtain⟨A,M,rfl,a⟩:=t;rw[ya,u,yO] at a;apply q d J A c a
theorem qbP:∀{qs:LP},pt qs s=some t->(s,t)∈qs\/(t,s)∈qs
 | [],h=>by cases h
 | q::r,h=>by
  unfold pt at h;split at h
  .rename_i e;cases h;show .inl (by rw[<- e];simp)
  .split at h
   .rename_i e;cases h;show .inr (by rw[<- e];simp)
   .rcases qbP h with z | z
    .show .inl (yw _ z)
    .show .inr (yw _ z)
theorem qdE:∀{qs:LP},(qj qs).Nodup->∀{a b:Str},(a,b)∈qs\/(b,a)∈qs->pt qs a=some b
 | [],_,a,b,m=>by rcases m with z | z<;>cases z
 | q::r,h,a,b,m=>by
  have f:(q.1::q.2::qj r).Nodup:=h;obtain⟨i,n⟩:=yo.mp f;obtain⟨o,p⟩:=yo.mp n;have inr:∀{x y:Str},(x,y)∈r->x∈qj r/\y∈qj r:=fun d=>⟨xv.mpr ⟨_,d,by simp⟩,xv.mpr ⟨_,d,by simp⟩⟩;unfold pt
  have c:(a,b)∈r\/(b,a)∈r->(if q.1=a then some q.2 else if q.2=a then some q.1 else pt r a)=some b:=fun l=>by
   have j:a∈qj r:=l.elim (fun z=>(inr z).1) fun z=>(inr z).2;rw[yz (fun z=>i (by rw[z];show yw _ j)),yz (fun z=>o (by rw[z];show j))];show qdE p l
  rcases m with z | z
  .rcases yE.mp z with z | z
   .subst z;rw[yF rfl]
   .show c (.inl z)
  .rcases yE.mp z with z | z
   .subst z;have g:b≠a:=fun e=>i (by show b∈a::_;rw[e];show yC);rw[yz g,yF rfl]
   .show c (.inr z)
theorem qdf(h:(qj qs).Nodup):pt qs a=some b↔(a,b)∈qs\/(b,a)∈qs:=⟨qbP,qdE h⟩
theorem qbQ(h:(qj qs).Nodup):pt qs a=some b↔pt qs b=some a:=by
 rw[qdf h,qdf h,Or.comm]
theorem qbf{x y:Option Str}(h:∀ b,x=some b↔y=some b):x=y:=by
 cases x with
 | none=>cases y with
  | none=>rfl
  | some b=>show absurd ((h b).mpr rfl) (fun z=>by cases z)
 | some a=>show((h a).mp rfl).symm
theorem kF:FnScope ["web","thing","seen","place"] ["web","thing"] (qg qJ):=fS
theorem qbg(a b:Str):eqV (.str a) (.str b)=decide (a=b):=by
 unfold eqV;by_cases h:a=b<;>simp[h]
theorem qeE{i j:Str}{Q:VK}(q:Q (.bl (decide (i=j))) H):qdB K (.str i) (.str j) H Q:=.inl (.inl (.inl ⟨rfl,rfl,by rw[yz (by decide),qbg];show q⟩))
theorem vNeS{i j:Str}{Q:VK}(q:Q (.bl (!decide (i=j))) H):qec K true (.str i) (.str j) H Q:=.inl ⟨rfl,rfl,by rw[yF rfl,qbg];show q⟩
noncomputable def tpsOf(a qs:LP):LP:=a.filter fun q=>decide (pt qs q.1=some q.2)
inductive spTp(cw:Addr)(vs:List V)(H:Hp)(Q:VK)(E:XK):Prop|mk (x l:Addr) (ss:LS) (ns:LN) (us:LI) (tps qs:LP) (_:vs=[.ref x,.ref l]) (_:WebAt cw H x ss ns) (_:Adj ss ns tps) (_:PL H l us qs) (_:PGo ss tps qs) (_:∀(l:Addr) (ls:LI) (H':Hp),L2.Same H H'->H l=none->H' l=some (.lst (ls.map V.ref))->ls.length<=196->All2 (PrAt H H' l) ls (tpsOf (jR ss ns ss.length) qs)->Q (.ref l) H')
noncomputable def stp(rs:LS):LP:=rs.zip rs.tail
noncomputable def prB(qs:LP)(ab:Str×Str):Bool:=decide (pt qs ab.1=some ab.2)
theorem stp_at:(stp rs)[j]?=some ab↔rs[j]?=some ab.1/\rs[j+1]?=some ab.2:=by
 unfold stp;rw[List.getElem?_zip_eq_some,xD]
theorem zJ(rs:LS):(stp rs).length=rs.length-1:=by unfold stp;rw[List.length_zip,xw];lk
structure RowG(ss:LS)(tps qs:LP)(rs:LS):Prop where
 nd:rs.Nodup
 two:2<=rs.length
 few:rs.length<=1000
 inn:∀ r∈rs,r∈ss
 tie:∀(j:Nat) ab,(stp rs)[j]?=some ab->ab∈tps\/(ab.2,ab.1)∈tps
 alt:∀(j:Nat) ab cd,(stp rs)[j]?=some ab->(stp rs)[j+1]?=some cd->prB qs cd=!prB qs ab
 hd:∀ s t,rs[0]?=some s->rs[1]?=some t->pt qs s=none\/pt qs s=some t
 tl:∀ s t,rs[rs.length-1]?=some s->rs[rs.length-2]?=some t->pt qs s=none\/pt qs s=some t
structure Rw(cw:Addr)(H:Hp)(x l a:Addr)(ss:LS)(ns:LN)(us:LI)(tps qs:LP)(rs:LS):Prop where
 web:WebAt cw H x ss ns
 adj:Adj ss ns tps
 prs:PL H l us qs
 pgo:PGo ss tps qs
 row:H a=some (.lst (rs.map V.str))
 rok:RowG ss tps qs rs
theorem Rw.same{a:Addr}(h:Rw cw H x l a ss ns us tps qs rs)(s:L2.Same H H'):Rw cw H' x l a ss ns us tps qs rs:=
 ⟨h.web.same s,h.adj,h.prs.same s,h.pgo,s _ _ h.row,h.rok⟩
inductive spUl(cw:Addr)(vs:List V)(H:Hp)(Q:VK)(E:XK):Prop|mk (x a:Addr) (ss:LS) (ns:LN) (rs:LS) (_:vs=[.ref x,.ref a]) (_:WebAt cw H x ss ns) (_:H a=some (.lst (rs.map V.str))) (_:rs.Nodup) (_:rs.length<=1000) (_:(∀ r∈rs,r∈ss)) (_:∀ H',L2.Same H H'->Q (.bl true) H')
inductive spGt(cw:Addr)(vs:List V)(H:Hp)(Q:VK)(E:XK):Prop|mk (x l d a:Addr) (ss:LS) (ns:LN) (us:LI) (tps qs:LP) (rs:LS) (_:vs=[.ref x,.ref d,.ref a]) (_:Rw cw H x l a ss ns us tps qs rs) (_:H d=some (.dK (prK qs))) (_:∀ H',L2.Same H H'->Q (.bl true) H')
inductive spIr(cw:Addr)(vs:List V)(H:Hp)(Q:VK)(E:XK):Prop|mk (x l a:Addr) (ss:LS) (ns:LN) (us:LI) (tps qs:LP) (rs:LS) (_:vs=[.ref x,.ref l,.ref a]) (_:Rw cw H x l a ss ns us tps qs rs) (_:∀ H',L2.Same H H'->Q (.bl true) H')
theorem qdF{Q:VK}(q:Q (.bl (decide (pt qs s=some t))) H):qdB K (((pt qs s).map V.str).getD .non) (.str t) H Q:=by
 cases e:pt qs s with
 | none=>rw[e] at q;show .inl (.inl (.inl ⟨rfl,rfl,q⟩))
 | some u =>
  show qeE ?_;rw[e] at q
  rwa[show decide (u=t)=decide (some u=some t) from Yx.mpr ⟨congrArg some,ym⟩]
theorem ok_ul(F:Fun K "are_unlike_places" "are_unlike_places" qJ f fd)(T:Txt K mg cc cw)(M:MethOk P w K mg base CX0 3 cw "has_place" ["self","thing"] (spHas cw)):FnOk P w K mg base CX0 4 f fd ["web","thing"] (spUl cw):=by
 show F.ok kF fun _ _ _ _ H vs Q E D h=>?_
 .obtain⟨x,a,ss,ns,rs,rfl,A,l,n,hl,m,q⟩:=h;have G:=zC D;show⟨_,(qc (qM (jm (je (qr (qco (K:=K) rfl) rfl T.b_isinstance xF (qa (pv 1) (qa (zg (v:=.ty "list") rfl T.b_list Xo rfl) qd))))) (qf (qq jx)) qw)
 (qc (qm (i:=2) kF.nd rfl (yN rfl) jz)
 (qc (jc yQ rfl (qP (K:=K) rfl (pv 1)) (qo (i:=3) kF.nd rfl (yN rfl))
 (qc (qM (PW.pt (qbX (jm (je (qR M (hmR D) (pv 0) (qa (pv 3) qd)))) (qaK (qt (qbI (K:=K) rfl G) (pv 3) (pv 2) (by with_unfolding_all rfl))))) (qf (qq jx)) qw)
 (qf (qV jx (jg (pv 2) (pv 3) (ji G))))))
 (qf (qq jx))))),?_⟩
  apply qdA (.inl (.lst l)) rfl (qa9 K "list" (by simp) "list" (by simp)) ?_;apply yq ?_;ext;intro d B;have p:=qG (Sr H) (o:=.dK []) B;have t:upd H d (.dK []) d=some (.dK (ze [])):=qb;generalize upd H d (.dK [])=H1 at p t;obtain⟨N,R,ol,S,hb,_⟩:=id A;apply .inl ⟨⟨_,.of (p _ _ l)⟩,qQ (xs:=rs.map V.str) (fun i j J=>L2.Same H J/\∃ s,j=[some (.ref x),some (.ref a),some (.ref d),s]/\J d=some (.dK (ze (rs.take i)))) ⟨p,_,rfl,t⟩ (fun i j J _ c=>.of (c.1 _ _ l)) (fun i y j J I c=>?_) fun j J c=>?_⟩
  .obtain⟨g,s,rfl,b⟩:=c;rw[yd] at I;obtain⟨z,hz,rfl⟩:=yn.mp I;have L:i<rs.length:=(yc.mp hz).1;have e:rs.take (i+1)=rs.take i++[z]:=by rw[yK,hz];rfl
   have C:z∉rs.take i:=fun y=>by
    have u:(rs.take (i+1)).Nodup:=n.sublist (Xd _ _);rw[e] at u;show(Yt.mp u).2.2 _ y z (by simp) rfl
   apply⟨x,N,_,rfl,g _ _ hb,zE (by room),?_⟩;apply⟨x,ss,ns,z,rfl,A.same g,m z (ye hz),fun O r=>?_⟩;apply yq ?_;apply .inr (.inl ⟨d,_,rfl,DGet.k (k:=Sum.inr z) (r _ _ b),?_⟩);rw[yz (by decide),jt,yl C];apply yq ?_;apply .inr ⟨d,_,rfl,DPut.k (k:=Sum.inr z) (r _ _ b) (qi (by unfold ze;rw[ya,yI];lk)),?_⟩;show⟨qbU (g.trans r) B,_,rfl,?_⟩;rw[qb,zx C,e]
  .obtain⟨g,s,rfl,b⟩:=c;apply q J g
theorem Kz:FnScope ["web","pairs","thing","partners"] ["web","pairs","thing"] (qg qak):=fS
theorem kN:FnScope ["web","partners","names","steps","paired"] ["web","partners","names"] (qg qF):=fS
theorem kS:FnScope ["web","pairs","thing","partners","first","last"] ["web","pairs","thing"] (qg zy):=fS
theorem qal(rs:List V):qcM rs (some 1) none=rs.tail:=by
 have:=qbK rs 1
 rwa[List.drop_one] at this
theorem qeF:∀{bs:List Bool},(∀ b∈bs,b=true)->bs.all id=true:=fun h=>Yq.mpr h
theorem qdg{xs ys:LS}(Z:Zl H H' l ts (xs.map V.str) (ys.map V.str))(hl:qs.length=min xs.length ys.length)(h:∀(j:Nat) q,qs[j]?=some q->xs[j]?=some q.1/\ys[j]?=some q.2):All2 (fun t ab=>H' t=some (.tup [.str ab.1,.str ab.2])) ts qs:=by
 show⟨by rw[Z.len,ya,ya,hl],fun j t ab g c=>?_⟩;obtain⟨d,f⟩:=h j ab c;obtain⟨_,u,v,a,b,e⟩:=Z.tp j t g;rw[yd,d] at a;rw[yd,f] at b;cases a;cases b;show e
theorem qbh{xs:List α}{v:α}(a:1<=j)(h1:j<=xs.length)(h:xs[xs.length-j]?=some v):atI xs (-(j:Int))=some v:=by
 have e:ixN xs.length (-(j:Int))=some (xs.length-j):=by
  unfold ixN;rw[yz (by lk),yF (by lk)]
  congr 1
  lk
 unfold atI;rw[e];show h
theorem ok_gt(F:Fun K "goes_by_turns" "goes_by_turns" qF f fd)(T:Txt K mg cc cw)(kY:MethOk P w K mg base CX0 7 cw "has_tie" ["self","thing"] (spHt cw)):FnOk P w K mg base CX0 8 f fd ["web","partners","names"] (spGt cw):=by
 show F.ok kN fun _ _ _ _ H vs Q E hr h=>?_
 .obtain⟨x,l,d,a,ss,ns,us,tps,qs,rs,rfl,R,hd,q⟩:=h;have hu:=zC hr;obtain⟨wx,dd,ol,nn,hb,_⟩:=id R.web;have ha:=R.row;have M:=R.rok;have hl:=M.few;show⟨_,(qc (qm (i:=3) kN.nd rfl (yN rfl) (qb6 (K:=K) rfl rfl rfl rfl T.b_list T.b_zip (qa (pv 2) (qa (jy (qdz (K:=K) rfl) (pv 2) (jE qe) zl) qd))))
 (qc (qM (jm (je (qr (qeb (K:=K) rfl rfl) rfl T.b_all boot_all (qa (jV (sc:=qg qF) (XN:=["web","partners","names","steps","paired"]) ["step","web"] 1 [0] rfl rfl rfl (by room) rfl (by room)
  (qP (K:=K) rfl (pv 3)) (fun _ _ _ _=>(qo (i:=0) (show(["step","web"]:LS).Nodup by room) rfl (yN rfl))) jh
  (fun _ _ _ _=>jN)
  (fun _ _ _ _=>(qR kY (hmR hr) (pv 1) (qa (pv 0) qd)))) qd)))) (qf (qq jx)) qw)
 (qc (qaw (sc:=qg qF) (XN:=["web","partners","names","steps","paired"]) ["step","partners"] 1 [1] rfl rfl rfl (by room) rfl (by room) (i:=4) kN.nd rfl rfl
  (qP (K:=K) rfl (pv 3)) (fun _ _ _ _=>(qo (i:=0) (show(["step","partners"]:LS).Nodup by room) rfl (yN rfl))) jh
  (fun _ _ _ _=>jN)
  (fun _ _ _ _=>(qN (zB (K:=K) rfl hu) (jr (qds hu) (pv 1) (qu (qv (K:=K) rfl hu) (pv 0) qe (fun _ _=>rfl)) ⟨rfl,rfl,rfl,rfl⟩) (qu (qv (K:=K) rfl hu) (pv 0) qe (fun _ _=>rfl)) (qy _))))
 (qf (qq (qr (qeb (K:=K) rfl rfl) rfl T.b_all boot_all (qa (jV (sc:=qg qF) (XN:=["web","partners","names","steps","paired"]) ["one","other"] 2 [] rfl rfl rfl (by room) rfl (by room)
  (pi_zip (K:=K) rfl rfl T.b_zip (qa (pv 4) (qa (jy (qdz (K:=K) rfl) (pv 4) (jE qe) zl) qd))) (fun _ _ _ _=>(qbq (n:=2) rfl (jq (qo (i:=0) (show(["one","other"]:LS).Nodup by room) rfl (yN rfl)) (jq (qo (i:=1) (show(["one","other"]:LS).Nodup by room) rfl (yN rfl)) qao)))) gk_two
  (fun _ _ _ _=>jN)
  (fun _ _ _ _=>(qN (qaA (K:=K) rfl hu) (pv 0) (pv 1) (qy _)))) qd))))))),?_⟩
  apply vLZ ?_;apply .inl ⟨a,_,rfl,SqL.of ha,fun c hc=>?_⟩;rw[qal,<- X0];have s1:=qG (Sr H) (o:=.lst (rs.tail.map V.str)) hc;have X:upd H c (.lst (rs.tail.map V.str)) c=some (.lst (rs.tail.map V.str)):=qb;generalize upd H c (.lst (rs.tail.map V.str))=H1 at s1 X;apply⟨a,c,_,_,rfl,SqL.of (s1 _ _ ha),SqL.of X,by rw[ya];show hl,fun l ts H2 Z=>?_⟩;have L:=s1.trans Z.sm;have al:(stp rs).length<=1000:=by rw[zJ];lk
  have W:=qdg (qs:=stp rs) Z (by rw[zJ,xw];lk) fun j q e=>by
   obtain⟨z1,z2⟩:=stp_at.mp e;show⟨z1,by rw[xD];show z2⟩
  have tl:=W.len;have C:=Z.ls
  have ag:∀{i:Nat} {y:V},(ts.map V.ref)[i]?=some y->∃ t ab,y=.ref t/\(stp rs)[i]?=some ab/\H2 t=some (.tup [.str ab.1,.str ab.2]):=fun{i y} S=>by
   rw[yd] at S;obtain⟨t,ht,rfl⟩:=yn.mp S;obtain⟨ab,p⟩:∃ ab,(stp rs)[i]?=some ab:=⟨_,yb (by rw[<- tl];show(yc.mp ht).1)⟩;show⟨t,ab,rfl,p,W.at_ i t ab ht p⟩
  apply .inl ⟨⟨_,.of C⟩,qX (xs:=ts.map V.ref) (fun i ys G=>L2.Same H2 G/\ys=(((stp rs).take i).map fun _=>true).map V.bl) ⟨L2.Same.refl H2,rfl⟩ (fun i ys G _ m=>.of (m.1 _ _ C)) (fun i y ys G S m=>?_) fun ys G m=>?_⟩
  .obtain⟨U,rfl⟩:=m;obtain⟨t,ab,rfl,p,O⟩:=ag S;obtain⟨e1,N⟩:=stp_at.mp p;apply qbT ?_;apply⟨x,wx,_,rfl,(L.trans U) _ _ hb,zE (by room),?_⟩;apply⟨x,t,ss,ns,tps,ab,rfl,R.web.same (L.trans U),R.adj,U _ _ O,M.tie i ab p,M.inn _ (ye e1),M.inn _ (ye N),fun z=>?_,fun G2 an=>?_⟩
   .rw [<- z] at N;show absurd (qD M.nd e1 N) (by lk)
   .show⟨by rw[ya,ya,yI];show qi (by lk),U.trans an,?_⟩;rw[yK,p,yL,yL];rfl
  .obtain⟨U,rfl⟩:=m;rw[show(ts.map V.ref).length=(stp rs).length by rw[ya,tl],yO];show⟨by rw[ya,ya];show yR (qi (by lk)),fun g hg=>?_⟩;have s3:=qG U (o:=.lst (((stp rs).map fun _=>true).map V.bl)) hg;have eg:upd G g (.lst (((stp rs).map fun _=>true).map V.bl)) g=some (.lst (((stp rs).map fun _=>true).map V.bl)):=qb;generalize upd G g (.lst (((stp rs).map fun _=>true).map V.bl))=G3 at s3 eg;apply⟨g,_,rfl,SqL.of eg,_,rfl,?_⟩;rw[qeF (fun b hb=>by obtain⟨_,_,rfl⟩:=YE.mp hb;rfl)];have ae:=L.trans s3;show yq ?_;have r:=s3 _ _ C;have aa:=ae _ _ hd;apply .inl ⟨⟨_,.of r⟩,qX (xs:=ts.map V.ref) (fun i ys G=>G=G3/\ys=(((stp rs).take i).map (prB qs)).map V.bl) ⟨rfl,rfl⟩ (fun i ys G _ m=>by rw[m.1];show .of r) (fun i y ys G S m=>?_) fun ys G m=>?_⟩
   .obtain⟨rfl,rfl⟩:=m;obtain⟨t,ab,rfl,p,O⟩:=ag S;have O:=s3 _ _ O;apply qbT ?_;apply zH ?_;apply⟨d,rfl,.inl ⟨_,.inl aa⟩,?_⟩;apply .inl (qaX O (v:=.str ab.1) (qp (j:=0) rfl) ?_);show⟨_,DGet.k (k:=Sum.inr ab.1) aa,?_⟩;rw[qU];apply .inl (qaX O (v:=.str ab.2) (qp (j:=1) rfl) ?_);show qdF ?_;show⟨by rw[ya,ya,yI];show qi (by lk),rfl,?_⟩;rw[yK,p,yL,yL];rfl
   .obtain⟨rfl,rfl⟩:=m;rw[show(ts.map V.ref).length=(stp rs).length by rw[ya,tl],yO];show⟨by rw[ya,ya];show yR (qi (by lk)),fun b ai=>?_⟩;obtain⟨bs,B⟩:∃ bs,bs=(stp rs).map (prB qs):=⟨_,rfl⟩;rw[<- B];have ao:bs.length<=1000:=by rw[B,ya];show al
    have aj:∀(i:Nat) u v,bs[i]?=some u->bs[i+1]?=some v->v=!u:=fun i u v e N=>by
     rw[B,yd] at e N;obtain⟨ab,p,rfl⟩:=yn.mp e;obtain⟨cd,ak,rfl⟩:=yn.mp N;show M.alt i ab cd p ak
    have s4:=qG ae (o:=.lst (bs.map V.bl)) ai;have eb:upd G b (.lst (bs.map V.bl)) b=some (.lst (bs.map V.bl)):=qb;generalize upd G b (.lst (bs.map V.bl))=G4 at s4 eb;apply vZip ?_;apply .inl ⟨b,_,rfl,SqL.of eb,fun c2 Y=>?_⟩;rw[qal,<- X0];have s5:=qG s4 (o:=.lst (bs.tail.map V.bl)) Y;have s:=qG (Sr G4) (o:=.lst (bs.tail.map V.bl)) Y _ _ eb;have A:upd G4 c2 (.lst (bs.tail.map V.bl)) c2=some (.lst (bs.tail.map V.bl)):=qb;generalize upd G4 c2 (.lst (bs.tail.map V.bl))=G5 at s5 s A;apply⟨b,c2,_,_,rfl,SqL.of s,SqL.of A,comp_zip (xs:=bs.map V.bl) (ys:=bs.tail.map V.bl) (by simp) (fun i zs J=>L2.Same G5 J/\zs=(List.replicate i true).map V.bl) ⟨L2.Same.refl G5,rfl⟩ (fun i zs J _ m=>⟨SqL.of (m.1 _ _ s),SqL.of (m.1 _ _ A)⟩) (fun i u v t zs J D I ht m=>?_) fun zs J m=>?_⟩
    .obtain⟨sJ,rfl⟩:=m;rw[yd] at D I;obtain⟨u,ac,rfl⟩:=yn.mp D;obtain⟨v,ad,rfl⟩:=yn.mp I;clear D I;have ap:=(yc.mp ac).1;rw[xD] at ad;have af:=qG sJ (o:=.tup [.bl u,.bl v]) ht;show⟨t,_,rfl,.of qb,rfl,_,_,rfl,_,_,rfl,rfl,?_⟩;generalize upd J t (.tup [.bl u,.bl v])=J3 at af;apply qbT ?_;apply .inl ⟨rfl,rfl,?_⟩;show⟨by rw[ya,YC];show qi (by lk),af,?_⟩;have am:v=!u:=aj _ _ _ ac ad;rw[List.replicate_succ',yL,am];cases u<;>rfl
    .obtain⟨sJ,rfl⟩:=m;rw[show(bs.tail.map V.bl).length=bs.length-1 by rw[ya,xw]];show⟨by rw[ya,YC];show yR (qi (by lk)),fun e he=>?_⟩;have s6:=qG (s5.trans sJ) (o:=.lst ((List.replicate (bs.length-1) true).map V.bl)) he;have ee:upd J e (.lst ((List.replicate (bs.length-1) true).map V.bl)) e=some (.lst ((List.replicate (bs.length-1) true).map V.bl)):=qb;generalize upd J e (.lst ((List.replicate (bs.length-1) true).map V.bl))=J6 at s6 ee;apply⟨e,_,rfl,SqL.of ee,?_⟩;rw[qeF (fun b hb=>(List.mem_replicate.mp hb).2)];show q J6 s6
theorem ok_ir(F:Fun K "is_row" "is_row" qak f fd)(T:Txt K mg cc cw)(r:DefOk P w K mg base CX0 9 "partners_in" ["web","pairs"] (spPn cw))(m:DefOk P w K mg base CX0 4 "are_unlike_places" ["web","thing"] (spUl cw))(n:DefOk P w K mg base CX0 8 "goes_by_turns" ["web","partners","names"] (spGt cw)):FnOk P w K mg base CX0 10 f fd ["web","pairs","thing"] (spIr cw):=by
 show F.ok Kz fun _ _ _ _ H vs Q E c h=>?_
 .obtain⟨x,l,a,ss,ns,us,tps,qs,rs,rfl,R,q⟩:=h;have u:=zC c;have G:=R.rok;have t:=G.two;show⟨_,(qc (qm (i:=3) Kz.nd rfl (yN rfl) (qk r (hmR c) qx (qa (pv 0) (qa (pv 1) qd))))
 (qc (qM (PW.pt (qbX (jm (je (qk m (hmR c) qx (qa (pv 0) (qa (pv 2) qd))))) (qaK (qt qcQ (qr (jW (K:=K) rfl) rfl T.b_len YF (qa (pv 2) qd)) qe (qy _))))) (qf (qq jx)) qw)
 (qf (qq (qk n (hmR c) qx (qa (pv 0) (qa (pv 3) (qa (pv 2) qd)))))))),?_⟩
  apply⟨x,l,ss,ns,us,tps,qs,rfl,R.web,R.adj,R.prs,R.pgo,fun d H1 e p o=>?_⟩;apply⟨x,a,ss,ns,rs,rfl,R.web.same e,e _ _ R.row,G.nd,G.few,G.inn,fun H2 g=>?_⟩;have b:=e.trans g;apply yq ?_;apply .inl ⟨_,.inl (SqL.of (b _ _ R.row)),?_⟩;rw[ya];apply qT (fun h=>absurd (yk h) (by lk)) fun _=>?_;apply⟨x,l,d,a,ss,ns,us,tps,qs,rs,rfl,R.same b,g _ _ o,fun j s=>q j (b.trans s)⟩
theorem qdU{t:Addr}{n:Str}{o:Option Str}{Q:VK}(h:o=none\/o=some n)(e:H t=some (.tup [.non,.str n]))(q:Q (.bl true) H):qeg K false ((o.map V.str).getD .non) (.ref t) H Q:=by
 rcases h with rfl | rfl
 .show .inl ⟨t,_,rfl,.inr (SqT.of e),rfl,rfl,q⟩
 .show .inl ⟨t,_,rfl,.inr (SqT.of e),rfl,rfl,?_⟩
  have z:inV (.str n) [.non,.str n]=true:=by
   unfold inV;simp[qbg]
  rw[yz (by decide),show inV (((some n).map V.str).getD .non) [.non,.str n]=true from z];show q
theorem ok_ct(F:Fun K "can_turn" "can_turn" zy f fd)(T:Txt K mg cc cw)(U:DefOk P w K mg base CX0 9 "partners_in" ["web","pairs"] (spPn cw))(N:DefOk P w K mg base CX0 10 "is_row" ["web","pairs","thing"] (spIr cw)):FnOk P w K mg base CX0 11 f fd ["web","pairs","thing"] (spIr cw):=by
 show F.ok kS fun _ _ _ _ H vs Q E y h=>?_
 .obtain⟨x,l,a,ss,ns,us,tps,qs,rs,rfl,R,q⟩:=h;have c:=zC y;have G:=R.rok;have h2:=G.two;show⟨_,(qc (qM (jm (je (qk N (hmR y) qx (qa (pv 0) (qa (pv 1) (qa (pv 2) qd)))))) (qf (qq jx)) qw)
 (qc (qm (i:=3) kS.nd rfl (yN rfl) (qk U (hmR y) qx (qa (pv 0) (qa (pv 1) qd))))
 (qc (qm (i:=4) kS.nd rfl (yN rfl) (jr (qds c) (pv 3) (qu (qv (K:=K) rfl c) (pv 2) qe (fun _ _=>rfl)) ⟨rfl,rfl,rfl,rfl⟩))
 (qc (qm (i:=5) kS.nd rfl (yN rfl) (jr (qds c) (pv 3) (qu (qv (K:=K) rfl c) (pv 2) (qcG qaP qe) (fun _ _=>rfl)) ⟨rfl,rfl,rfl,rfl⟩))
 (qf (qq (qaN (qN (qbI (K:=K) rfl c) (pv 4) (jw (qa qdH (qa (qu (qv (K:=K) rfl c) (pv 2) qe (fun _ _=>rfl)) qd))) (by with_unfolding_all rfl)) (qaM (qN (qbI (K:=K) rfl c) (pv 5) (jw (qa qdH (qa (qu (qv (K:=K) rfl c) (pv 2) (qcG qaP qe) (fun _ _=>rfl)) qd))) (by with_unfolding_all rfl)))))))))),?_⟩
  apply⟨x,l,a,ss,ns,us,tps,qs,rs,rfl,R,fun H1 B=>?_⟩;show⟨_,rfl,qT (fun h=>by cases h) fun _=>?_⟩;apply⟨x,l,ss,ns,us,tps,qs,rfl,R.web.same B,R.adj,R.prs.same B,R.pgo,fun d H2 Y O r=>?_⟩;obtain⟨u,D⟩:∃ u,rs[0]?=some u:=⟨_,yb (by lk)⟩;obtain⟨m,I⟩:∃ m,rs[1]?=some m:=⟨_,yb (by lk)⟩;obtain⟨s,L⟩:∃ s,rs[rs.length-1]?=some s:=⟨_,yb (by lk)⟩;obtain⟨A,M⟩:∃ A,rs[rs.length-2]?=some A:=⟨_,yb (by lk)⟩;have p:=B.trans Y;have J:=R.row;have g:=p _ _ J;have at_:∀{j:Nat} {n:Str},rs[j]?=some n->(rs.map V.str)[j]?=some (.str n):=fun e=>by rw[yd,e];rfl
  have b:∀{j:Nat} {n:Str},1<=j->j<=rs.length->rs[rs.length-j]?=some n->atI (rs.map V.str) (-(j:Int))=some (.str n):=fun W X e=>qbh W (by rw[ya];show X) (by rw[ya];show at_ e);apply zH ?_;apply⟨d,rfl,.inl ⟨_,.inl r⟩,?_⟩;apply .inl (za g (v:=.str u) (qp (j:=0) (at_ D)) ?_);show⟨_,DGet.k (k:=Sum.inr u) r,?_⟩;rw[qU];apply zH ?_;apply⟨d,rfl,.inl ⟨_,.inl r⟩,?_⟩;apply⟨1,rfl,?_⟩;show .inl (za g (v:=.str s) (b (j:=1) (by decide) (by lk) L) ?_);show⟨_,DGet.k (k:=Sum.inr s) r,?_⟩;rw[qU];apply .inl (za g (v:=.str m) (qp (j:=1) (at_ I)) ?_);apply⟨by show 2<=sizeLine;decide,fun t S=>qdU (G.hd _ _ D I) qb ?_⟩;have C:=qG p (o:=.tup [.non,.str m]) S;generalize upd H2 t (.tup [.non,.str m])=Z at C;show⟨_,rfl,qbT ?_⟩;apply⟨2,rfl,?_⟩;show .inl (za (C _ _ J) (v:=.str A) (b (j:=2) (by decide) (by lk) M) ?_);apply⟨by show 2<=sizeLine;decide,fun t2 z=>qdU (G.tl _ _ L M) qb (q _ (qG C z))⟩
theorem Ko:FnScope ["web","pairs","row","partners","steps"] ["web","pairs","row"] (qg zT):=fS
noncomputable def qdh(rs:LS):LP:=stp rs++(stp rs).map fun q=>(q.2,q.1)
noncomputable def flT(a qs:LP)(rs:LS):LP:=a.filter fun q=>decide (pt qs q.1=some q.2) != decide (q∈qdh rs)
inductive spTu(cw:Addr)(vs:List V)(H:Hp)(Q:VK)(E:XK):Prop|mk (x l a:Addr) (ss:LS) (ns:LN) (us:LI) (tps qs:LP) (rs:LS) (_:vs=[.ref x,.ref l,.ref a]) (_:Rw cw H x l a ss ns us tps qs rs) (_:∀(l:Addr) (ls:LI) (H':Hp),L2.Same H H'->H l=none->H' l=some (.lst (ls.map V.ref))->ls.length<=196->All2 (PrAt H H' l) ls (flT (jR ss ns ss.length) qs rs)->Q (.ref l) H')
theorem All2.app9{R:α->β->Prop}{e g:List α}{h i:List β}(a:All2 R e h)(b:All2 R g i):All2 R (e++g) (h++i):=by
 show⟨by rw[yx,yx,a.len,b.len],fun k x y c d=>?_⟩;by_cases f:k<e.length
 .rw [yP f] at c;rw[yP (by rw[<- a.len];show f)] at d;show a.at_ k x y c d
 .rw [Yb (by lk)] at c;rw[Yb (by rw[<- a.len];lk),<- a.len] at d;show b.at_ _ x y c d
theorem cat_W{a b:Addr}{Q:VK}(c:G a=some (.lst xs))(d:G b=some (.lst ys))(hl:xs.length+ys.length<=2000)(q:∀ p,G p=none->Q (.ref p) (upd G p (.lst (xs++ys)))):qc1 K (.ref a) (.ref b) G Q:=.inl ⟨a,b,_,_,rfl,rfl,c,d,yi hl (by decide),q⟩
theorem ok_tu(F:Fun K "turned" "turned" zT f fd)(T:Txt K mg cc cw)(kz:DefOk P w K mg base CX0 9 "partners_in" ["web","pairs"] (spPn cw))(KQ:MethOk P w K mg base CX0 7 cw "ties" ["self"] (spTs cw))(Kb:DefOk P w K mg base CX0 11 "can_turn" ["web","pairs","thing"] (spIr cw)):FnOk P w K mg base CX0 12 f fd ["web","pairs","row"] (spTu cw):=by
 show F.ok Ko fun _ _ _ _ H vs Q E hr h=>?_
 .obtain⟨x,pl,a,ss,ns,ps,tps,qs,rs,rfl,R,q⟩:=h;have u:=zC hr;obtain⟨wx,dd,ol,nn,hb,_⟩:=id R.web;have ha:=R.row;have ai:=R.rok.few;have h2:=R.rok.two;show⟨_,(qc (qM (jm (je (qk Kb (hmR hr) qx (qa (pv 0) (qa (pv 1) (qa (pv 2) qd)))))) (qf jf) qw)
 (qc (qm (i:=3) Ko.nd rfl (Xf rfl) (qk kz (hmR hr) qx (qa (pv 0) (qa (pv 1) qd))))
 (qc (qm (i:=4) Ko.nd rfl (Xf rfl) (qB (jH (K:=K) rfl) (qb6 (K:=K) rfl rfl rfl rfl T.b_list T.b_zip (qa (pv 2) (qa (jy (qdz (K:=K) rfl) (pv 2) (jE qe) zl) qd))) (qb6 (K:=K) rfl rfl rfl rfl T.b_list T.b_zip (qa (jy (qdz (K:=K) rfl) (pv 2) (jE qe) zl) (qa (pv 2) qd)))))
 (qf (qq (jV (sc:=qg zT) (XN:=["web","pairs","row","partners","steps"]) ["tie","steps","partners"] 1 [4,3] rfl rfl rfl (by room) rfl (by room)
  (qP (K:=K) rfl (qay KQ (hmR hr) (pv 0))) (fun _ _ _ _=>(qo (i:=0) (show(["tie","steps","partners"]:LS).Nodup by room) rfl (yN rfl))) jh
  (fun _ _ _ _=>(j4 (qt (qaA (K:=K) rfl u) (qN (zB (K:=K) rfl u) (jr (qds u) (pv 2) (qu (qv (K:=K) rfl u) (pv 0) qe (fun _ _=>rfl)) ⟨rfl,rfl,rfl,rfl⟩) (qu (qv (K:=K) rfl u) (pv 0) qe (fun _ _=>rfl)) (qy _)) (qN (qbI (K:=K) rfl u) (pv 0) (pv 1) (by with_unfolding_all rfl)) (qy _))))
  (fun _ _ _ _=>(pv 0)))))))),?_⟩
  apply⟨x,pl,a,ss,ns,ps,tps,qs,rs,rfl,R,fun H1 s1=>?_⟩;show⟨_,rfl,qT (fun h=>by cases h) fun _=>?_⟩;apply⟨x,pl,ss,ns,ps,tps,qs,rfl,R.web.same s1,R.adj,R.prs.same s1,R.pgo,fun d H2 s2 aj hd=>?_⟩;have N:=s1.trans s2;have n:=N _ _ ha;apply vLZ ?_;apply .inl ⟨a,_,rfl,SqL.of n,fun Z ac=>?_⟩;rw[qal,<- X0];have t1:=qG (Sr H2) (o:=.lst (rs.tail.map V.str)) ac;have A:upd H2 Z (.lst (rs.tail.map V.str)) Z=some (.lst (rs.tail.map V.str)):=qb;generalize upd H2 Z (.lst (rs.tail.map V.str))=G1 at t1 A;apply⟨a,Z,_,_,rfl,SqL.of (t1 _ _ n),SqL.of A,by rw[ya];show ai,fun l1 b G2 Z1=>?_⟩;have t2:=t1.trans Z1.sm;apply vLZ ?_;apply .inl ⟨a,_,rfl,SqL.of (t2 _ _ n),fun c2 ad=>?_⟩;rw[qal,<- X0];have t3:=qG (Sr G2) (o:=.lst (rs.tail.map V.str)) ad;have B:upd G2 c2 (.lst (rs.tail.map V.str)) c2=some (.lst (rs.tail.map V.str)):=qb;generalize upd G2 c2 (.lst (rs.tail.map V.str))=G3 at t3 B;have S:=t2.trans t3;apply⟨c2,a,_,_,rfl,SqL.of B,SqL.of (S _ _ n),by rw[ya,xw];lk,fun l2 c G4 Y=>?_⟩;have t4:=S.trans Y.sm;have U:=t3.trans Y.sm
  have A1:=qdg (qs:=stp rs) Z1 (by rw[zJ,xw];lk) fun j q e=>by
   obtain⟨X,z2⟩:=stp_at.mp e;show⟨X,by rw[xD];show z2⟩
  have A2:=qdg (qs:=(stp rs).map fun q=>(q.2,q.1)) Y (by rw[ya,zJ,xw];lk) fun j q e=>by
   rw[yd] at e;obtain⟨q',e',rfl⟩:=yn.mp e;obtain⟨X,z2⟩:=stp_at.mp e';show⟨by rw[xD];show z2,X⟩
  have al:b.length<=1000:=by rw[A1.len,zJ];lk
  have am:c.length<=1000:=by rw[A2.len,ya,zJ];lk
  show cat_W (U _ _ Z1.ls) Y.ls (by rw[ya,ya,A1.len,A2.len,ya,zJ];lk) fun st ag=>?_;have t5:=qG (Sr G4) (o:=.lst (b.map V.ref++c.map V.ref)) ag;have C:upd G4 st (.lst (b.map V.ref++c.map V.ref)) st=some (.lst (b.map V.ref++c.map V.ref)):=qb;generalize upd G4 st (.lst (b.map V.ref++c.map V.ref))=G5 at t5 C;have W:=t4.trans t5;have aa:PL G5 st (b++c) (qdh rs):=⟨by rw[yL];show C,All2.app9 (A1.mono fun _ _ z=>(U.trans t5) _ _ z) (A2.mono fun _ _ z=>t5 _ _ z)⟩;have p:=N.trans W;have ae:=W _ _ hd;apply⟨x,wx,_,rfl,p _ _ hb,zE (by room),?_⟩;apply⟨x,ss,ns,rfl,R.web.same p,fun l ts G6 s6 ak hl af r=>?_⟩;have O:=p.trans s6;have L:=s6 _ _ ae;have D:=aa.same s6;show .inl ⟨⟨_,.of hl⟩,qX (xs:=ts.map V.ref) (fun i ys G=>G=G6/\∃ us:LI,ys=us.map V.ref/\us.length<=i/\All2 (fun t ab=>G5 t=none/\G6 t=some (.tup [.str ab.1,.str ab.2])) us (flT ((jR ss ns ss.length).take i) qs rs)) ⟨rfl,[],rfl,yh _,.nil⟩ (fun i ys G _ m=>by rw[m.1];show .of hl) (fun i y ys G hy m=>?_) fun ys G m=>?_⟩
  .obtain⟨rfl,us,rfl,M,I⟩:=m;rw[yd] at hy;obtain⟨t,ht,rfl⟩:=yn.mp hy;have hi:i<ts.length:=(yc.mp ht).1;obtain⟨ab,J⟩:∃ ab,(jR ss ns ss.length)[i]?=some ab:=⟨_,yb (by rw[<- r.len];show hi)⟩;obtain⟨X,z2,z3⟩:=r.at_ i t ab ht J
   have s:flT ((jR ss ns ss.length).take (i+1)) qs rs=flT ((jR ss ns ss.length).take i) qs rs++(if (decide (pt qs ab.1=some ab.2) != decide (ab∈qdh rs))=true then [ab] else []):=by
    unfold flT;rw[yK,J,y0];show _++[ab].filter _=_;rw[yU,xi]
   apply zH ?_;apply⟨d,rfl,.inl ⟨_,.inl L⟩,?_⟩;apply .inl (qaX z3 (v:=.str ab.1) (qp (j:=0) rfl) ?_);show⟨_,DGet.k (k:=Sum.inr ab.1) L,?_⟩;rw[qU];apply .inl (qaX z3 (v:=.str ab.2) (qp (j:=1) rfl) ?_);show qdF ?_;apply qeD D z3 ?_;show .inl ⟨rfl,rfl,?_⟩;have eb:eqV (.bl (decide (pt qs ab.1=some ab.2))) (.bl (decide ((ab.1,ab.2)∈qdh rs)))=(decide (pt qs ab.1=some ab.2)==decide (ab∈qdh rs)):=rfl;rw[yF rfl,eb,s];show⟨_,rfl,?_⟩;show if (decide (pt qs ab.1=some ab.2) != decide (ab∈qdh rs))=true then _ else _
   cases an:(decide (pt qs ab.1=some ab.2) != decide (ab∈qdh rs)) with
   | true =>
    show qbT ?_;rw[yF rfl];apply⟨by rw[ya];show qi (by lk),rfl,us++[t],by rw[yL];rfl,by rw[yx];simp;lk,I.snoc ⟨X,z3⟩⟩
   | false =>
    show yq ?_;rw[yz (by decide),Yg];show⟨rfl,us,rfl,by lk,I⟩
  .obtain⟨rfl,us,rfl,M,I⟩:=m;have e:(ts.map V.ref).length=(jR ss ns ss.length).length:=by rw[ya,r.len]
   rw[e,yO] at I;rw[ya] at M;show⟨by rw[ya];show yR (qi (by lk)),fun g hg=>?_⟩;have s7:=qG O (o:=.lst (us.map V.ref)) hg;show q g us _ s7 (O.free hg) qb (by lk) (I.mono fun t ab z=>⟨p.free z.1,(fun e=>by rw[e,hg] at z;cases z.2),by rw[qh (fun e=>by rw[e,hg] at z;cases z.2)];show z.2⟩)
def adjR(rs:LS)(a b:Str):Prop:=∃ j:Nat,(rs[j]?=some a/\rs[j+1]?=some b)\/(rs[j]?=some b/\rs[j+1]?=some a)
theorem adjR.symm(h:adjR rs a b):adjR rs b a:=h.elim fun j z=>⟨j,z.symm⟩
theorem adjR.mem(h:adjR rs a b):a∈rs/\b∈rs:=h.elim fun j z=>z.elim (fun y=>⟨ye y.1,ye y.2⟩) fun y=>⟨ye y.2,ye y.1⟩
structure TurnR(f:Str->Option Str)(rs:LS):Prop where
 nd:rs.Nodup
 two:2<=rs.length
 sym:∀ a b,f a=some b->f b=some a
 alt:∀(j:Nat) r s t,rs[j]?=some r->rs[j+1]?=some s->rs[j+2]?=some t->(f s=some r↔¬ f s=some t)
 fst:∀ s t,rs[0]?=some s->rs[1]?=some t->f s=none\/f s=some t
 lst:∀ s t,rs[rs.length-1]?=some s->rs[rs.length-2]?=some t->f s=none\/f s=some t
theorem TurnR.near{f:Str->Option Str}(h:TurnR f rs)(n:a∈rs)(c:f a=some b):adjR rs a b:=by
 obtain⟨i,d⟩:=yf n;have o:i<rs.length:=(yc.mp d).1;have p:=h.two;by_cases m:i=0
 .subst m;obtain⟨t,e⟩:∃ t,rs[1]?=some t:=⟨_,yb (by lk)⟩;rcases h.fst a t d e with z | z
  .rw [z] at c;cases c
  .rw [c] at z;cases z;show⟨0,.inl ⟨d,e⟩⟩
 .by_cases hl:i=rs.length-1
  .obtain⟨t,e⟩:∃ t,rs[rs.length-2]?=some t:=⟨_,yb (by lk)⟩;rcases h.lst a t (by rw[<- hl];show d) e with z | z
   .rw [z] at c;cases c
   .rw [c] at z;cases z;show⟨rs.length-2,.inr ⟨e,by rw[show rs.length-2+1=i by lk];show d⟩⟩
  .obtain⟨r,l⟩:∃ r,rs[i-1]?=some r:=⟨_,yb (by lk)⟩;obtain⟨t,e⟩:∃ t,rs[i+1]?=some t:=⟨_,yb (by lk)⟩;have g:i-1+1=i:=by lk
   have j:i-1+2=i+1:=by lk
   have:=h.alt (i-1) r a t l (by rw[g];show d) (by rw[j];show e);by_cases z:f a=some t
   .rw [c] at z;cases z;show⟨i,.inl ⟨d,e⟩⟩
   .have z:=this.mpr z;rw[c] at z;cases z;show⟨i-1,.inr ⟨l,by rw[g];show d⟩⟩
def flipR(f:Str->Option Str)(rs:LS)(a b:Str):Prop:=(a∉rs/\f a=some b)\/(adjR rs a b/\f a≠some b)
theorem TurnR.xor{f:Str->Option Str}(h:TurnR f rs):flipR f rs a b↔¬ (f a=some b↔adjR rs a b):=by
 unfold flipR;constructor
 .rintro (⟨h1,c⟩ | ⟨h1,c⟩) e
  .show h1 (e.mp c).mem.1
  .show c (e.mpr h1)
 .intro e;by_cases h1:f a=some b
  .show .inl ⟨fun d=>e ⟨fun _=>h.near d h1,fun _=>h1⟩,h1⟩
  .by_cases c:adjR rs a b
   .show .inr ⟨c,h1⟩
   .show absurd ⟨fun z=>absurd z h1,fun z=>absurd z c⟩ e
theorem flipR.symm{f:Str->Option Str}(h:TurnR f rs)(e:flipR f rs a b):flipR f rs b a:=by
 rcases e with⟨h1,c⟩ | ⟨h1,c⟩
 .show .inl ⟨fun d=>?_,h.sym _ _ c⟩;show h1 (h.near d (h.sym _ _ c)).mem.2
 .show .inr ⟨h1.symm,fun z=>c (h.sym _ _ z)⟩
theorem adjR.at_(e:rs.Nodup)(d:rs[i]?=some a)(h:adjR rs a b):rs[i+1]?=some b\/(1<=i/\rs[i-1]?=some b):=by
 obtain⟨j,⟨h1,c⟩ | ⟨h1,c⟩⟩:=h
 .have:=qD e d h1;subst this;show .inl c
 .have:=qD e d c;subst this;show .inr ⟨by lk,by simpa using h1⟩
theorem flipR.one{f:Str->Option Str}(h:TurnR f rs)(p:flipR f rs a b)(o:flipR f rs a c):b=c:=by
 rcases p with⟨h1,j⟩ | ⟨h1,j⟩
 .rcases o with⟨e,d⟩ | ⟨e,d⟩
  .rw [j] at d;show ym d
  .show absurd e.mem.1 h1
 .rcases o with⟨e,d⟩ | ⟨e,d⟩
  .show absurd h1.mem.1 e
  .obtain⟨i,l⟩:=yf h1.mem.1
   have g:∀{b c:Str},rs[i+1]?=some b->1<=i->rs[i-1]?=some c->f a≠some b->f a≠some c->False:=fun hb q hc r s=>by
    have m:i-1+1=i:=by lk
    have n:i-1+2=i+1:=by lk
    show s ((h.alt (i-1) _ a _ hc (by rw[m];show l) (by rw[n];show hb)).mpr r)
   rcases h1.at_ h.nd l with z1 | ⟨l1,z1⟩<;>rcases e.at_ h.nd l with z2 | ⟨l2,z2⟩
   .rw [z1] at z2;show ym z2
   .show(g z1 l2 z2 j d).elim
   .show(g z2 l1 z1 d j).elim
   .rw [z1] at z2;show ym z2
theorem TurnR.again{f:Str->Option Str}(h:TurnR f rs)(l:∀ a b,g a=some b↔flipR f rs a b):TurnR g rs:=by
 have n:∀{a b:Str},adjR rs a b->(g a=some b↔¬ f a=some b):=fun i=>by
  rw[l,h.xor];constructor
  .show fun e z=>e ⟨fun _=>i,fun _=>z⟩
  .show fun e z=>e (z.mpr i)
 have only:∀{a b:Str},a∈rs->g a=some b->adjR rs a b:=fun q e=>by
  rcases(l _ _).mp e with⟨h1,_⟩ | ⟨h1,_⟩
  .show absurd q h1
  .show h1
 show⟨h.nd,h.two,fun a b e=>(l _ _).mpr (((l _ _).mp e).symm h),fun j r s t m c d=>?_,fun s t c d=>?_,fun s t c d=>?_⟩
 .have o:adjR rs s r:=⟨j,.inr ⟨m,c⟩⟩;have p:adjR rs s t:=⟨j+1,.inl ⟨c,d⟩⟩;rw[n o,n p,h.alt j r s t m c d]
 .cases e:g s with
  | none=>show .inl rfl
  | some b =>
   have:=(only (ye c) e).at_ h.nd c;rcases this with z | ⟨z,_⟩
   .rw [d] at z;show .inr (by rw[<- e,e];show z.symm ▸ rfl)
   .omega
 .cases e:g s with
  | none=>show .inl rfl
  | some b =>
   have u:=h.two;have:=(only (ye c) e).at_ h.nd c;rcases this with z | ⟨_,z⟩
   .have:=(yc.mp z).1;lk
   .rw [show rs.length-1-1=rs.length-2 by lk,d] at z;show .inr (by rw[<- z])
theorem stpB_adj:(a,b)∈qdh rs↔adjR rs a b:=by
 unfold qdh adjR;rw[yB,YE];constructor
 .rintro (h | ⟨q,h,e⟩)
  .obtain⟨j,d⟩:=yf h;show⟨j,.inl (stp_at.mp d)⟩
  .obtain⟨j,d⟩:=yf h;cases e;show⟨j,.inr (stp_at.mp d)⟩
 .rintro ⟨j,⟨h1,c⟩ | ⟨h1,c⟩⟩
  .show .inl (ye (stp_at.mpr ⟨h1,c⟩))
  .show .inr ⟨(b,a),ye (stp_at.mpr ⟨h1,c⟩),rfl⟩
theorem flT_flip{d:LP}(h:TurnR (pt qs) rs):(a,b)∈flT d qs rs↔(a,b)∈d/\flipR (pt qs) rs a b:=by
 unfold flT;rw[yp,h.xor];show and_congr_right fun _=>?_;show(decide (pt qs a=some b) != decide ((a,b)∈qdh rs))=true↔_;by_cases h1:pt qs a=some b<;>by_cases c:(a,b)∈qdh rs
 .rw [yH h1,yH c];show⟨(fun z=>by cases z),fun z=>absurd ⟨fun _=>stpB_adj.mp c,fun _=>h1⟩ z⟩
 .rw [yH h1,yl c];show⟨fun _ z=>c (stpB_adj.mpr (z.mp h1)),fun _=>rfl⟩
 .rw [yl h1,yH c];show⟨fun _ z=>h1 (z.mpr (stpB_adj.mp c)),fun _=>rfl⟩
 .rw [yl h1,yl c];show⟨(fun z=>by cases z),fun z=>absurd ⟨fun y=>absurd y h1,fun y=>absurd (stpB_adj.mpr y) c⟩ z⟩
theorem K2:FnScope ["_law_script","_law_k"] ["_law_script","_law_k"] (qg qcA):=fS
theorem KY:FnScope ["_law_cell"] ["_law_cell"] (qg qbi):=fS
theorem kW:FnScope ["_law_box_here","_law_many","_law_digit","_law_number","_law_rest"] ["_law_box_here","_law_many"] (qg qam):=fS
inductive spCe(K:W.Frag)(vs:List V)(H:Hp)(Q:VK)(E:XK):Prop|mk (a:Addr) (ns:LQ) (k:Nat) (_:vs=[.ref a,.int (k:Int)]) (_:SqL K H a (ns.map V.int)) (_:k<1000) (_:∀ i:Int,Q (.int i) H)
def Pn(N:Nat)(H:Hp)(p:Addr):Prop:=∃ a b c:Int,H p=some (.lst [.int a,.int b,.int c])/\0<=a/\0<=b/\b<2147483629/\0<=c/\c+(N:Int)<=1099511627776
theorem Pn.mono(h:Pn N H p)(l:M<=N):Pn M H p:=by
 obtain⟨a,b,c,e,h1,d,f,g,i⟩:=h;show⟨a,b,c,e,h1,d,f,g,by lk⟩
theorem Pn.same(h:Pn N H p)(s:L2.Same H H'):Pn N H' p:=by
 obtain⟨a,b,c,e,r⟩:=h;show⟨a,b,c,s _ _ e,r⟩
theorem Pn.new(h:Pn N H p)(hl:H l=none):Pn N (upd H l o) p:=h.same (qG (Sr H) hl)
theorem Pn.apart(h:Pn N H p)(hl:H l=none):l≠p:=fun z=>by obtain⟨a,b,c,e,r⟩:=h;rw[z,e] at hl;cases hl
inductive spPu(vs:List V)(H:Hp)(Q:VK)(E:XK):Prop|mk (c:Int) (_:vs=[.int c]) (_:∀(p:Addr) (H':Hp),L2.Same H H'->H p=none->Pn 1000000000000 H' p->Q (.ref p) H')
inductive spTkN(vs:List V)(H:Hp)(Q:VK)(E:XK):Prop|mk (p:Addr) (m N:Nat) (_:vs=[.ref p,.int (m:Int)]) (_:Pn (N+1) H p) (_:0<m) (_:m<1000) (_:∀(d:Nat) (H':Hp),d<m->But p H H'->Pn N H' p->Q (.int (d:Int)) H')
theorem But.trans7(a:But p H H1)(b:But p H1 H2):But p H H2:=fun c o n e=>b c o n (a c o n e)
theorem But.new7(a:But p H H1)(hl:H1 l=none):But p H (upd H1 l o):=fun c u n e=>by
 have:=a c u n e;have ne:c≠l:=fun z=>by rw[z,hl] at this;cases this
 rw[qh ne];show this
theorem But.free7(a:But p H H1)(b:l≠p)(hl:H1 l=none):H l=none:=by
 cases e:H l with
 | none=>rfl
 | some o=>rw[a l o b e] at hl;cases hl
noncomputable abbrev iV(k:Nat):V:=.int (k:Int)
theorem ok_ce(F:Fun K "_law_at" "_law_at" qcA f fd)(T:Txt K mg cc cw):FnOk P w K mg base CX0 1 f fd ["_law_script","_law_k"] (spCe K):=by
 show F.ok K2 fun _ _ _ _ H vs Q E d h=>?_
 .obtain⟨a,ns,k,rfl,b,h1,q⟩:=h;have e:=zC d;show⟨_,(qc (qM (qt qcQ (pv 1) (qr (jW (K:=K) rfl) rfl T.b_len YF (qa (pv 0) qd)) (qy _)) (qf (qq (qu (qv (K:=K) rfl e) (pv 0) (pv 1) (fun _ _=>rfl)))) qw)
 (qf (qq (qB (jH (K:=K) rfl) (qB qb1 qe (pv 1)) qe)))),?_⟩
  apply vLenLs b ?_;rw[ya];ext;by_cases c:k<ns.length
  .rw [yH (show(k:Int)<(ns.length:Int) by lk)];show qbT ?_;apply .inl (vIxLs b (v:=.int ns[k]) (qp (by rw[yd,yb c];rfl)) ?_);show q _
  .rw [yl (show ¬ (k:Int)<(ns.length:Int) by lk)];show yq ?_;apply qb2 (.inl ⟨by decide,by decide⟩) ?_;apply q _
theorem ok_pu(F:Fun K "_law_box" "_law_box" qbi f fd)(T:Txt K mg cc cw):FnOk P w K mg base CX0 1 f fd ["_law_cell"] spPu:=by
 show F.ok KY fun _ _ _ _ H vs Q E d h=>?_
 .obtain⟨c,rfl,q⟩:=h;show⟨_,(qf (qq (jo (qa (qr (call_max2 rfl) rfl T.b_max boot_max (qa qe (qa (qB qcg (pv 0) (qB op_pow qe qe)) qd))) (qa (qB zG (pv 0) qe) (qa qe qd)))))),?_⟩;apply vI ⟨by decide,by decide,by decide⟩ ?_;apply⟨_,_,rfl,?_⟩;apply vI (by decide) ?_;apply⟨by show 3<=sizeLine;decide,fun p a=>?_⟩;have h1:=xG c (show(2147483629:Int)≠0 by decide);have b:=Y3 c (show(0:Int)<2147483629 by decide);show q p _ (qG (Sr H) a) a ⟨_,_,_,qb,by split<;>lk,h1,b,by decide,by decide⟩
theorem ok_tkp(F:Fun K "_law_take" "_law_take" qam f fd)(T:Txt K mg cc cw):FnOk P w K mg base CX0 1 f fd ["_law_box_here","_law_many"] spTkN:=by
 show F.ok kW fun _ _ _ _ H vs Q E W h=>?_
 .obtain⟨p,m,N,rfl,⟨a,b,c,L,A,hb,l,hc,S⟩,X,h1,q⟩:=h;have g:=zC W;have r:(0:Int)<(m:Int):=by lk
  show⟨_,(qc (qV (qB (jH (K:=K) rfl) (qu (qv (K:=K) rfl g) (pv 0) qe (fun _ _=>rfl)) qe) (jg (pv 0) qe (ji g)))
 (qc (qM (qt qcH (qu (qv (K:=K) rfl g) (pv 0) qe (fun _ _=>rfl)) qe (qy _)) (qc (qm (i:=2) kW.nd rfl (yN rfl) (qB zG (qu (qv (K:=K) rfl g) (pv 0) qe (fun _ _=>rfl)) (pv 1)))
 (qc (qV (qB qa7 (qu (qv (K:=K) rfl g) (pv 0) qe (fun _ _=>rfl)) (pv 1)) (jg (pv 0) qe (ji g)))
 (qf (qq (pv 2))))) qw)
 (qc (qm (i:=3) kW.nd rfl (yN rfl) (qB zG (qB (jH (K:=K) rfl) (qB (jH (K:=K) rfl) (qB qb1 (qu (qv (K:=K) rfl g) (pv 0) qe (fun _ _=>rfl)) qe) (qB qb1 qe (qu (qv (K:=K) rfl g) (pv 0) qe (fun _ _=>rfl)))) qe) qe))
 (qc (qm (i:=4) kW.nd rfl (yN rfl) (qB (jH (K:=K) rfl) (qB (jH (K:=K) rfl) (qB qa7 (pv 3) qe) (qB qb1 (qu (qv (K:=K) rfl g) (pv 0) qe (fun _ _=>rfl)) (qu (qv (K:=K) rfl g) (pv 0) qe (fun _ _=>rfl)))) qe))
 (qc (qm (i:=3) kW.nd rfl (yN rfl) (qB zG (qB qb1 (qB (jH (K:=K) rfl) (qB zG (pv 3) qe) qe) (pv 4)) qe))
 (qf (qq (qB zG (qB qa7 (qB zG (qB qb1 (pv 3) (qB (jH (K:=K) rfl) (qB qa7 (pv 3) qe) qe)) qe) qe) (pv 1))))))))),?_⟩
  apply .inl (za L rfl ?_);apply .inl (qdy L rfl ?_);have y:But p H (upd H p (.lst [.int a,.int b,.int (c+1)])):=fun x o n e=>by rw[qh n];show e
  have d:upd H p (.lst [.int a,.int b,.int (c+1)]) p=some (.lst [.int a,.int b,.int (c+1)]):=qb;have R:upd H p (.lst (([V.int a,.int b,.int c]).set (2:Int).toNat (.int (c+1))))=upd H p (.lst [.int a,.int b,.int (c+1)]):=rfl;ext;rw[R];generalize upd H p (.lst [.int a,.int b,.int (c+1)])=H1 at y d;show .inl (za d rfl ?_);apply qT (fun U=>?_) (fun U=>?_)
  .ext;show .inl (za d rfl ?_);apply vI r ?_;apply .inl (za d rfl ?_);apply vI ⟨r,by lk⟩ ?_;apply .inl (qdy d rfl ?_);ext;have M:=xG a (show(m:Int)≠0 by lk);have O:=Y3 a r;have z:a % (m:Int)=(((a % (m:Int)).toNat:Nat):Int):=by lk
   rw[z];show q _ _ (by lk) (fun x o n e=>by rw[qh n];show y x o n e) ⟨_,_,_,qb,Int.ediv_nonneg A (by lk),hb,l,by lk,by lk⟩
  .ext;show .inl (za d rfl ?_);apply qb2 (.inr ⟨by decide,by decide⟩) ?_;apply .inl (za d rfl ?_);apply qb2 (.inl ⟨by decide,by decide⟩) ?_;apply vI (by decide) ?_;ext;generalize s:(b*48271+6007*(c+1)+29) % 2147483647=j;have D:0<=j:=by rw[<- s];show xG _ (by decide)
   have G:j<2147483647:=by rw[<- s];show Y3 _ (by decide)
   show vI ⟨by decide,by decide⟩ ?_;apply .inl (za d rfl ?_);apply .inl (za d rfl ?_);show qb2 (.inl ⟨by lk,by lk⟩) ?_;apply vI (by decide) ?_;ext;have B:=xG j (show(65537:Int)≠0 by decide);have C:=Y3 j (show(0:Int)<65537 by decide);show qb2 (.inl ⟨by lk,by lk⟩) ?_;apply vI (by decide) ?_;generalize t:(j % 65537+11)*(j / 65537+(c+1)*(c+1)+5) % 2147483587=u;have I:0<=u:=by rw[<- t];show xG _ (by decide)
   have J:u<2147483587:=by rw[<- t];show Y3 _ (by decide)
   apply vI ⟨by decide,by decide⟩ ?_;apply qb2 (.inl ⟨by lk,by lk⟩) ?_;apply vI (by decide) ?_;apply vI ⟨by decide,by decide⟩ ?_;apply vI r ?_;generalize u*(u / 1009+3) % 1000000007 / 13=v;have M:=xG v (show(m:Int)≠0 by lk);have O:=Y3 v r;have z:v % (m:Int)=(((v % (m:Int)).toNat:Nat):Int):=by lk
   rw[z];show q _ _ (by lk) y ⟨_,_,_,d,A,hb,l,by lk,by lk⟩
theorem kA:FnScope ["_law_box_here","_law_many","_law_letters","_law_base","_law_first","_law_long","_law_at_here","_law_step","_law_end","_law_names_here","_law_k","_law_sign"] ["_law_box_here","_law_many"] (qg jK):=fS
theorem qdi{X:L2.Cx}{st:List PySem.Stmt}{t:L2.TS}(t':L2.TS)(h:L2.PSs X st t)(k:∀ D b H,t' D b H->t D b H):L2.PSs X st t':=fun a s b H D I q=>h a s b H D I (k D b H q)
theorem eqv_decJ(a b:Int):(if false=true then !eqV (V.int a) (V.int b) else eqV (V.int a) (V.int b))=decide (a=b):=by
 rw[yz (by decide)];unfold eqV;by_cases h:a=b<;>simp[h]
theorem qeG{i j:Int}{Q:VK}(q:Q (.bl (decide (i=j))) H):qdB K (.int i) (.int j) H Q:=.inl (.inl (.inl ⟨rfl,rfl,by rw[eqv_decJ];show q⟩))
noncomputable def stepsA:LN:=[3,7,25]
noncomputable def cA(first step j:Nat):Nat:=97+(first+step*j) % 26
theorem cA_sg(first step j:Nat):sg (cA first step j)=true:=by unfold cA;show qee (by lk) (by lk)
theorem cA_inj{first step:Nat}(a:step∈stepsA){k:Nat}(b:j<14)(c:k<14)(e:cA first step j=cA first step k):j=k:=by
 unfold cA at e;simp only[stepsA,yE,yZ,Y2] at a;rcases a with rfl | rfl | rfl<;>lk
theorem jX(s:Str):s.length=s.cps.toList.length:=by simp[Str.length]
inductive spNmA(vs:List V)(H:Hp)(Q:VK)(E:XK):Prop|mk (p:Addr) (m N:Nat) (_:vs=[.ref p,.int (m:Int)]) (_:Pn (N+16) H p) (_:m<=14) (_:∀(l:Addr) (ss:LS) (H':Hp),But p H H'->Pn N H' p->H l=none->l≠p->H' l=some (.lst (ss.map V.str))->NOk ss->ss.length=m->Q (.ref l) H')
theorem qdj{y:Option V}{Q:V->Hp->Prop}(C:n<=100)(u:Pn (M+n) H1 p)(q:∀(b:LS) (J:Hp) (l:Addr),But p H1 J->Pn M J p->b.length=n->(∀ x∈b,x.length=1/\x.cps.toList.all sg=true)->J l=none->Q (.ref l) (upd J l (.lst (b.map V.str)))) :
  qcJ (Itr 0 n) (qaJ 0) qeR (tOp (qfb K) (qej 1) (qdv spTkN [] E0 (qdu (qej 2) (qdu (tC (.int 26)) qeq)))) [y,some (.str L26),some (.ref p)] H1 Q:=by
 show qaV (lo:=0) (n:=n) (fun i ys J=>i<=n/\But p H1 J/\Pn (M+(n-i)) J p/\∃ xs:LS,ys=xs.map V.str/\xs.length=i/\∀ x∈xs,x.length=1/\x.cps.toList.all sg=true) ⟨Yi _,fun c o _ e=>e,u,[],rfl,rfl,fun _ h=>by cases h⟩ (fun i ys J B j=>?_) fun ys J j=>?_
 .obtain⟨_,d,a,xs,rfl,s,m⟩:=j;apply qbT ?_;apply⟨p,26,M+(n-(i+1)),rfl,a.mono (by lk),by decide,by decide,fun r A v t f=>?_⟩;show .inl (qeV (by room) (qdd (by lk) (by lk)) ?_);show⟨by rw[ya];show qi (by lk),by lk,d.trans7 t,f,xs++[_],by rw[yL];rfl,by rw[yx,s];rfl,fun x w=>?_⟩;rcases yB.mp w with z | z
  .show m x z
  .rw [yA.mp z];show⟨rfl,?_⟩;have:=qee (c:=97+r) (by lk) (by lk);simp[this]
 .obtain⟨_,d,a,b,rfl,g,h1⟩:=j;show⟨by rw[ya];show yR (qi (by lk)),fun l hl=>q b J l d (a.mono (by lk)) g h1 hl⟩
theorem qdV{a:LS}(h1:∀ x∈a,x.length=1/\x.cps.toList.all sg=true):(Txt.join "" a).length=a.length/\(Txt.join "" a).cps.toList.all sg=true:=by
 show⟨join_len fun x b=>(h1 x b).1,?_⟩;have e:Txt.join "" a=Str.join "" a:=yY.mp (join_plain_closes "" a);rw[e];show qcw fun x b=>(h1 x b).2
theorem ok_nmA(F:Fun K "_law_names" "_law_names" jK f fd)(T:Txt K mg cc cw)(ky:DefOk P w K mg base CX0 1 "_law_take" ["_law_box_here","_law_many"] spTkN):FnOk P w K mg base CX0 2 f fd ["_law_box_here","_law_many"] spNmA:=by
 show F.ok kA fun _ _ _ s H vs Q E S h=>?_
 .obtain⟨p,m,N,rfl,hB,hm,q⟩:=h;have hu:=zC S;obtain⟨TC2,ac⟩:∃ t:TS,t=fun D σ H'=>(∀ u H',Q u H'->D.rt u H')/\∃(x3 x4 x5 x6 x7 x8 x9 b g:Option V),σ=[some (.ref p),some (.int (m:Int)),some (.str L26),x3,x4,x5,x6,x7,x8,x9,b,g]/\But p H H'/\Pn (N+15) H' p:=⟨_,rfl⟩;obtain⟨TC8,ad⟩:∃ t:TS,t=fun D σ H'=>(∀ u H',Q u H'->D.rt u H')/\∃(x5 x9 b g:Option V) (base:Str) (first at_ step e:Nat),σ=[some (.ref p),some (.int (m:Int)),some (.str L26),some (.str base),some (.int (first:Int)),x5,some (.int (at_:Int)),some (.int (step:Int)),some (.str ⟨#[e]⟩),x9,b,g]/\But p H H'/\Pn N H' p/\step∈stepsA/\base.length<=4/\base.cps.toList.all sg=true/\at_<=base.length/\sg e=true:=⟨_,rfl⟩;show⟨_,(qc (qm (i:=2) kA.nd rfl (Xf rfl) zF)
 (qc (qM (PW.pt (qaL (qt qcQ (pv 1) qe (qy _)) (qa5 (qt (zB (K:=K) rfl hu) (qk ky (hmR S) qx (qa (pv 0) (qa qe qd))) qe (qy _))))) (qc (qm (i:=3) kA.nd rfl (Xf rfl) (qc3 (K:=K) rfl PySem.F.plainAttrs_str PySem.F.slot_str_join PySem.F.type_str_join (qdM (K:=K) rfl) zF (qa (jV (sc:=qg jK) (XN:=["_law_box_here","_law_many","_law_letters","_law_base","_law_first","_law_long","_law_at_here","_law_step","_law_end","_law_names_here","_law_k","_law_sign"]) ["_law_k","_law_letters","_law_box_here"] 1 [2,0] rfl rfl rfl (by room) rfl (by room)
  (js rfl T.b_range (qa qe qd)) (fun _ _ _ _=>(qo (i:=0) (show(["_law_k","_law_letters","_law_box_here"]:LS).Nodup by room) rfl (yN rfl))) jh
  (fun _ _ _ _=>jN)
  (fun _ _ _ _=>(qu (qv (K:=K) rfl hu) (pv 1) (qk ky (hmR S) qx (qa (pv 2) (qa qe qd))) (fun _ _=>rfl)))) qd)))
 (qc (qm (i:=4) kA.nd rfl (Xf rfl) (qk ky (hmR S) qx (qa (pv 0) (qa qe qd))))
 (qf (qq (jV (sc:=qg jK) (XN:=["_law_box_here","_law_many","_law_letters","_law_base","_law_first","_law_long","_law_at_here","_law_step","_law_end","_law_names_here","_law_k","_law_sign"]) ["_law_k","_law_base","_law_first"] 1 [3,4] rfl rfl rfl (by room) rfl (by room)
  (js rfl T.b_range (qa (pv 1) qd)) (fun _ _ _ _=>(qo (i:=0) (show(["_law_k","_law_base","_law_first"]:LS).Nodup by room) rfl (yN rfl))) jh
  (fun _ _ _ _=>jN)
  (fun _ _ _ _=>(jy (qdz (K:=K) rfl) (pv 1) zl (jE (qB (jH (K:=K) rfl) qe (qB zG (qB (jH (K:=K) rfl) (pv 2) (pv 0)) qe)))))))))) qw)
 (qdi TC2 (qc (qm (i:=5) kA.nd rfl (yN rfl) (qk ky (hmR S) qx (qa (pv 0) (qa qe qd))))
 (qc (qm (i:=3) kA.nd rfl (Xf rfl) (qc3 (K:=K) rfl PySem.F.plainAttrs_str PySem.F.slot_str_join PySem.F.type_str_join (qdM (K:=K) rfl) zF (qa (jV (sc:=qg jK) (XN:=["_law_box_here","_law_many","_law_letters","_law_base","_law_first","_law_long","_law_at_here","_law_step","_law_end","_law_names_here","_law_k","_law_sign"]) ["_law_k","_law_letters","_law_box_here"] 1 [2,0] rfl rfl rfl (by room) rfl (by room)
  (js rfl T.b_range (qa (pv 5) qd)) (fun _ _ _ _=>(qo (i:=0) (show(["_law_k","_law_letters","_law_box_here"]:LS).Nodup by room) rfl (yN rfl))) jh
  (fun _ _ _ _=>jN)
  (fun _ _ _ _=>(qu (qv (K:=K) rfl hu) (pv 1) (qk ky (hmR S) qx (qa (pv 2) (qa qe qd))) (fun _ _=>rfl)))) qd)))
 (qc (qm (i:=6) kA.nd rfl (yN rfl) (qk ky (hmR S) qx (qa (pv 0) (qa (qB (jH (K:=K) rfl) (qr (jW (K:=K) rfl) rfl T.b_len YF (qa (pv 3) qd)) qe) qd))))
 (qc (qm (i:=4) kA.nd rfl (Xf rfl) (qk ky (hmR S) qx (qa (pv 0) (qa qe qd))))
 (qc (qm (i:=7) kA.nd rfl (yN rfl) (qu (qv (K:=K) rfl hu) (jo (qa qe (qa qe (qa qe qd)))) (qk ky (hmR S) qx (qa (pv 0) (qa qe qd))) (fun _ _=>rfl)))
 (qc (qm (i:=8) kA.nd rfl (yN rfl) (qu (qv (K:=K) rfl hu) (pv 2) (qk ky (hmR S) qx (qa (pv 0) (qa qe qd))) (fun _ _=>rfl)))
 (qdi TC8 (qc (qm (i:=9) kA.nd rfl (yN rfl) (jo qd))
 (qc (jc yQ rfl (js rfl T.b_range (qa (pv 1) qd)) (qo (i:=10) kA.nd rfl (yN rfl))
 (qc (qm (i:=11) kA.nd rfl (yN rfl) (qu (qv (K:=K) rfl hu) (pv 2) (qB zG (qB (jH (K:=K) rfl) (pv 4) (qB qb1 (pv 7) (pv 10))) qe) (fun _ _=>rfl)))
 (qf (zh (qc3 (K:=K) rfl Yj Yr Ys jp (pv 9) (qa (qB (jH (K:=K) rfl) (qB (jH (K:=K) rfl) (qB (jH (K:=K) rfl) (jy (qdz (K:=K) rfl) (pv 3) zl (jE (pv 6))) (pv 11)) (jy (qdz (K:=K) rfl) (pv 3) (jE (pv 6)) zl)) (qu (qv (K:=K) rfl hu) (jo (qa zF (qa (pv 8) qd))) (qB zG (pv 10) qe) (fun _ _=>rfl))) qd))))))
 (qf (qq (pv 9))))) ?cut8))))))) ?cut2))),?_⟩
  case cut8 =>
   intro D σ H1 h;rw[ad] at h;obtain⟨hD,x5,x9,b,g,base,first,at_,step,e,rfl,b1,hB1,L,bb,aj,ap,ay⟩:=h;have lB:=jX base
   have bd:0<step/\step<=25:=by
    have h:=L;simp only[stepsA,yE,yZ,Y2] at h;lk
   have et:=qa0 base at_;have ed:=slice_drop base at_;have lt:(Txt.slice base none (some (at_:Int))).length=at_:=by rw[jX,et,yI];lk
   have ld:(Txt.slice base (some (at_:Int)) none).length=base.length-at_:=by rw[jX,ed,YO];lk
   apply⟨by show 0<=sizeLine;decide,fun l hl=>?_⟩;have A:=hB1.apart hl;apply⟨(m:Int),rfl,by lk,by lk,?_⟩;rw[Yc];show zi (lo:=0) (n:=m) (fun i σ J=>∃(ss:LS) (b g:Option V),σ=[some (.ref p),some (.int (m:Int)),some (.str L26),some (.str base),some (.int (first:Int)),x5,some (.int (at_:Int)),some (.int (step:Int)),some (.str ⟨#[e]⟩),some (.ref l),b,g]/\But p H1 J/\Pn N J p/\J l=some (.lst (ss.map V.str))/\ss.length=i/\∀(j:Nat) s,ss[j]?=some s->zD s=true/\s.cps.toList[at_]?=some (cA first step j)) ⟨[],_,_,rfl,But.new7 (fun c o _ e=>e) hl,hB1.new hl,qb,rfl,fun j s h=>by simp at h⟩ (fun i σ J hi hp=>?_) fun σ J hp=>?_
   .obtain⟨ss,b,g,rfl,U,r,X,G,I⟩:=hp;rw[X8];apply qb2 (.inl ⟨by lk,by lk⟩) ?_;apply vI (by decide) ?_;have ec:((first:Int)+(step:Int)*(i:Int)) % 26=(((first+step*i) % 26:Nat):Int):=by lk
    rw[ec];show .inl (qeV (by room) (qdd (by lk) (by lk)) ?_);rw[Yc];have aq:97+(first+step*i) % 26=cA first step i:=rfl;rw[aq];have ak:=cA_sg first step i;generalize ar:cA first step i=y at ak;have ai:(ss.map V.str).length<sizeLine:=by rw[ya];show qi (by lk)
    apply⟨.inl ⟨rfl,_,.of X⟩,?_⟩;apply qeW (yR (qi (by lk))) ?_;apply qea (by rw[lt];show _+1<=sizeLine;show yR (qi (by lk))) ?_;have e2:(Txt.slice base none (some (at_:Int))++(⟨#[y]⟩:Str)).cps.toList=base.cps.toList.take at_++[y]:=by rw[zS,et]
    have l2:(Txt.slice base none (some (at_:Int))++(⟨#[y]⟩:Str)).length=at_+1:=by rw[jX,e2,yx,yI];simp only[yM,Ym];lk
    generalize Txt.slice base none (some (at_:Int))++(⟨#[y]⟩:Str)=s2 at e2 l2;apply qeW (yR (qi (by lk))) ?_;show qea (by rw[l2,ld];show yR (qi (by lk))) ?_;have e3:(s2++Txt.slice base (some (at_:Int)) none).cps.toList=base.cps.toList.take at_++[y]++base.cps.toList.drop at_:=by rw[zS,ed,e2]
    have l3:(s2++Txt.slice base (some (at_:Int)) none).length=base.length+1:=by rw[jX,e3];simp only[yx,yI,YO,yM,Ym];lk
    generalize s2++Txt.slice base (some (at_:Int)) none=s3 at e3 l3;apply⟨by show 2<=sizeLine;decide,fun m2 Y=>?_⟩;have s4:=qG (Sr J) (o:=.lst [.str "",.str ⟨#[e]⟩]) Y;have em:upd J m2 (.lst [.str "",.str ⟨#[e]⟩]) m2=some (.lst [.str "",.str ⟨#[e]⟩]):=qb;generalize upd J m2 (.lst [.str "",.str ⟨#[e]⟩])=J2 at s4 em;apply vI (by decide) ?_;have eI:(i:Int) % 2=((i % 2:Nat):Int):=by lk
    rw[eI]
    obtain⟨z,hz,aa,az⟩:∃ z:Str,[V.str "",.str ⟨#[e]⟩][i % 2]?=some (.str z)/\z.length<=1/\z.cps.toList.all sg=true:=by
     have h2:i % 2=0\/i % 2=1:=by lk
     rcases h2 with h | h<;>rw[h]
     .show⟨"",rfl,by decide,rfl⟩
     .show⟨⟨#[e]⟩,rfl,yh _,by simp[ay]⟩
    show .inl (za em (v:=.str z) (qp hz) ?_);show qea (by rw[l3];show yR (qi (by lk))) ?_;have e4:(s3++z).cps.toList=base.cps.toList.take at_++[y]++base.cps.toList.drop at_++z.cps.toList:=by rw[zS,e3]
    have l4:(s3++z).cps.toList.length=base.length+1+z.length:=by rw[e4];simp only[yx,yI,YO,yM,Ym];rw[jX z];lk
    have av:=s4 _ _ X;apply⟨l,_,_,rfl,rfl,av,ai,?_⟩;have aw:l≠p:=A;have ao:H1 l=none:=hl;show⟨ss++[s3++z],_,_,rfl,fun c o hc ee=>?_,?_,by rw[qb,yL];rfl,by rw[yx,G];rfl,fun j s' a=>?_⟩
    .rw [qh (fun z=>by rw[z,ao] at ee;cases ee)];show s4 _ _ (U c o hc ee)
    .obtain⟨a1,a2,a3,a4,a5⟩:=r.same s4;show⟨a1,a2,a3,by rw[qh (Yn aw)];show a4,a5⟩
    .by_cases ae:j<ss.length
     .rw [yP ae] at a;show I j s' a
     .rw [Yb (by lk)] at a
      have e0:j-ss.length=0:=by
       have:=(yc.mp a).1;simp only[yM,Ym] at this;lk
      rw[e0] at a;cases a;have C:j=i:=by lk
      rw[C,ar];show⟨qcy e4 (by rw[<- e4,l4];lk) (by rw[<- e4,l4];lk) ?_,?_⟩
      .rw [xW,xW,xW,az];have t1:(base.cps.toList.take at_).all sg=true:=Yq.mpr fun c hc=>Yq.mp aj c (List.mem_of_mem_take hc);have t2:(base.cps.toList.drop at_).all sg=true:=Yq.mpr fun c hc=>Yq.mp aj c (List.mem_of_mem_drop hc);rw[t1,t2];simp[ak]
      .rw [e4,Yo,Yo,Yb (by rw[yI];lk),yI];have:at_-min at_ base.cps.toList.length=0:=by lk
       rw[this];rfl
   .obtain⟨ss,b,g,rfl,U,r,X,G,I⟩:=hp;apply hD _ _ (q l ss _ (b1.trans7 U) r (b1.free7 A hl) A X ⟨by lk,qbO fun j k s a hk=>?_,fun s hs=>?_⟩ G)
    .have as:j<ss.length:=(yc.mp a).1;have au:k<ss.length:=(yc.mp hk).1;have e1:=(I j s a).2;rw[(I k s hk).2] at e1;show(cA_inj L (by lk) (by lk) (ym e1)).symm
    .obtain⟨j,a⟩:=yf hs;show(I j s a).1
  case cut2 =>
   intro D σ H1 h;rw[ac] at h;obtain⟨hD,x3,x4,x5,x6,x7,x8,x9,b,g,rfl,b1,hB1⟩:=h;apply⟨p,5,N+14,rfl,hB1,by decide,by decide,fun lo H2 bc b2 al=>?_⟩;apply⟨rfl,?_⟩;apply⟨(lo:Int),rfl,by lk,by lk,?_⟩;rw[Yc];show qdj (M:=N+10) (by lk) (al.mono (by lk)) fun R J l U r aa O hl=>?_;ext;obtain⟨j1,j2⟩:=qdV O;show⟨_,l,R,rfl,rfl,SqL.of qb,by rw[qcx fun x Z=>(O x Z).1,show("":Str).length=0 by room];lk,?_⟩;rw[aa] at j1;generalize Txt.join "" R=base at j1 j2 ⊢;have b3:=(b1.trans7 b2).trans7 (U.new7 (o:=.lst (R.map V.str)) hl);have B:Pn (N+10) (upd J l (.lst (R.map V.str))) p:=r.new hl;generalize upd J l (.lst (R.map V.str))=H3 at b3 B;apply qex (yR (qi (by lk))) ?_;apply⟨p,base.length+1,N+9,rfl,B,by lk,by lk,fun at_ H4 ap b4 W=>?_⟩;apply⟨p,26,N+8,rfl,W,by decide,by decide,fun first H5 hf b5 ag=>?_⟩;apply⟨by show 3<=sizeLine;decide,fun m2 Y=>?_⟩;have ax:=ag.apart Y;have s6:=qG (Sr H5) (o:=.lst (stepsA.map iV)) Y;have em:upd H5 m2 (.lst (stepsA.map iV)) m2=some (.lst (stepsA.map iV)):=qb;have eu:upd H5 m2 (.lst [V.int 3,V.int 7,V.int 25])=upd H5 m2 (.lst (stepsA.map iV)):=rfl;rw[eu];generalize upd H5 m2 (.lst (stepsA.map iV))=H6 at s6 em;apply⟨p,3,N+7,rfl,ag.same s6,by decide,by decide,fun d H7 hd b7 am=>?_⟩;obtain⟨st,L⟩:∃ st,stepsA[d]?=some st:=⟨_,yb hd⟩;show .inl (za (b7 _ _ ax em) (v:=iV st) (qp (by rw[yd,L];rfl)) ?_);apply⟨p,26,N+6,rfl,am,by decide,by decide,fun e H8 he b8 an=>?_⟩;show .inl (qeV (by room) (qdd (by lk) (by lk)) ?_);rw[Yc];ext;rw[ad];show⟨hD,_,_,_,_,base,first,at_,st,97+e,rfl,((((b3.trans7 b4).trans7 b5).trans7 fun c o _ e=>s6 c o e).trans7 b7).trans7 b8,an.mono (by lk),ye L,by lk,j2,by lk,qee (by lk) (by lk)⟩
  have qce:∀ J,But p H J->Pn (N+15) J p->TC2 { nx:=fun _ H'=>Q .non H',rt:=Q } (List.set (L2.start ["_law_box_here","_law_many","_law_letters","_law_base","_law_first","_law_long","_law_at_here","_law_step","_law_end","_law_names_here","_law_k","_law_sign"] [V.ref p,V.int (m:Int)]) 2 (some (V.str L26))) J:=fun J U hJ=>by
   rw[ac];show⟨fun _ _ z=>z,_,_,_,_,_,_,_,_,_,rfl,U,hJ⟩
  apply qT (fun h7=>?_) (fun h7=>?_)
  .have ba:m<7:=by have:=yk h7;lk
   apply⟨p,4,N+15,rfl,hB,by decide,by decide,fun d H1 hd b1 hB1=>?_⟩;apply qeG ?_;apply qT (fun h0=>?_) (fun h0=>?_)
   .ext;show⟨rfl,?_⟩;apply⟨6,rfl,by decide,by decide,?_⟩;show qdj (n:=6) (M:=N+9) (by lk) (hB1.mono (by lk)) fun R J l U r aa O hl=>?_;ext;obtain⟨j1,j2⟩:=qdV O;show⟨_,l,R,rfl,rfl,SqL.of qb,by rw[qcx fun x Z=>(O x Z).1,show("":Str).length=0 by room];lk,?_⟩;rw[aa] at j1;generalize Txt.join "" R=base at j1 j2 ⊢;have b3:=b1.trans7 (U.new7 (o:=.lst (R.map V.str)) hl);have B:Pn (N+9) (upd J l (.lst (R.map V.str))) p:=r.new hl;generalize upd J l (.lst (R.map V.str))=H3 at b3 B;apply⟨p,6,N+8,rfl,B,by decide,by decide,fun first H4 hf b4 W=>?_⟩;apply⟨(m:Int),rfl,by lk,by lk,?_⟩;rw[Yc];have lB:=jX base;show qaV (lo:=0) (n:=m) (fun i ys J=>J=H4/\∃ xs:LS,ys=xs.map V.str/\xs.length=i/\∀(j:Nat) x,xs[j]?=some x->x.length=1+(first+j) % 6/\zD x=true) ⟨rfl,[],rfl,rfl,fun j x h=>by simp at h⟩ (fun i ys J hi hs=>?_) fun ys J hs=>?_
    .obtain⟨rfl,xs,rfl,af,Z⟩:=hs;rw[X8];apply qbT ?_;apply vI (by decide) ?_;ext;have e1:(1:Int)+((first:Int)+(i:Int)) % 6=((1+(first+i) % 6:Nat):Int):=by lk
     rw[e1];show qeW (yR (qi (by lk))) ?_;have et:=qa0 base (1+(first+i) % 6);generalize Txt.slice base none (some ((1+(first+i) % 6:Nat):Int))=z at et;have lz:z.length=1+(first+i) % 6:=by rw[jX,et,yI];lk
     show⟨by rw[ya];show qi (by lk),rfl,xs++[z],by rw[yL];rfl,by rw[yx,af];rfl,fun j x a=>?_⟩;by_cases ae:j<xs.length
     .rw [yP ae] at a;show Z j x a
     .rw [Yb (by lk)] at a
      have e0:j-xs.length=0:=by
       have:=(yc.mp a).1;simp only[yM,Ym] at this;lk
      rw[e0] at a;cases a;have C:j=i:=by lk
      rw[C];show⟨lz,qcy rfl ?_ ?_ ?_⟩
      .rw [<- jX,lz];lk
      .rw [<- jX,lz];lk
      .rw [et];show Yq.mpr fun c hc=>Yq.mp j2 c (List.mem_of_mem_take hc)
    .obtain⟨rfl,xs,rfl,af,Z⟩:=hs;show⟨by rw[ya];show yR (qi (by lk)),fun l5 h5=>?_⟩;have A:=W.apart h5;show q l5 xs _ ((b3.trans7 b4).new7 h5) ((W.mono (by lk)).new h5) ((b3.trans7 b4).free7 A h5) A qb ⟨by lk,qbO fun j k s a hk=>?_,fun s hs=>?_⟩ af
     .have as:j<xs.length:=(yc.mp a).1;have au:k<xs.length:=(yc.mp hk).1;have e1:=(Z j s a).1;rw[(Z k s hk).1] at e1;lk
     .obtain⟨j,a⟩:=yf hs;show(Z j s a).2
   .ext;show qce H1 b1 hB1
  .show yq ?_;apply qce H (fun c o _ e=>e) (hB.mono (by lk))
theorem kE:FnScope ["_law_box_here","_law_names_here","_law_ties","_law_k","_law_one","_law_others","_law_other"] ["_law_box_here","_law_names_here","_law_ties"] (qg jl):=fS
theorem qdW{a:Addr}{Q:VK}(h:PL H l ts tps)(w:H a=some (.tup [.str s,.str t]))(q:Q (.bl (!decide ((s,t)∈tps))) H):qeg K true (.ref a) (.ref l) H Q:=by
 have z:=qeD (K:=K) (Q:=fun v H'=>v=.bl (decide ((s,t)∈tps))/\H'=H) h w ⟨rfl,rfl⟩;rcases z with⟨p,xs,d,_,c,_⟩ | ⟨p,o,e,g,c,_⟩ | ⟨p,xs,e,n,d,c,f,i,j,_⟩
 .cases c
 .cases e;rcases g with⟨kvs,k,e | ⟨x,e⟩,_⟩ | ⟨kvs,k,b,e | ⟨x,e⟩,_⟩<;>(rw[h.1] at e;cases e)
 .show .inr (.inr ⟨p,xs,e,n,d,c,f,i,?_⟩)
  have m:xs.any e=decide ((s,t)∈tps):=by
   have:=j;rw[yz (by decide)] at this;cases r:xs.any e<;>cases u:decide ((s,t)∈tps)<;>rw[r,u] at this<;>first | rfl | (cases this)
  rw[yF rfl,m];show q
structure DT(ss:LS)(tps:LP):Prop where
 few:tps.length<=30
 ok:∀ ab∈tps,ab.1∈ss/\ab.2∈ss/\ab.1≠ab.2
 nd:tps.Nodup
 one:∀ ab∈tps,(ab.2,ab.1)∉tps
theorem DT.nil(ss:LS):DT ss []:=⟨Yi _,(fun _ h=>by cases h),.nil,(fun _ h=>by cases h)⟩
theorem DT.snoc(h:DT ss tps)(l:s∈ss)(m:t∈ss)(d:s≠t)(n:(s,t)∉tps)(f:(t,s)∉tps)(hl:tps.length<30):DT ss (tps++[(s,t)]):=by
 show⟨by rw[yx];simp;lk,fun ab c=>?_,Yt.mpr ⟨h.nd,xx _ _,fun a i b hb e=>?_⟩,fun ab c j=>?_⟩
 .rcases yB.mp c with z | z
  .show h.ok ab z
  .rw [yA.mp z];show⟨l,m,d⟩
 .rw [yA.mp hb] at e;subst e;show n i
 .rcases yB.mp c with z | z<;>rcases yB.mp j with y | y
  .show h.one ab z y
  .have e:=yA.mp y;have g:ab=(t,s):=X2 (congrArg Prod.snd e) (congrArg Prod.fst e);rw[g] at z;show f z
  .rw [yA.mp z] at y;show f y
  .rw [yA.mp z] at y;have e:=yA.mp y;show d (congrArg Prod.snd e)
def qeL(p l:Addr)(H H':Hp):Prop:=∀ c o,c≠p->c≠l->H c=some o->H' c=some o
inductive spMtA(vs:List V)(H:Hp)(Q:VK)(E:XK):Prop|mk (p n l:Addr) (ss:LS) (ts:LI) (tps:LP) (N:Nat) (_:vs=[.ref p,.ref n,.ref l]) (_:Pn (N+11) H p) (_:n≠p) (_:l≠p) (_:n≠l) (_:H n=some (.lst (ss.map V.str))) (_:NOk ss) (_:1<ss.length) (_:PL H l ts tps) (_:DT ss tps) (_:∀(ts':LI) (tps':LP) (H':Hp),qeL p l H H'->PL H' l ts' tps'->DT ss tps'->Q .non H')
inductive spTdA(vs:List V)(H:Hp)(Q:VK)(E:XK):Prop|mk (l:Addr) (ts:LI) (tps:LP) (s t:Str) (_:vs=[.ref l,.str s,.str t]) (_:PL H l ts tps) (_:∀ H',L2.Same H H'->Q (.bl (decide ((s,t)∈tps\/(t,s)∈tps))) H')
inductive spWbA(K:W.Frag)(vs:List V)(H:Hp)(Q:VK)(E:XK):Prop|mk (a:Addr) (ns:LQ) (_:vs=[.ref a,.int 14]) (_:SqL K H a (ns.map V.int)) (_:ns.length<=63) (_:∀(t n l:Addr) (ss:LS) (ts:LI) (tps:LP) (H':Hp),L2.Same H H'->H' t=some (.tup [.ref n,.ref l])->H n=none->H l=none->n≠l->H' n=some (.lst (ss.map V.str))->NOk ss->PL H' l ts tps->DT ss tps->Q (.ref t) H')
theorem ok_mtA(F:Fun K "_law_more_ties" "_law_more_ties" jl f fd)(T:Txt K mg cc cw)(ky:DefOk P w K mg base CX0 1 "_law_take" ["_law_box_here","_law_many"] spTkN):FnOk P w K mg base CX0 2 f fd ["_law_box_here","_law_names_here","_law_ties"] spMtA:=by
 show F.ok kE fun _ _ _ _ H vs Q E hr h=>?_
 .obtain⟨p,n,l,ss,ts,tps,N,rfl,hB,am,Z,bb,hn,hO,be,hP,hD,q⟩:=h;have hu:=zC hr;have bj:=hO.few;show⟨_,(qf (jc yQ rfl (js rfl T.b_range (qa (qu (qv (K:=K) rfl hu) (jo (qa qe (qa qe (qa qe (qa qe qd))))) (qk ky (hmR hr) qx (qa (pv 0) (qa qe qd))) (fun _ _=>rfl)) qd)) (qo (i:=3) kE.nd rfl (yN rfl))
 (qc (qm (i:=4) kE.nd rfl (Xf rfl) (qu (qv (K:=K) rfl hu) (pv 1) (qk ky (hmR hr) qx (qa (pv 0) (qa (qr (jW (K:=K) rfl) rfl T.b_len YF (qa (pv 1) qd)) qd))) (fun _ _=>rfl)))
 (qc (qaw (sc:=qg jl) (XN:=["_law_box_here","_law_names_here","_law_ties","_law_k","_law_one","_law_others","_law_other"]) ["_law_name","_law_one"] 1 [4] rfl rfl rfl (by room) rfl (by room) (i:=5) kE.nd rfl rfl
  (qP (K:=K) rfl (pv 1)) (fun _ _ _ _=>(qo (i:=0) (show(["_law_name","_law_one"]:LS).Nodup by room) rfl (yN rfl))) jh
  (fun _ _ _ _=>(j4 (qt (qaA (K:=K) rfl hu) (pv 0) (pv 1) (qy _))))
  (fun _ _ _ _=>(pv 0)))
 (qc (qm (i:=6) kE.nd rfl (yN rfl) (qu (qv (K:=K) rfl hu) (pv 5) (qk ky (hmR hr) qx (qa (pv 0) (qa (qr (jW (K:=K) rfl) rfl T.b_len YF (qa (pv 5) qd)) qd))) (fun _ _=>rfl)))
 (qf (qM (PW.pt (qaL (qt (j5 (K:=K) rfl hu) (jw (qa (pv 4) (qa (pv 6) qd))) (pv 2) (by with_unfolding_all rfl)) (qaL (qt (j5 (K:=K) rfl hu) (jw (qa (pv 6) (qa (pv 4) qd))) (pv 2) (by with_unfolding_all rfl)) (qa5 (qt qcQ (qr (jW (K:=K) rfl) rfl T.b_len YF (qa (pv 2) qd)) qe (qy _)))))) (qf (zh (qc3 (K:=K) rfl Yj Yr Ys jp (pv 2) (qa (jw (qa (pv 4) (qa (pv 6) qd))) qd)))) qw))))))),?_⟩
  apply⟨by show 4<=sizeLine;decide,fun m2 aj=>?_⟩;have ba:=hB.apart aj;have s1:=qG (Sr H) (o:=.lst [.int 1,.int 1,.int 2,.int 5]) aj;have em:upd H m2 (.lst [.int 1,.int 1,.int 2,.int 5]) m2=some (.lst [.int 1,.int 1,.int 2,.int 5]):=qb;generalize upd H m2 (.lst [.int 1,.int 1,.int 2,.int 5])=H1 at s1 em;apply⟨p,4,N+10,rfl,hB.same s1,by decide,by decide,fun d H2 hd b2 av=>?_⟩
  obtain⟨C,bi,bm⟩:∃ C:Nat,[V.int 1,.int 1,.int 2,.int 5][d]?=some (.int (C:Int))/\C<=5:=by
   have h4:d=0\/d=1\/d=2\/d=3:=by lk
   rcases h4 with rfl | rfl | rfl | rfl
   .show⟨1,rfl,by decide⟩
   .show⟨1,rfl,by decide⟩
   .show⟨2,rfl,by decide⟩
   .show⟨5,rfl,by decide⟩
  show .inl (za (b2 _ _ ba em) (v:=.int (C:Int)) (qp bi) ?_);apply⟨(C:Int),rfl,by lk,by lk,?_⟩;rw[Yc];have R:But p H H2:=fun c o hc e=>b2 c o hc (s1 c o e);show zi (lo:=0) (n:=C) (fun i σ J=>i<=C/\qeL p l H J/\Pn (N+2*(C-i)) J p/\(∃ s j,PL J l s j/\DT ss j)/\∃ y3 y4 y5 y6,σ=[some (.ref p),some (.ref n),some (.ref l),y3,y4,y5,y6]) ⟨Yi _,fun c o hc _ e=>R c o hc e,av.mono (by lk),⟨ts,tps,⟨R _ _ Z hP.1,hP.2.mono fun t ab z=>R _ _ (fun e=>by obtain⟨u,v,w,e2,_⟩:=hB;rw[e,e2] at z;cases z) z⟩,hD⟩,_,_,_,_,rfl⟩ (fun i σ J hi hp=>?_) fun σ J hp=>?_
  .obtain⟨_,bJ,X,⟨s,j,M,L⟩,y3,y4,y5,y6,rfl⟩:=hp;have al:=bJ _ _ am bb hn;apply qaa al ?_;rw[ya];apply⟨p,ss.length,N+2*(C-i)-1,rfl,X.mono (by lk),by lk,by lk,fun d1 J1 ax b1 hB1=>?_⟩;obtain⟨m,an⟩:∃ m,ss[d1]?=some m:=⟨_,yb ax⟩;have aa:=b1 _ _ am al;show .inl (za aa (v:=.str m) (qp (by rw[yd,an];rfl)) ?_);apply .inl ⟨⟨_,.of aa⟩,qX (xs:=ss.map V.str) (fun i ys G=>G=J1/\ys=((ss.take i).filter fun x=>decide (x≠m)).map V.str) ⟨rfl,rfl⟩ (fun i ys G _ I=>by rw[I.1];show .of aa) (fun i y ys G hy I=>?_) fun ys G I=>?_⟩
   .obtain⟨rfl,rfl⟩:=I;rw[yd] at hy;obtain⟨x,hx,rfl⟩:=yn.mp hy;have bn:i<ss.length:=(yc.mp hx).1;have ai:((ss.take i).filter fun x=>decide (x≠m)).length<=14:=yi (Ye _ _) (by rw[yI];lk);rw[yK,hx,y0];apply vNeS ?_;show⟨_,rfl,qT (fun ho=>?_) (fun ho=>?_)⟩
    .ext;show⟨by rw[ya];show qi (by lk),rfl,?_⟩;have ad:x≠m:=fun e=>by rw[e] at ho;simp at ho
     show _=List.map V.str (_++[x].filter _);rw[yU,yF (yH ad),yL];rfl
    .show⟨rfl,?_⟩
     have ad:x=m:=by
      cases e:decide (x=m) with
      | true=>show yk e
      | false=>rw[e] at ho;show absurd rfl ho
     show _=List.map V.str (_++[x].filter _);rw[yU,yz (by rw[ad];simp),xi,Yg]
   .obtain⟨rfl,rfl⟩:=I;rw[show(ss.map V.str).length=ss.length from ya ..,yO];have ai:(ss.filter fun x=>decide (x≠m)).length<=14:=yi (Ye _ _) (by lk);have ak:∀ x∈ss.filter fun x=>decide (x≠m),x∈ss/\x≠m:=fun x hx=>⟨(yp.mp hx).1,yk (yp.mp hx).2⟩
    have bd:0<(ss.filter fun x=>decide (x≠m)).length:=by
     obtain⟨y,hy,ac⟩:∃ y∈ss,y≠m:=by
      show Yl fun bc=>?_;have B:∀ y∈ss,y=m:=fun y hy=>Yl fun ac=>bc ⟨y,hy,ac⟩
      match ss,be,hO.nd,B with
      | a::b::r,_,hnd,B =>
       have e1:=B a (by simp);have e2:=B b (by simp);rw[e1,e2] at hnd;simp at hnd
     show List.length_pos_of_mem (yp.mpr ⟨hy,yH ac⟩)
    generalize (ss.filter fun x=>decide (x≠m))=os at ai ak bd;show⟨by rw[ya];show yR (qi (by lk)),fun g hg=>?_⟩;have az:=hB1.apart hg;have s3:=qG (Sr G) (o:=.lst (os.map V.str)) hg;have eg:upd G g (.lst (os.map V.str)) g=some (.lst (os.map V.str)):=qb;generalize upd G g (.lst (os.map V.str))=J2 at s3 eg;apply qaa eg ?_;rw[ya];apply⟨p,os.length,N+2*(C-i)-2,rfl,(hB1.same s3).mono (by lk),by lk,by lk,fun d2 O ay b3 af=>?_⟩;obtain⟨t',ao⟩:∃ t',os[d2]?=some t':=⟨_,yb ay⟩;show .inl (za (b3 _ _ az eg) (v:=.str t') (qp (by rw[yd,ao];rfl)) ?_);obtain⟨bf,bg⟩:=ak t' (ye ao);have S:But p J O:=(b1.trans7 fun c o _ e=>s3 c o e).trans7 b3;have as:∀{t:Addr} {ab:Str×Str},J t=some (.tup [.str ab.1,.str ab.2])->t≠p:=fun z e=>by obtain⟨u,v,w,e2,_⟩:=X;rw[e,e2] at z;cases z
    have A:PL O l s j:=⟨S _ _ Z M.1,M.2.mono fun t ab z=>S _ _ (as z) z⟩;have ae:qeL p l H O:=fun c o h1 W e=>S _ _ h1 (bJ c o h1 W e);apply⟨by show 2<=sizeLine;decide,fun t1 ap=>?_⟩;have s4:=qG (Sr O) (o:=.tup [.str m,.str t']) ap;have e4:upd O t1 (.tup [.str m,.str t']) t1=some (.tup [.str m,.str t']):=qb;generalize upd O t1 (.tup [.str m,.str t'])=J4 at s4 e4;apply qdW (A.same s4) e4 ?_
    have U:∀(G5:Hp),L2.Same O G5->i+1<=C/\qeL p l H G5/\Pn (N+2*(C-(i+1))) G5 p/\(∃ s j,PL G5 l s j/\DT ss j)/\∃ y3 y4 y5 y6,[some (V.ref p),some (V.ref n),some (V.ref l),some (V.int (0+(i:Int))),some (.str m),some (.ref g),some (.str t')]=[some (V.ref p),some (V.ref n),some (V.ref l),y3,y4,y5,y6]:=fun G5 s5 =>
     ⟨hi,fun c o h1 W e=>s5 _ _ (ae c o h1 W e),(af.same s5).mono (by lk),⟨s,j,A.same s5,L⟩,_,_,_,_,rfl⟩
    apply qT (fun h1=>?_) (fun h1=>?_)
    .ext;show⟨by show 2<=sizeLine;decide,fun t2 aq=>?_⟩;have s5:=qG (Sr J4) (o:=.tup [.str t',.str m]) aq;have e5:upd J4 t2 (.tup [.str t',.str m]) t2=some (.tup [.str t',.str m]):=qb;generalize upd J4 t2 (.tup [.str t',.str m])=J5 at s5 e5;have D:=s4.trans s5;apply qdW (A.same D) e5 ?_;apply qT (fun W=>?_) (fun W=>?_)
     .ext;show qaa ((A.same D).1) ?_;rw[ya,A.2.len];apply qT (fun h3=>?_) (fun h3=>?_)
      .have au:j.length<30:=by have:=yk h3;lk
       apply⟨.inl ⟨rfl,_,.of (A.same D).1⟩,?_⟩;apply⟨by show 2<=sizeLine;decide,fun t3 bh=>?_⟩;have s6:=qG D (o:=.tup [.str m,.str t']) bh;have e6:upd J5 t3 (.tup [.str m,.str t']) t3=some (.tup [.str m,.str t']):=qb;generalize upd J5 t3 (.tup [.str m,.str t'])=J6 at s6 e6;have Y:=A.same s6;apply⟨l,_,_,rfl,rfl,Y.1,by rw[ya,A.2.len];show qi (by lk),?_⟩;have ar:∀{c:Addr} {ab:Str×Str},J6 c=some (.tup [.str ab.1,.str ab.2])->c≠l:=fun e z=>by rw[z,Y.1] at e;cases e
       have n1:(m,t')∉j:=fun z=>by rw[yH z] at h1;cases h1
       have n2:(t',m)∉j:=fun z=>by rw[yH z] at W;cases W
       show⟨hi,fun c o aw ag e=>by rw[qh ag];show s6 _ _ (ae c o aw ag e),?_,⟨s++[t3],j++[(m,t')],⟨by rw[qb,yL];rfl,?_⟩,L.snoc (ye an) bf (Yn bg) n1 n2 au⟩,_,_,_,_,rfl⟩
       .obtain⟨a1,a2,a3,a4,a5⟩:=(af.same s6).mono (show N+2*(C-(i+1))<=N+2*(C-i)-2 by lk);show⟨a1,a2,a3,by rw[qh (Yn Z)];show a4,a5⟩
       .show All2.snoc (Y.2.mono fun c ab z=>by rw[qh (ar z)];show z) ?_;rw[qh (ar (ab:=(m,t')) e6)];show e6
      .show U J5 D
     .show yq ?_;apply U J5 D
    .show yq ?_;apply U J4 s4
  .obtain⟨_,bJ,X,⟨s,j,M,L⟩,y3,y4,y5,y6,rfl⟩:=hp;show q s j J bJ M L
theorem Ke:FnScope ["_law_script","_law_most","_law_box_here","_law_names_here","_law_ties","_law_cell"] ["_law_script","_law_most"] (qg qbj):=fS
theorem ok_wbA(F:Fun K "_law_web" "_law_web" qbj f fd)(T:Txt K mg cc cw)(Kp:DefOk P w K mg base CX0 1 "_law_at" ["_law_script","_law_k"] (spCe K))(Kq:DefOk P w K mg base CX0 1 "_law_box" ["_law_cell"] spPu)(ky:DefOk P w K mg base CX0 1 "_law_take" ["_law_box_here","_law_many"] spTkN)
  (KU:DefOk P w K mg base CX0 2 "_law_names" ["_law_box_here","_law_many"] spNmA) (KE:DefOk P w K mg base CX0 2 "_law_more_ties" ["_law_box_here","_law_names_here","_law_ties"] spMtA):FnOk P w K mg base CX0 3 f fd ["_law_script","_law_most"] (spWbA K):=by
 show F.ok Ke fun _ _ _ _ H vs Q E u h=>?_
 .obtain⟨a,r,rfl,hS,bb,q⟩:=h;have hu:=zC u;show⟨_,(qc (qm (i:=2) Ke.nd rfl (yN rfl) (qk Kq (hmR u) qx (qa (qk Kp (hmR u) qx (qa (pv 0) (qa qe qd))) qd)))
 (qc (qm (i:=3) Ke.nd rfl (yN rfl) (qk KU (hmR u) qx (qa (pv 2) (qa (qk ky (hmR u) qx (qa (pv 2) (qa (qu (qv (K:=K) rfl hu) (jo (qa qe (qa qe (qa qe (qa qe (qa (qB (jH (K:=K) rfl) (pv 1) qe) qd)))))) (qk ky (hmR u) qx (qa (pv 2) (qa qe qd))) (fun _ _=>rfl)) qd))) qd))))
 (qc (qm (i:=4) Ke.nd rfl (yN rfl) (jo qd))
 (qc (jc yQ rfl (qP (K:=K) rfl (qB (jH (K:=K) rfl) (jy (qdz (K:=K) rfl) (pv 0) (jE qe) (jE qe)) (jo (qa (qk Kp (hmR u) qx (qa (pv 0) (qa qe qd))) (qa (qk Kp (hmR u) qx (qa (pv 0) (qa qe qd))) qd))))) (qo (i:=5) Ke.nd rfl (yN rfl))
 (qf (qM (qt qcH (qr (jW (K:=K) rfl) rfl T.b_len YF (qa (pv 3) qd)) qe (qy _)) (qf (zh (qk KE (hmR u) qx (qa (qk Kq (hmR u) qx (qa (pv 5) qd)) (qa (pv 3) (qa (pv 4) qd)))))) qw)))
 (qf (qq (jw (qa (pv 3) (qa (pv 4) qd))))))))),?_⟩
  apply⟨a,r,0,rfl,hS,by decide,fun c0=>?_⟩;apply⟨c0,rfl,fun p H1 s1 I hB1=>?_⟩;apply⟨by show 5<=sizeLine;decide,fun m2 Y=>?_⟩;have av:=hB1.apart Y;have s2:=qG (Sr H1) (o:=.lst ([5,8,8,8,15].map iV)) Y;have em:upd H1 m2 (.lst ([5,8,8,8,15].map iV)) m2=some (.lst ([5,8,8,8,15].map iV)):=qb;have eu:upd H1 m2 (.lst [V.int 5,V.int 8,V.int 8,V.int 8,V.int (14+1)])=upd H1 m2 (.lst ([5,8,8,8,15].map iV)):=rfl;rw[eu];generalize upd H1 m2 (.lst ([5,8,8,8,15].map iV))=H2 at s2 em;apply⟨p,5,999999999999,rfl,hB1.same s2,by decide,by decide,fun d H3 hd b3 ao=>?_⟩;obtain⟨x,M⟩:∃ x,[5,8,8,8,15][d]?=some x:=⟨_,yb (by simpa using hd)⟩
  have ac:0<x/\x<=15:=by
   have:=ye M;simp only[yE,yZ,Y2] at this;lk
  show .inl (za (b3 _ _ av em) (v:=iV x) (qp (by rw[yd,M];rfl)) ?_);apply⟨p,x,999999999998,rfl,ao,ac.1,by lk,fun m H4 hm b4 ap=>?_⟩;apply⟨p,m,1,rfl,ap.mono (by decide),by lk,fun n ss N b5 aq aw bd D hO bf=>?_⟩;apply⟨by show 0<=sizeLine;decide,fun l hl=>?_⟩;have bc:=aq.apart hl;have A:n≠l:=fun z=>by rw[z,hl] at D;cases D
  have ag:But p H1 H3:=fun c o hc e=>b3 c o hc (s2 c o e);have ai:But p H1 N:=(ag.trans7 b4).trans7 b5;have ad:L2.Same H N:=fun c o e=>ai c o (fun z=>by rw[z,I] at e;cases e) (s1 c o e);have W:=ad.free hl
  have ax:H n=none:=by
   show(Same.free (H':=H4) (fun c o e=>b4 c o (fun z=>by rw[z,I] at e;cases e) (b3 c o (fun z=>by rw[z,I] at e;cases e) (s2 c o (s1 c o e)))) aw)
  have s6:=qG (Sr N) (o:=.lst ([]:List V)) hl;have s:=ad.trans s6;have el:upd N l (.lst []) l=some (.lst ([]:List V)):=qb;have Z:=s6 _ _ D;generalize upd N l (.lst [])=H6 at s6 s el Z;apply .inl ⟨a,_,rfl,s.seq hS,fun k au=>?_⟩
  obtain⟨j,al,be⟩:∃ j:LQ,qcM (r.map V.int) (some 1) (some 61)=j.map V.int/\j.length<=60:=by
   show⟨(r.drop (HT.sIx r.length 0 (some 1))).take (HT.sIx r.length r.length (some 61)-HT.sIx r.length 0 (some 1)),?_,?_⟩
   .unfold qcM;rw[ya,<- List.map_drop,<- List.map_take]
   .rw [yI];have h1:=HT.sIx_nat r.length r.length 61;have h2:=HT.sIx_nat r.length 0 1;rw[show((61:Nat):Int)=61 from rfl] at h1;rw[show((1:Nat):Int)=1 from rfl] at h2;rw[h1,h2];lk
  rw[al];have s7:=qG (Sr H6) (o:=.lst (j.map V.int)) au;have S:upd H6 k (.lst (j.map V.int)) k=some (.lst (j.map V.int)):=qb;generalize upd H6 k (.lst (j.map V.int))=H7 at s7 S;apply⟨a,r,61,rfl,(s.trans s7).seq hS,by decide,fun b=>?_⟩;apply⟨a,r,62,rfl,(s.trans s7).seq hS,by decide,fun g=>?_⟩;apply⟨by show 2<=sizeLine;decide,fun k2 R=>?_⟩;have s8:=qG (Sr H7) (o:=.lst [.int b,.int g]) R;have U:upd H7 k2 (.lst [.int b,.int g]) k2=some (.lst [.int b,.int g]):=qb;generalize upd H7 k2 (.lst [.int b,.int g])=H8 at s8 U;show .inl ⟨k,k2,_,_,rfl,rfl,s8 _ _ S,U,by rw[ya];show yR (qi (by simp only[yM,Ym];lk)),fun lc C=>?_⟩;have aj:j.map V.int++[.int b,.int g]=(j++[b,g]).map V.int:=by rw[yL];rfl
  rw[aj];have ae:=s7.trans s8;have s9:=qG ae (o:=.lst ((j++[b,g]).map V.int)) C;have e9:upd H8 lc (.lst ((j++[b,g]).map V.int)) lc=some (.lst ((j++[b,g]).map V.int)):=qb;have X:lc≠l:=fun z=>by rw[z,ae _ _ el] at C;cases C
  generalize upd H8 lc (.lst ((j++[b,g]).map V.int))=H9 at s9 e9;generalize j++[b,g]=cs at e9;have aa:=s9 _ _ Z;have ak:=s9 _ _ el;show .inl ⟨⟨_,.of e9⟩,qQ (xs:=cs.map V.int) (fun i σ J=>But l H9 J/\(∃ ts tps,PL J l ts tps/\DT ss tps)/\∃ y2 y5,σ=[some (.ref a),some (.int 14),y2,some (.ref n),some (.ref l),y5]) ⟨fun c o _ e=>e,⟨[],[],⟨ak,.nil⟩,DT.nil ss⟩,_,_,rfl⟩ (fun i σ J _ hp=>.of (hp.1 _ _ X e9)) (fun i y σ J hy hp=>?_) fun σ J hp=>?_⟩
  .obtain⟨B,⟨ts,tps,O,hD⟩,y2,y5,rfl⟩:=hp;rw[yd] at hy;obtain⟨c,hc,rfl⟩:=yn.mp hy;have G:=B _ _ A aa;apply qaa G ?_;rw[ya];apply qT (fun h1=>?_) (fun h1=>?_)
   .have am:1<ss.length:=by have:=yk h1;lk
    apply⟨c,rfl,fun p2 J1 L ay an=>?_⟩;have ne:∀{x:Addr} {o:HO},J x=some o->x≠p2:=fun e z=>by rw[z,ay] at e;cases e
    apply⟨p2,n,l,ss,ts,tps,1,rfl,an.mono (by decide),ne G,ne O.1,A,L _ _ G,hO,am,O.same L,hD,fun ba af J2 b2 as ar=>?_⟩;apply⟨fun x o M e=>b2 x o (ne (B x o M e)) M (L _ _ (B x o M e)),⟨ba,af,as,ar⟩,_,_,rfl⟩
   .show⟨B,⟨ts,tps,O,hD⟩,_,_,rfl⟩
  .obtain⟨B,⟨ts,tps,O,hD⟩,y2,y5,rfl⟩:=hp;apply⟨by show 2<=sizeLine;decide,fun t ht=>?_⟩;have sT:=qG (Sr J) (o:=.tup [.ref n,.ref l]) ht;have az:L2.Same H J:=fun c o e=>B c o (fun z=>by rw[z,W] at e;cases e) (s9 _ _ (s c o e));show q t n l ss ts tps _ (az.trans sT) qb ax W A (sT _ _ (B _ _ A aa)) hO (O.same sT) hD
theorem kI:FnScope ["_law_box_here","_law_ties","_law_left","_law_free","_law_pairs_here","_law_one","_law_other"] ["_law_box_here","_law_ties"] (qg zU):=fS
theorem kL:FnScope ["_law_pairs_here","_law_found","_law_one","_law_other"] ["_law_pairs_here"] (qg jS):=fS
theorem qeH{c:TE}{b:TGs}{D:Ends}{a:L2.St}(h:c a H fun x H1=>qeI K n b x a H1 D.nx):qef c (qeI K n b) D a H:=h
structure DP(tps qs:LP):Prop where
 nd:(qj qs).Nodup
 ok:∀ q∈qs,q∈tps\/(q.2,q.1)∈tps
 few:qs.length<=30
inductive spPrA(vs:List V)(H:Hp)(Q:VK)(E:XK):Prop|mk (p l:Addr) (ss:LS) (ts:LI) (tps:LP) (N:Nat) (_:vs=[.ref p,.ref l]) (_:Pn (N+90) H p) (_:l≠p) (_:PL H l ts tps) (_:DT ss tps) (_:∀(r:Addr) (us:LI) (qs:LP) (H':Hp),But p H H'->Pn N H' p->H r=none->r≠p->PL H' r us qs->DP tps qs->Q (.ref r) H')
inductive spPtA(vs:List V)(H:Hp)(Q:VK)(E:XK):Prop|mk (r:Addr) (us:LI) (qs:LP) (_:vs=[.ref r]) (_:PL H r us qs) (_:(qj qs).Nodup) (_:qs.length<=1000) (_:∀(d:Addr) (H':Hp),L2.Same H H'->H d=none->H' d=some (.dK (prK qs))->Q (.ref d) H')
theorem qdX{k:Nat}(h:k<n):seqIndex? (k:Int) n=some k:=by
 unfold seqIndex?;simp;lk
theorem ok_ptA(F:Fun K "_law_partners" "_law_partners" jS f fd)(T:Txt K mg cc cw):FnOk P w K mg base CX0 1 f fd ["_law_pairs_here"] spPtA:=by
 show F.ok kL fun _ _ _ _ H vs Q E N h=>?_
 .obtain⟨r,us,qs,rfl,c,t,M,q⟩:=h;have C:=zC N;show⟨_,(qc (qm (i:=1) kL.nd rfl (yN rfl) jz)
 (qc (jc yQ rfl (ki_lst (K:=K) rfl (pv 0)) (qbq rfl (jq (qo (i:=2) kL.nd rfl (yN rfl)) (jq (qo (i:=3) kL.nd rfl (yN rfl)) qao)))
 (qc (qV (pv 3) (jg (pv 1) (pv 2) (ji C)))
 (qf (qV (pv 2) (jg (pv 1) (pv 3) (ji C))))))
 (qf (qq (pv 1))))),?_⟩
  ext;intro d l;have u:=qG (Sr H) (o:=.dK []) l;have A:upd H d (.dK []) d=some (.dK (prK [])):=qb;generalize upd H d (.dK [])=H1 at u A;apply viLst ?_;apply⟨r,_,rfl,.of (u _ _ c.1),qQ (xs:=us.map V.ref) (fun i n J=>L2.Same H J/\∃ v x,n=[some (.ref r),some (.ref d),v,x]/\J d=some (.dK (prK (qs.take i)))) ⟨u,_,_,rfl,A⟩ (fun i n J _ g=>.of (g.1 _ _ c.1)) (fun i y n J D g=>?_) fun n J g=>?_⟩
  .obtain⟨m,v,x,rfl,a⟩:=g;rw[yd] at D;obtain⟨b,hb,rfl⟩:=yn.mp D;have p:i<qs.length:=by rw[<- c.2.len];show(yc.mp hb).1
   obtain⟨ab,e⟩:∃ ab,qs[i]?=some ab:=⟨_,yb p⟩;have I:=m _ _ (c.2.at_ i b ab hb e);have j:qs.take (i+1)=qs.take i++[ab]:=by rw[yK,e];rfl
   have s:(qj (qs.take i++[ab])).Nodup:=by
    rw[<- j];have:qj qs=qj (qs.take (i+1))++qj (qs.drop (i+1)):=by unfold qj;rw[<- YV,xI]
    have B:=t;rw[this] at B;show(Yt.mp B).1
   have L:(prK (qs.take i)).length<=2000:=by rw[qaG,yI];lk
   show⟨b,_,rfl,.of I,rfl,_,_,rfl,_,_,rfl,rfl,?_⟩;apply .inr ⟨d,_,rfl,DPut.k (k:=Sum.inr ab.1) a (by rw[yX];lk),?_⟩;have G:=qbU m (o:=.dK (zm (prK (qs.take i)) (Sum.inr ab.1) (.str ab.2))) l;have z:upd J d (.dK (zm (prK (qs.take i)) (Sum.inr ab.1) (.str ab.2))) d=some (.dK (zm (prK (qs.take i)) (Sum.inr ab.1) (.str ab.2))):=qb;generalize upd J d (.dK (zm (prK (qs.take i)) (Sum.inr ab.1) (.str ab.2)))=O at G z;apply .inr ⟨d,_,rfl,DPut.k (k:=Sum.inr ab.2) z ?_,?_⟩
   .have:=qO (prK (qs.take i)) (Sum.inr ab.1:Key) (.str ab.2);rw[yX];lk
   .show⟨qbU G l,_,_,rfl,by rw[qb,qde s,j]⟩
  .obtain⟨m,v,x,rfl,a⟩:=g;rw[show(us.map V.ref).length=qs.length by rw[ya,c.2.len],yO] at a;apply q d J m l a
theorem ok_prA(F:Fun K "_law_pairs" "_law_pairs" zU f fd)(T:Txt K mg cc cw)(ky:DefOk P w K mg base CX0 1 "_law_take" ["_law_box_here","_law_many"] spTkN):FnOk P w K mg base CX0 2 f fd ["_law_box_here","_law_ties"] spPrA:=by
 show F.ok kI fun _ _ _ _ H vs Q E hr h=>?_
 .obtain⟨p,l,ss,ts,tps,N,rfl,hB,df,hP,hD,q⟩:=h;have hu:=zC hr;have db:=hD.few;show⟨_,(qc (qm (i:=2) kI.nd rfl (yN rfl) (zj (qb5 (K:=K) rfl rfl) rfl T.b_list Xo (qa (pv 1) qd)))
 (qc (qm (i:=3) kI.nd rfl (yN rfl) jz)
 (qc (qm (i:=4) kI.nd rfl (yN rfl) (jo qd))
 (qc (qa6 yQ (qt (qaA (K:=K) rfl hu) (pv 2) (jo qd) (qy _))
 (qc (qV (qc3 (K:=K) rfl Yj PySem.F.slot_list_pop PySem.F.type_list_pop qbJ (pv 2) (qa (qk ky (hmR hr) qx (qa (pv 0) (qa (qr (jW (K:=K) rfl) rfl T.b_len YF (qa (pv 2) qd)) qd))) qd)) (qbq rfl (jq (qo (i:=5) kI.nd rfl (yN rfl)) (jq (qo (i:=6) kI.nd rfl (yN rfl)) qao))))
 (qf (qM (PW.pt (qaL (qt (j5 (K:=K) rfl hu) (pv 5) (pv 3) (by with_unfolding_all rfl)) (qaL (qt (j5 (K:=K) rfl hu) (pv 6) (pv 3) (by with_unfolding_all rfl)) (qa5 (qt qcH (qk ky (hmR hr) qx (qa (pv 0) (qa qe qd))) qe (qy _)))))) (qc (qV jx (jg (pv 3) (pv 5) (ji hu)))
 (qc (qV jx (jg (pv 3) (pv 6) (ji hu)))
 (qf (zh (qc3 (K:=K) rfl Yj Yr Ys jp (pv 4) (qa (qu (qv (K:=K) rfl hu) (jo (qa (jw (qa (pv 5) (qa (pv 6) qd))) (qa (jw (qa (pv 6) (qa (pv 5) qd))) qd))) (qk ky (hmR hr) qx (qa (pv 0) (qa qe qd))) (fun _ _=>rfl)) qd)))))) qw))))
 (qf (qq (pv 4))))))),?_⟩
  apply .inl ⟨l,_,rfl,.inl (.of hP.1),fun j bi=>?_⟩;have aq:=hB.apart bi;have s1:=qG (Sr H) (o:=.lst (ts.map V.ref)) bi;have e1:upd H j (.lst (ts.map V.ref)) j=some (.lst (ts.map V.ref)):=qb;generalize upd H j (.lst (ts.map V.ref))=H1 at s1 e1;ext;intro a ae;have s2:=qG (Sr H1) (o:=.dK []) ae;have S:upd H1 a (.dK []) a=some (.dK (ze [])):=qb;generalize upd H1 a (.dK [])=H2 at s2 S;apply⟨by show 0<=sizeLine;decide,fun s D=>?_⟩;have s3:=qG (Sr H2) (o:=.lst []) D;have e3:upd H2 s (.lst []) s=some (.lst (([]:LI).map V.ref)):=qb;generalize upd H2 s (.lst [])=H3 at s3 e3;have bq:=s1.trans s2;have br:=bq.trans s3;have ce:=s1.free ae;have ay:=bq.free D;have ai:=(hB.same bq).apart D;have cj:j≠s:=fun z=>by rw[<- z,s2 _ _ e1] at D;cases D
  have ci:a≠s:=fun z=>by rw[<- z,S] at D;cases D
  have ch:a≠j:=fun z=>by rw[z,e1] at ae;cases ae
  have ap:=(hB.same s1).apart ae;ext;obtain⟨W,am⟩:∃ W:Nat->L2.St->Hp->Prop,W=fun m σ J=>∃(us:LI) (b qs:LP) (ps:LI) (seen:LS) (y5 y6:Option V),σ=[some (.ref p),some (.ref l),some (.ref j),some (.ref a),some (.ref s),y5,y6]/\But p H J/\PL J j us b/\(∀ ab∈b,ab∈tps)/\J a=some (.dK (ze seen))/\(∀ n,n∈seen↔n∈qj qs)/\seen.length<=60/\PL J s ps qs/\(qj qs).Nodup/\(∀ q∈qs,q∈tps\/(q.2,q.1)∈tps)/\qs.length+us.length<=30/\seen.length=2*qs.length/\Pn (N+3*us.length) J p/\us.length<=m:=⟨_,rfl⟩;show⟨W,⟨ts.length,by rw[am];show⟨ts,tps,[],[],[],_,_,rfl,fun c o _ e=>br c o e,⟨s3 _ _ (s2 _ _ e1),hP.2.mono fun _ _ z=>br _ _ z⟩,fun _ h=>h,s3 _ _ S,fun n=>Iff.rfl,by decide,⟨e3,.nil⟩,.nil,(fun _ h=>by cases h),by have:=hP.2.len;simp;lk,rfl,(hB.same br).mono (by have:=hP.2.len;lk),yh _⟩⟩,fun m σ J hW=>?_⟩;rw[am] at hW;obtain⟨us,b,qs,ps,seen,y5,y6,rfl,bJ,C,cg,cq,af,cy,bh,bj,bm,di,cx,bg,hm⟩:=hW;have dj:=C.2.len;apply⟨by show 0<=sizeLine;decide,fun e ct=>?_⟩;have s4:=qG (Sr J) (o:=.lst []) ct;have ee:upd J e (.lst []) e=some (.lst []):=qb;generalize upd J e (.lst [])=J4 at s4 ee;show qdT (s4 _ _ C.1) ee ?_
  cases us with
  | nil =>
   apply yq ?_;ext;have b4:But p H J4:=fun c o hc z=>s4 _ _ (bJ c o hc z);show q s ps qs J4 b4 ((bg.same s4).mono (by simp)) ay ai (bh.same s4) ⟨bj,bm,by lk⟩
  | cons u0 us0 =>
   have dk:(u0::us0).length<=30:=by lk
   generalize O:(u0::us0).length=X at *;have dg:0<X:=by rw[<- O];simp
   generalize u0::us0=us at *
   have cu:(!(us.map V.ref).isEmpty)=true:=by
    cases us with
    | nil=>simp at O;lk
    | cons _ _=>rfl
   rw[cu];apply qbT ⟨fun cn H'=>∃ m',m'<m/\W m' cn H',fun cn H' z=>z,?_⟩;apply qeH ?_;apply⟨.inl ⟨rfl,_,.of (s4 _ _ C.1)⟩,?_⟩;apply qaa (s4 _ _ C.1) ?_;rw[ya,O];apply⟨p,X,N+3*X-1,rfl,(bg.same s4).mono (by lk),by lk,by lk,fun d J5 hd b5 cs=>?_⟩;have ck:∀{c:Addr} {ab:Str×Str},J c=some (.tup [.str ab.1,.str ab.2])->c≠p:=fun z e=>by obtain⟨u,v,w,S,_⟩:=bg;rw[e,S] at z;cases z
   have R:But p J J5:=fun c o hc z=>b5 _ _ hc (s4 c o z);have I:PL J5 j us b:=⟨R _ _ aq C.1,C.2.mono fun _ _ z=>R _ _ (ck z) z⟩;have aw:PL J5 s ps qs:=⟨R _ _ ai bh.1,bh.2.mono fun _ _ z=>R _ _ (ck z) z⟩;have bz:=R _ _ ap cq;obtain⟨u,cf⟩:∃ u,us[d]?=some u:=⟨_,yb (by lk)⟩;obtain⟨ab,cd⟩:∃ ab,b[d]?=some ab:=⟨_,yb (by rw[<- C.2.len];lk)⟩;have ca:=I.2.at_ d u ab cf cd;have ad:=cg ab (ye cd);show⟨j,_,(d:Int),d,.ref u,rfl,rfl,I.1,by lk,by lk,qdX (by rw[ya];lk),by rw[yd,cf];rfl,?_⟩;rw[qaF];have bo:∀{c:Addr} {q:Str×Str},J5 c=some (.tup [.str q.1,.str q.2])->c≠j:=fun z e=>by rw[e,I.1] at z;cases z
   have e6:upd J5 j (.lst ((us.eraseIdx d).map V.ref)) j=some (.lst ((us.eraseIdx d).map V.ref)):=qb;have k6:∀ c o,c≠j->J5 c=some o->upd J5 j (.lst ((us.eraseIdx d).map V.ref)) c=some o:=fun c o hc z=>by rw[qh hc];show z
   generalize upd J5 j (.lst ((us.eraseIdx d).map V.ref))=Y at e6 k6;have L:PL Y j (us.eraseIdx d) (b.eraseIdx d):=⟨e6,(I.2.erase d).mono fun _ _ z=>k6 _ _ (bo z) z⟩;have M:PL Y s ps qs:=⟨k6 _ _ (Yn cj) aw.1,aw.2.mono fun _ _ z=>k6 _ _ (bo z) z⟩;have G:=k6 _ _ ch bz;have cr:=k6 _ _ (bo ca) ca
   have aa:Pn (N+3*X-1) Y p:=by
    obtain⟨a1,a2,a3,a4,a5⟩:=cs;show⟨a1,a2,a3,k6 _ _ (Yn aq) a4,a5⟩
   have bw:But p H Y:=fun c o hc z=>k6 _ _ (fun e=>by rw[e,bi] at z;cases z) (R _ _ hc (bJ c o hc z));have de:(us.eraseIdx d).length=X-1:=by rw[xP,O,yF (by lk)]
   have az:∀ q∈b.eraseIdx d,q∈tps:=fun q hq=>cg q (List.mem_of_mem_eraseIdx hq)
   have be:∀ B,But p Y B->Pn (N+3*X-3) B p->(∀ c o,c=j\/c=a\/c=s->Y c=some o->B c=some o)->∃ m',m'<m/\W m' [some (V.ref p),some (.ref l),some (.ref j),some (.ref a),some (.ref s),some (.str ab.1),some (.str ab.2)] B:=fun B Z al k7=>by
    have A:∀{c:Addr} {ab:Str×Str},Y c=some (.tup [.str ab.1,.str ab.2])->c≠p:=fun z e=>by obtain⟨u,v,w,S,_⟩:=aa;rw[e,S] at z;cases z
    show⟨X-1,by lk,?_⟩;rw[am];show⟨us.eraseIdx d,b.eraseIdx d,qs,ps,seen,_,_,rfl,bw.trans7 Z,⟨k7 _ _ (.inl rfl) L.1,L.2.mono fun _ _ z=>Z _ _ (A z) z⟩,az,k7 _ _ (.inr (.inl rfl)) G,af,cy,⟨k7 _ _ (.inr (.inr rfl)) M.1,M.2.mono fun _ _ z=>Z _ _ (A z) z⟩,bj,bm,by lk,cx,al.mono (by lk),by lk⟩
   show⟨u,_,rfl,.of cr,rfl,_,_,rfl,_,_,rfl,rfl,?_⟩;have bx:∀ n:Str,(jG (ze seen) (Sum.inr n:Key)).isSome=decide (n∈qj qs):=fun n=>by rw[jt];show Yx.mpr (af n)
   apply .inr (.inl ⟨a,_,rfl,DGet.k (k:=Sum.inr ab.1) G,?_⟩);rw[yF rfl,bx];apply qT (fun h1=>?_) (fun h1=>?_)
   .have n1:ab.1∉qj qs:=fun z=>by rw[yH z] at h1;cases h1
    apply .inr (.inl ⟨a,_,rfl,DGet.k (k:=Sum.inr ab.2) G,?_⟩);rw[yF rfl,bx];apply qT (fun h2=>?_) (fun h2=>?_)
    .have n2:ab.2∉qj qs:=fun z=>by rw[yH z] at h2;cases h2
     apply⟨p,5,N+3*X-2,rfl,aa.mono (by lk),by decide,by decide,fun d2 B dc Z al=>?_⟩;have A:∀{c:Addr} {ab:Str×Str},Y c=some (.tup [.str ab.1,.str ab.2])->c≠p:=fun z e=>by obtain⟨u,v,w,S,_⟩:=aa;rw[e,S] at z;cases z
     have ao:∀ c o,c=j\/c=a\/c=s->Y c=some o->B c=some o:=fun c o hc z=>by
      rcases hc with rfl | rfl | rfl
      .show Z _ _ aq z
      .show Z _ _ ap z
      .show Z _ _ ai z
     apply qT (fun h3=>?_) (fun h3=>?_)
     .have bn:=hD.ok ab ad;have m1:ab.1∉seen:=fun z=>n1 ((af _).mp z);have m2:ab.2∉seen:=fun z=>n2 ((af _).mp z);have ar:=ao _ _ (.inr (.inl rfl)) G;have ax:PL B s ps qs:=⟨ao _ _ (.inr (.inr rfl)) M.1,M.2.mono fun _ _ z=>Z _ _ (A z) z⟩;have au:PL B j (us.eraseIdx d) (b.eraseIdx d):=⟨ao _ _ (.inl rfl) L.1,L.2.mono fun _ _ z=>Z _ _ (A z) z⟩;have co:=bw.trans7 Z;apply .inr ⟨a,_,rfl,DPut.k (k:=Sum.inr ab.1) ar (qi (by unfold ze;rw[ya];lk)),?_⟩;rw[zx m1];have e8:upd B a (.dK (ze (seen++[ab.1]))) a=some (.dK (ze (seen++[ab.1]))):=qb;have k8:∀ c o,c≠a->B c=some o->upd B a (.dK (ze (seen++[ab.1]))) c=some o:=fun c o hc z=>by rw[qh hc];show z
      generalize upd B a (.dK (ze (seen++[ab.1])))=J8 at e8 k8;apply .inr ⟨a,_,rfl,DPut.k (k:=Sum.inr ab.2) e8 (qi (by unfold ze;rw[ya,yx];simp only[yM,Ym];lk)),?_⟩;rw[zx (fun z=>by rcases yB.mp z with z | z;show m2 z;show bn.2.2 (yA.mp z).symm)];have e9:upd J8 a (.dK (ze (seen++[ab.1]++[ab.2]))) a=some (.dK (ze (seen++[ab.1]++[ab.2]))):=qb;have k9:∀ c o,c≠a->B c=some o->upd J8 a (.dK (ze (seen++[ab.1]++[ab.2]))) c=some o:=fun c o hc z=>by rw[qh hc];show k8 _ _ hc z
      generalize upd J8 a (.dK (ze (seen++[ab.1]++[ab.2])))=J9 at e9 k9;have cm:∀{c:Addr} {q:Str×Str},B c=some (.tup [.str q.1,.str q.2])->c≠a:=fun z e=>by rw[e,ar] at z;cases z
      have ac:PL J9 s ps qs:=⟨k9 _ _ (Yn ci) ax.1,ax.2.mono fun _ _ z=>k9 _ _ (cm z) z⟩;have av:PL J9 j (us.eraseIdx d) (b.eraseIdx d):=⟨k9 _ _ (Yn ch) au.1,au.2.mono fun _ _ z=>k9 _ _ (cm z) z⟩
      have bf:Pn (N+3*X-2) J9 p:=by
       obtain⟨a1,a2,a3,a4,a5⟩:=al;show⟨a1,a2,a3,k9 _ _ (Yn ap) a4,a5⟩
      have cp:But p H J9:=fun c o hc z=>k9 _ _ (fun e=>by rw[e,ce] at z;cases z) (co c o hc z);apply⟨.inl ⟨rfl,_,.of ac.1⟩,?_⟩;apply⟨by show 2<=sizeLine;decide,fun t1 cz=>?_⟩;have bu:=qG (Sr J9) (o:=.tup [.str ab.1,.str ab.2]) cz;have bc:upd J9 t1 (.tup [.str ab.1,.str ab.2]) t1=some (.tup [.str ab.1,.str ab.2]):=qb;generalize upd J9 t1 (.tup [.str ab.1,.str ab.2])=J10 at bu bc;apply⟨by show 2<=sizeLine;decide,fun t2 da=>?_⟩;have aj:=qG (Sr J10) (o:=.tup [.str ab.2,.str ab.1]) da;have bd:upd J10 t2 (.tup [.str ab.2,.str ab.1]) t2=some (.tup [.str ab.2,.str ab.1]):=qb;generalize upd J10 t2 (.tup [.str ab.2,.str ab.1])=J11 at aj bd;apply⟨by show 2<=sizeLine;decide,fun g hg=>?_⟩;have U:=qG (Sr J11) (o:=.lst [.ref t1,.ref t2]) hg;have eg:upd J11 g (.lst [.ref t1,.ref t2]) g=some (.lst [.ref t1,.ref t2]):=qb;generalize upd J11 g (.lst [.ref t1,.ref t2])=J12 at U eg;have s9:=(bu.trans aj).trans U;have as:=bf.same s9;have pg:g≠p:=(bf.same (bu.trans aj)).apart hg;apply⟨p,2,N+3*X-3,rfl,as.mono (by lk),by decide,by decide,fun d3 J13 dd ak cb=>?_⟩;have ag:∀{c:Addr} {ab:Str×Str},J12 c=some (.tup [.str ab.1,.str ab.2])->c≠p:=fun z e=>by obtain⟨u,v,w,S,_⟩:=as;rw[e,S] at z;cases z
      obtain⟨t,q0,ht,et,an⟩:∃(t:Addr) (q0:Str×Str),[V.ref t1,.ref t2][d3]?=some (.ref t)/\J13 t=some (.tup [.str q0.1,.str q0.2])/\(q0=ab\/q0=(ab.2,ab.1)):=by
       have h2:d3=0\/d3=1:=by lk
       rcases h2 with rfl | rfl
       .show⟨t1,ab,rfl,ak _ _ (ag (U _ _ (aj _ _ bc))) (U _ _ (aj _ _ bc)),.inl rfl⟩
       .show⟨t2,(ab.2,ab.1),rfl,ak _ _ (ag (ab:=(ab.2,ab.1)) (U _ _ bd)) (U _ _ bd),.inr rfl⟩
      show .inl (za (ak _ _ pg eg) (v:=.ref t) (qp ht) ?_);have r:But p J9 J13:=fun c o hc z=>ak _ _ hc (s9 c o z);have ba:∀{c:Addr} {ab:Str×Str},J9 c=some (.tup [.str ab.1,.str ab.2])->c≠p:=fun z e=>by obtain⟨u,v,w,S,_⟩:=bf;rw[e,S] at z;cases z
      have hPP13:PL J13 s ps qs:=⟨r _ _ ai ac.1,ac.2.mono fun _ _ z=>r _ _ (ba z) z⟩;have hPL13:PL J13 j (us.eraseIdx d) (b.eraseIdx d):=⟨r _ _ aq av.1,av.2.mono fun _ _ z=>r _ _ (ba z) z⟩;have bb:=r _ _ ap e9;have bv:=cp.trans7 r;ext;have dh:=hPP13.2.len;show⟨s,_,_,rfl,rfl,hPP13.1,by rw[ya];show qi (by lk),?_⟩;have bp:∀{c:Addr} {q:Str×Str},J13 c=some (.tup [.str q.1,.str q.2])->c≠s:=fun z e=>by rw[e,hPP13.1] at z;cases z
      have cv:∀ n,n∈qj (qs++[q0])↔n∈qj qs\/n=ab.1\/n=ab.2:=fun n=>by
       rw[ju,yB];rcases an with rfl | rfl
       .simp
       .simp only[yE,yZ,Y2];constructor
        .rintro (z | z | z)
         .show .inl z
         .show .inr (.inr z)
         .show .inr (.inl z)
        .rintro (z | z | z)
         .show .inl z
         .show .inr (.inr z)
         .show .inr (.inl z)
      show⟨X-1,by lk,?_⟩;rw[am];show⟨us.eraseIdx d,b.eraseIdx d,qs++[q0],ps++[t],seen++[ab.1]++[ab.2],_,_,rfl,fun c o hc z=>?_,⟨?_,?_⟩,az,?_,fun n=>?_,?_,⟨by rw[qb,yL];rfl,?_⟩,?_,fun q hq=>?_,?_,?_,?_,by lk⟩
      .rw [qh (fun e=>by rw[e,ay] at z;cases z)];show bv c o hc z
      .rw [qh cj];show hPL13.1
      .show hPL13.2.mono fun _ _ z=>by rw[qh (bp z)];show z
      .rw [qh ci];show bb
      .rw [cv n,yB,yB,af n];simp only[yE,yZ,Y2];show or_assoc
      .simp only[yx,yM,Ym];lk
      .show All2.snoc (hPP13.2.mono fun _ _ z=>by rw[qh (bp z)];show z) (by rw[qh (bp et)];show et)
      .rw [ju];show Yt.mpr ⟨bj,?_,fun x hx y hy e=>?_⟩
       .rcases an with rfl | rfl
        .simp [bn.2.2]
        .simp [Yn bn.2.2]
       .subst e;rcases an with rfl | rfl
        .simp only[yE,yZ,Y2] at hy;rcases hy with rfl | rfl
         .show n1 hx
         .show n2 hx
        .simp only[yE,yZ,Y2] at hy;rcases hy with rfl | rfl
         .show n2 hx
         .show n1 hx
      .rcases yB.mp hq with z | z
       .show bm q z
       .rw [yA.mp z];rcases an with rfl | rfl
        .show .inl ad
        .show .inr ad
      .rw [yx];simp only[yM,Ym];lk
      .simp only[yx,yM,Ym];lk
      .obtain⟨a1,a2,a3,a4,a5⟩:=cb.mono (show N+3*(us.eraseIdx d).length<=N+3*X-3 by lk);show⟨a1,a2,a3,by rw[qh (Yn ai)];show a4,a5⟩
     .show be B Z (al.mono (by lk)) ao
    .show yq ?_;apply be Y (fun c o _ z=>z) (aa.mono (by lk)) fun c o _ z=>z
   .show yq ?_;apply be Y (fun c o _ z=>z) (aa.mono (by lk)) fun c o _ z=>z
theorem fil_drop(d:ss.Nodup)(i:Nat)(C:Str->Bool):ss.filter (fun o=>decide (i<ss.idxOf o)&&C o)=(ss.drop (i+1)).filter C:=by
 have e:ss.filter (fun o=>decide (i<ss.idxOf o)&&C o)=(ss.take (i+1)).filter (fun o=>decide (i<ss.idxOf o)&&C o)++(ss.drop (i+1)).filter (fun o=>decide (i<ss.idxOf o)&&C o):=by
  rw[<- y0,xI]
 rw[e]
 have f:(ss.take (i+1)).filter (fun o=>decide (i<ss.idxOf o)&&C o)=[]:=Xi.mpr fun o c=>by
  obtain⟨j,a⟩:=yf c
  have b:j<i+1:=by
   have:=(yc.mp a).1;rw[yI] at this;lk
  rw[List.getElem?_take,yF b] at a;rw[qdb d a,yl (by lk)];simp
 have g:(ss.drop (i+1)).filter (fun o=>decide (i<ss.idxOf o)&&C o)=(ss.drop (i+1)).filter C:=xL fun o c=>by
  obtain⟨j,a⟩:=yf c;rw[xY] at a;rw[qdb d a,yH (by lk)];simp
 rw[f,g,xE]
noncomputable def zd(ss:LS)(g:Str->Option Str)(i:Nat):LP:=((ss.drop (i+1)).filter fun t=>decide (g (ss.getD i "")=some t)).map fun t=>(ss.getD i "",t)
noncomputable def rsG(ss:LS)(g:Str->Option Str)(k:Nat):LP:=(List.range k).flatMap (zd ss g)
structure PF(tps:LP)(g:Str->Option Str):Prop where
 sym:∀ a b,g a=some b->g b=some a
 tie:∀ a b,g a=some b->(a,b)∈tps\/(b,a)∈tps
theorem PF.inn(h:PF tps g)(c:DT ss tps)(e:g a=some b):a∈ss/\b∈ss/\a≠b:=by
 rcases h.tie a b e with z | z
 .show c.ok _ z
 .obtain⟨x,y,n⟩:=c.ok _ z;show⟨y,x,Yn n⟩
theorem rs_dueG{c:Str×Str->Bool}(m:NOk ss)(p:Adj ss ns tps)(hc:∀ s o,c (s,o)=decide (g s=some o))(e:∀ s o,g s=some o->(s,o)∈tps\/(o,s)∈tps):(jR ss ns ss.length).filter c=rsG ss g ss.length:=by
 unfold jR rsG;rw[List.filter_flatMap]
 have j:∀ i∈List.range ss.length,(qed ss ns i).filter c=zd ss g i:=fun i b=>by
  have d:=YY.mp b;obtain⟨s,n⟩:∃ s,ss[i]?=some s:=⟨_,yb d⟩;have q:ss.getD i ""=s:=by rw[Yp,n];rfl
  unfold qed zd;rw[q,qab m.nd,xX,XR,XR,<- fil_drop m.nd]
  congr 1
  apply xL;intro o r;show(c (s,o)&&decide (i<ss.idxOf o)&&(ns.getD i 0).testBit (ss.idxOf o))=_;rw[hc];by_cases f:g s=some o
  .have hb:(ns.getD i 0).testBit (ss.idxOf o)=true:=by
    have hl:=xK r;have go:ss[ss.idxOf o]?=some o:=by rw[yb hl,XM]
    rw[p i _ s o n go];show e _ _ f
   rw[hb,yH f];simp
  .rw [yl f];simp
 have:∀ l:LN,(∀ i∈l,(qed ss ns i).filter c=zd ss g i)->(l.flatMap fun i=>(qed ss ns i).filter c)=l.flatMap (zd ss g):=fun l=>by
  induction l with
  | nil=>intro _;rfl
  | cons a l ih=>intro h;rw[List.flatMap_cons,List.flatMap_cons,h a yC,ih fun i b=>h i (yw _ b)]
 show this _ j
theorem qac(e:i<ss.length)(h:q∈zd ss g i):ss[i]?=some q.1/\g q.1=some q.2/\∃ j,i<j/\ss[j]?=some q.2:=by
 obtain⟨s,b⟩:∃ s,ss[i]?=some s:=⟨_,yb e⟩;have d:ss.getD i ""=s:=by rw[Yp,b];rfl
 unfold zd at h;rw[d] at h;obtain⟨t,f,rfl⟩:=YE.mp h;obtain⟨h1,c⟩:=yp.mp f;obtain⟨j,a⟩:=yf h1;rw[xY] at a;show⟨b,yk c,i+1+j,by lk,a⟩
theorem mem_rsG:(a,b)∈rsG ss g ss.length↔g a=some b/\∃ i j:Nat,i<j/\ss[i]?=some a/\ss[j]?=some b:=by
 unfold rsG;rw[xv];constructor
 .rintro ⟨i,f,h⟩;obtain⟨h1,c,j,m,d⟩:=qac (YY.mp f) h;show⟨c,i,j,m,h1,d⟩
 .rintro ⟨h,i,j,l,h1,c⟩;show⟨i,YY.mpr (yc.mp h1).1,?_⟩;have e:ss.getD i ""=a:=by rw[Yp,h1];rfl
  unfold zd;rw[e];show YE.mpr ⟨b,yp.mpr ⟨?_,yH h⟩,rfl⟩;show ye (i:=j-(i+1)) ?_;rw[xY,show i+1+(j-(i+1))=j by lk];show c
theorem qa1:∀{qs:LP},(∀ q∈qs,q.1≠q.2)->qs.Pairwise (fun q r=>q.1≠r.1/\q.1≠r.2/\q.2≠r.1/\q.2≠r.2)->(qj qs).Nodup
 | [],_,_=>List.nodup_nil
 | q::r,h,hp=>by
  obtain⟨j,l⟩:=Y4.mp hp;have i:=qa1 (fun x f=>h x (yw _ f)) l;show(q.1::q.2::qj r).Nodup
  have out:∀ n∈qj r,q.1≠n/\q.2≠n:=fun n g=>by
   obtain⟨x,f,e⟩:=xv.mp g;obtain⟨a,b,c,d⟩:=j x f;simp only[yE,yZ,Y2] at e;rcases e with rfl | rfl
   .show⟨a,c⟩
   .show⟨b,d⟩
  show yo.mpr ⟨fun z=>?_,yo.mpr ⟨fun z=>(out _ z).2 rfl,i⟩⟩;rcases yE.mp z with z | z
  .show h q yC z
  .show(out _ z).1 rfl
theorem qdY(d:NOk ss)(w:DT ss tps)(h:PF tps g):(qj (rsG ss g ss.length)).Nodup:=by
 show qa1 (fun q o=>?_) ?_
 .show(h.inn w (mem_rsG.mp o).1).2.2
 .unfold rsG;show List.pairwise_flatMap.mpr ⟨fun i m=>?_,?_⟩
  .have y:=YY.mp m;unfold zd;show YI.mpr ?_;have D:((ss.drop (i+1)).filter fun t=>decide (g (ss.getD i "")=some t)).Nodup:=(d.nd.sublist (List.drop_sublist _ _)).filter _;show xU (fun{a b} x hb l=>?_) D;have e:=yk (yp.mp x).2;have f:=yk (yp.mp hb).2;rw[e] at f;show absurd (ym f) l
  .show xU (fun{i j} m B A q o r C=>?_) (List.pairwise_lt_range (n:=ss.length));obtain⟨c,p,a,E,F⟩:=qac (YY.mp m) o;obtain⟨s,u,b,G,v⟩:=qac (YY.mp B) C;show⟨fun z=>?_,fun z=>?_,fun z=>?_,fun z=>?_⟩
   .rw [z] at c;have:=qD d.nd c s;lk
   .rw [z] at c;have:=qD d.nd c v;lk
   .have:=h.sym _ _ p;rw[z,u] at this;rw[<- ym this] at c;have:=qD d.nd c v;lk
   .have e:=h.sym _ _ p;have f:=h.sym _ _ u;rw[z,f] at e;rw[<- ym e] at c;have:=qD d.nd c s;lk
theorem qdk(m:NOk ss)(l:DT ss tps)(h:PF tps g):pt (rsG ss g ss.length)=g:=by
 funext a;show qbf fun b=>?_;rw[qdf (qdY m l h),mem_rsG,mem_rsG];constructor
 .rintro (⟨e,_⟩ | ⟨e,_⟩)
  .show e
  .show h.sym _ _ e
 .intro e;obtain⟨n,o,f⟩:=h.inn l e;obtain⟨i,c⟩:=yf n;obtain⟨j,d⟩:=yf o;rcases Nat.lt_trichotomy i j with z | z | z
  .show .inl ⟨e,i,j,z,c,d⟩
  .rw [z,d] at c;show absurd (ym c).symm f
  .show .inr ⟨h.sym _ _ e,j,i,z,d,c⟩
theorem qdZ(c:NOk ss)(d:DT ss tps)(h:PF tps g):DP tps (rsG ss g ss.length):=by
 have e:=qdY c d h;show⟨e,fun q b=>h.tie _ _ (mem_rsG.mp b).1,?_⟩
 have:=qK e (m:=ss) fun x f=>by
  obtain⟨q,b,a⟩:=xv.mp f;obtain⟨i,j,_⟩:=h.inn d (mem_rsG.mp b).1;simp only[yE,yZ,Y2] at a;rcases a with rfl | rfl
  .show i
  .show j
 rw[jJ] at this;have:=c.few;lk
theorem DP.pf(h:DP tps qs):PF tps (pt qs):=⟨fun a b e=>(qbQ h.nd).mp e,fun a b e=>by
 rcases qbP e with z | z
 .show h.ok _ z
 .show(h.ok _ z).symm⟩
theorem rev_at:rs.reverse[j]?=some s↔j<rs.length/\rs[rs.length-1-j]?=some s:=by
 constructor
 .intro h;have hl:=(yc.mp h).1;rw[xq] at hl;rw[List.getElem?_reverse hl] at h;show⟨hl,h⟩
 .rintro ⟨hl,h⟩;rw[List.getElem?_reverse hl];show h
theorem adjR.rev(h:adjR rs a b):adjR rs.reverse a b:=by
 obtain⟨j,z⟩:=h
 have d:∀{a b:Str},rs[j]?=some a->rs[j+1]?=some b->rs.reverse[rs.length-2-j]?=some b/\rs.reverse[rs.length-2-j+1]?=some a:=fun h1 c=>by
  have hl:=(yc.mp c).1;show⟨rev_at.mpr ⟨by lk,by rw[show rs.length-1-(rs.length-2-j)=j+1 by lk];show c⟩,rev_at.mpr ⟨by lk,by rw[show rs.length-1-(rs.length-2-j+1)=j by lk];show h1⟩⟩
 rcases z with⟨h1,c⟩ | ⟨h1,c⟩
 .show⟨_,.inr (d h1 c)⟩
 .show⟨_,.inl (d h1 c)⟩
theorem adjR.rev_iff:adjR rs.reverse a b↔adjR rs a b:=⟨fun h=>by have:=h.rev;rwa[List.reverse_reverse] at this,adjR.rev⟩
theorem TurnR.rev{f:Str->Option Str}(h:TurnR f rs):TurnR f rs.reverse:=by
 have l:=h.two;show⟨(List.reverse_perm rs).nodup_iff.mpr h.nd,by rw[xq];show l,h.sym,fun j r s t m a b=>?_,fun s t a b=>?_,fun s t a b=>?_⟩
 .obtain⟨e,c⟩:=rev_at.mp m;obtain⟨g,d⟩:=rev_at.mp a;obtain⟨n,i⟩:=rev_at.mp b;have:=h.alt (rs.length-1-(j+2)) t s r i (by rw[show rs.length-1-(j+2)+1=rs.length-1-(j+1) by lk];show d) (by rw[show rs.length-1-(j+2)+2=rs.length-1-j by lk];show c);constructor
  .show fun z y=>this.mp y z
  .show fun z=>Yl fun y=>z (this.mpr y)
 .obtain⟨e,c⟩:=rev_at.mp a;obtain⟨g,d⟩:=rev_at.mp b;show h.lst s t (by simpa using c) (by rw[show rs.length-2=rs.length-1-1 by lk];show d)
 .rw [xq] at a b;obtain⟨e,c⟩:=rev_at.mp a;obtain⟨g,d⟩:=rev_at.mp b;show h.fst s t (by rw[show(0:Nat)=rs.length-1-(rs.length-1) by lk];show c) (by rw[show(1:Nat)=rs.length-1-(rs.length-2) by lk];show d)
theorem flip_pf{f:Str->Option Str}(h:TurnR f rs)(c:∀ a b,g a=some b↔flipR f rs a b)(d:PF tps f)(i:∀ a b,adjR rs a b->(a,b)∈tps\/(b,a)∈tps):PF tps g:=
 ⟨fun a b e=>(c _ _).mpr (((c _ _).mp e).symm h),fun a b e=>by
  rcases(c _ _).mp e with⟨_,z⟩ | ⟨z,_⟩
  .show d.tie _ _ z
  .show i _ _ z⟩
theorem flT_due(d:NOk ss)(c:Adj ss ns tps)(h:TurnR (pt qs) rs)(e:∀ a b,g a=some b↔flipR (pt qs) rs a b)(f:PF tps g):flT (jR ss ns ss.length) qs rs=rsG ss g ss.length:=by
 unfold flT;show rs_dueG d c (fun s o=>?_) f.tie;have this:(s,o)∈flT [(s,o)] qs rs↔(s,o)∈[(s,o)]/\flipR (pt qs) rs s o:=flT_flip h;unfold flT at this;rw[yp] at this;simp only[yA,true_and] at this;show Y8.mpr (this.trans ((e s o).symm.trans xC.symm))
theorem kT:FnScope ["_law_names_here","_law_partners_here","_law_found","_law_k","_law_later"] ["_law_names_here","_law_partners_here"] (qg zz):=fS
theorem kH:FnScope ["_law_names_here","_law_pairs_here","_law_row","_law_partners_here","_law_found","_law_name","_law_k"] ["_law_names_here","_law_pairs_here","_law_row"] (qg j8):=fS
theorem qdl{n:Addr}{Q:VK}(a:H n=some (.lst (ss.map V.str)))(q:Q (.bl (!decide (z∈ss))) H):qeg K true (.str z) (.ref n) H Q:=
 .inl ⟨n,_,rfl,.inl (.of a),rfl,Yq.mpr fun x b=>by(obtain⟨s,_,rfl⟩:=YE.mp b;rfl),by rw[yF rfl,inV_str];show q⟩
inductive spRsG(vs:List V)(H:Hp)(Q:VK)(E:XK):Prop|mk (n d:Addr) (ss:LS) (kvs:List (Key×V)) (g:Str->Option Str) (_:vs=[.ref n,.ref d]) (_:H n=some (.lst (ss.map V.str))) (_:ss.length<=14) (_:H d=some (.dK kvs)) (_:(∀ s,jG kvs (.inr s:Key)=(g s).map V.str)) (_:∀(l:Addr) (ls:LI) (H':Hp),L2.Same H H'->H l=none->PL H' l ls (rsG ss g ss.length)->ls.length<=196->Q (.ref l) H')
inductive spFp(vs:List V)(H:Hp)(Q:VK)(E:XK):Prop|mk (n r a:Addr) (ss:LS) (us:LI) (qs:LP) (rs:LS) (g:Str->Option Str) (_:vs=[.ref n,.ref r,.ref a]) (_:H n=some (.lst (ss.map V.str))) (_:ss.length<=14) (_:PL H r us qs) (_:(qj qs).Nodup) (_:qs.length<=30) (_:H a=some (.lst (rs.map V.str))) (_:rs.length<=15) (_:TurnR (pt qs) rs) (_:(∀ a b,g a=some b↔flipR (pt qs) rs a b)) (_:∀(l:Addr) (ls:LI) (H':Hp),L2.Same H H'->H l=none->PL H' l ls (rsG ss g ss.length)->ls.length<=196->Q (.ref l) H')
def Fk(qs:LP)(rs:LS)(k:Nat)(s b:Str):Prop:=(s∉rs/\pt qs s=some b)\/((∃ j:Nat,j<k/\((rs[j]?=some s/\rs[j+1]?=some b)\/(rs[j]?=some b/\rs[j+1]?=some s)))/\pt qs s≠some b)
theorem Fk.flip{k:Nat}(h:Fk qs rs k s b):flipR (pt qs) rs s b:=h.elim .inl fun z=>.inr ⟨z.1.elim fun j y=>⟨j,y.2⟩,z.2⟩
theorem Fk.mono{k:Nat}(h:Fk qs rs k s b):Fk qs rs (k+1) s b:=h.elim .inl fun z=>.inr ⟨z.1.elim fun j y=>⟨j,Xg y.1,y.2⟩,z.2⟩
theorem Fk.all:Fk qs rs (rs.length-1) s b↔flipR (pt qs) rs s b:=by
 show⟨Fk.flip,fun h=>h.elim .inl fun z=>.inr ⟨?_,z.2⟩⟩;obtain⟨j,y⟩:=z.1;show⟨j,?_,y⟩;have:j+1<rs.length:=y.elim (fun x=>(yc.mp x.2).1) fun x=>(yc.mp x.2).1;lk
theorem Fk.put{k:Nat}(d:TurnR (pt qs) rs)(h:rs[k]?=some u)(f:rs[k+1]?=some t)(a:pt qs u≠some t)(o:∀ s b,g s=some b↔Fk qs rs k s b) :
  (if s=t then some u else if s=u then some t else g s)=some b↔Fk qs rs (k+1) s b:=by
 have m:Fk qs rs (k+1) t u:=.inr ⟨⟨k,YN k,.inr ⟨h,f⟩⟩,fun z=>a (d.sym _ _ z)⟩;have n:Fk qs rs (k+1) u t:=.inr ⟨⟨k,YN k,.inl ⟨h,f⟩⟩,a⟩;by_cases h1:s=t
 .subst h1;rw[yF rfl];show⟨fun e=>by rw[<- ym e];show m,fun e=>by rw[flipR.one d m.flip e.flip]⟩
 .rw [yz h1];by_cases c:s=u
  .subst c;rw[yF rfl];show⟨fun e=>by rw[<- ym e];show n,fun e=>by rw[flipR.one d n.flip e.flip]⟩
  .rw [yz c,o];show⟨Fk.mono,fun e=>e.elim .inl fun z=>.inr ⟨?_,z.2⟩⟩;obtain⟨j,q,y⟩:=z.1;by_cases p:j=k
   .subst p;rcases y with⟨i,l⟩ | ⟨i,l⟩
    .rw [h] at i;show absurd (ym i).symm c
    .rw [f] at l;show absurd (ym l).symm h1
   .show⟨j,by lk,y⟩
theorem Fk.skip{k:Nat}(h:TurnR (pt qs) rs)(g:rs[k]?=some u)(f:rs[k+1]?=some t)(d:pt qs u=some t):Fk qs rs k s b↔Fk qs rs (k+1) s b:=by
 show⟨Fk.mono,fun e=>e.elim .inl fun z=>.inr ⟨?_,z.2⟩⟩;obtain⟨j,l,y⟩:=z.1;by_cases i:j=k
 .subst i;rcases y with⟨a,c⟩ | ⟨a,c⟩
  .rw [g] at a;rw[f] at c;cases a;cases c;show absurd d z.2
  .rw [g] at a;rw[f] at c;cases a;cases c;show absurd (h.sym _ _ d) z.2
 .show⟨j,by lk,y⟩
theorem qcB:∀(qs:LP),(prK qs).map (fun a=>a.1)=(qj qs).map (fun s=>(.inr s:Key))
 | []=>rfl
 | q::r=>by
  show(.inr q.1:Key)::(.inr q.2:Key)::(prK r).map _=(.inr q.1:Key)::(.inr q.2:Key)::(qj r).map _;rw[qcB r]
theorem eq_ptG{o:Option Str}{Q:VK}(q:Q (.bl (decide (o=some t))) H):qdB K ((o.map V.str).getD .non) (.str t) H Q:=by
 cases o with
 | none=>show .inl (.inl (.inl ⟨rfl,rfl,q⟩))
 | some u =>
  show qeE ?_
  rwa[show decide (u=t)=decide (some u=some t) from Yx.mpr ⟨congrArg some,ym⟩]
theorem ne_ptG{o:Option Str}{Q:VK}(q:Q (.bl (!decide (o=some t))) H):qec K true ((o.map V.str).getD .non) (.str t) H Q:=by
 show .inl ⟨by cases o<;>rfl,rfl,?_⟩;rw[yF rfl]
 cases o with
 | none=>show q
 | some u =>
  have e:eqV (.str u) (.str t)=decide (some u=some t):=by
   by_cases h:u=t
   .subst h;simp[eqV]
   .simp [eqV,h]
  show Q (.bl (!eqV (.str u) (.str t))) H;rw[e];show q
theorem ok_rsG(F:Fun K "_law_rising" "_law_rising" zz f fd)(T:Txt K mg cc cw):FnOk P w K mg base CX0 1 f fd ["_law_names_here","_law_partners_here"] spRsG:=by
 show F.ok kT fun _ _ _ _ H vs Q E hr h=>?_
 .obtain⟨n,d,ss,kvs,g,rfl,hn,aj,hd,U,q⟩:=h;have Z:=zC hr;show⟨_,(qc (qm (i:=2) kT.nd rfl (yN rfl) (jo qd))
 (qc (jc yQ rfl (js rfl T.b_range (qa (qr (jW (K:=K) rfl) rfl T.b_len YF (qa (pv 0) qd)) qd)) (qo (i:=3) kT.nd rfl (yN rfl))
 (qf (jc yQ rfl (qP (K:=K) rfl (jy (qdz (K:=K) rfl) (pv 0) (jE (qB (jH (K:=K) rfl) (pv 3) qe)) zl)) (qo (i:=4) kT.nd rfl (yN rfl))
 (qf (qM (qt (zB (K:=K) rfl Z) (jr (qds Z) (pv 1) (qu (qv (K:=K) rfl Z) (pv 0) (pv 3) (fun _ _=>rfl)) ⟨rfl,rfl,rfl,rfl⟩) (pv 4) (qy _)) (qf (zh (qc3 (K:=K) rfl Yj Yr Ys jp (pv 2) (qa (jw (qa (qu (qv (K:=K) rfl Z) (pv 0) (pv 3) (fun _ _=>rfl)) (qa (pv 4) qd))) qd)))) qw)))))
 (qf (qq (pv 2))))),?_⟩
  apply⟨by show 0<=sizeLine;decide,fun l hl=>?_⟩;have s1:=qG (Sr H) (o:=.lst []) hl;have el:upd H l (.lst []) l=some (.lst (([]:LI).map V.ref)):=qb;generalize upd H l (.lst [])=H1 at s1 el;apply qaa (s1 _ _ hn) ?_;rw[ya];apply⟨(ss.length:Int),rfl,by lk,by lk,?_⟩;rw[Yc];show zi (lo:=0) (n:=ss.length) (fun i A J=>L2.Same H J/\(∃ s,PL J l s (rsG ss g i)/\s.length<=14*i)/\∃ y3 X,A=[some (.ref n),some (.ref d),some (.ref l),y3,X]) ⟨s1,⟨[],⟨el,.nil⟩,yh _⟩,_,_,rfl⟩ (fun i A J hi p=>?_) fun A J p=>?_
  .obtain⟨sJ,⟨s,m,ad⟩,y3,X,rfl⟩:=p;rw[X8];have ae:=sJ _ _ hn;obtain⟨a,L⟩:∃ a,ss[i]?=some a:=⟨_,yb hi⟩;have hg:ss.getD i ""=a:=by rw[Yp,L];rfl
   apply .inl ⟨n,_,rfl,.of ae,fun r I=>?_⟩
   have ec:qcM (ss.map V.str) (some ((i:Int)+1)) none=(ss.drop (i+1)).map V.str:=by
    have:=qbK (ss.map V.str) (i+1);rw[show((i+1:Nat):Int)=(i:Int)+1 by lk] at this;rw[this,List.map_drop]
   rw[ec];have s2:=qG (Sr J) (o:=.lst ((ss.drop (i+1)).map V.str)) I;have Y:upd J r (.lst ((ss.drop (i+1)).map V.str)) r=some (.lst ((ss.drop (i+1)).map V.str)):=qb;have af:r≠l:=fun z=>by rw[z,m.1] at I;cases I
   generalize upd J r (.lst ((ss.drop (i+1)).map V.str))=J2 at s2 Y;have N:=m.same s2
   have C:rsG ss g (i+1)=rsG ss g i++zd ss g i:=by
    unfold rsG;rw[Xz,YV];simp
   have ac:(ss.drop (i+1)).length<=14:=by rw[YO];lk
   have x:zd ss g i=((ss.drop (i+1)).filter fun t=>decide (g a=some t)).map fun t=>(a,t):=by unfold zd;rw[hg]
   generalize ss.drop (i+1)=j at Y ac x;show .inl ⟨⟨_,.of Y⟩,qQ (xs:=j.map V.str) (fun k A G=>L2.Same H G/\G r=some (.lst (j.map V.str))/\(∃ s,PL G l s (rsG ss g i++((j.take k).filter fun t=>decide (g a=some t)).map fun t=>(a,t))/\s.length<=14*i+k)/\∃ X,A=[some (.ref n),some (.ref d),some (.ref l),some (.int (i:Int)),X]) ⟨sJ.trans s2,Y,⟨s,by simpa using N,by lk⟩,_,rfl⟩ (fun k A G _ p=>.of p.2.1) (fun k y A G hy p=>?_) fun A G p=>?_⟩
   .obtain⟨M,B,⟨u,b,R⟩,ai,rfl⟩:=p;rw[yd] at hy;obtain⟨t,ht,rfl⟩:=yn.mp hy;have hk:k<j.length:=(yc.mp ht).1;have O:=M _ _ hd;have S:=M _ _ hn
    have aa:((j.take (k+1)).filter fun t=>decide (g a=some t))=((j.take k).filter fun t=>decide (g a=some t))++(if g a=some t then [t] else []):=by
     rw[yK,ht,y0];show _++[t].filter _=_;rw[yU];simp only[decide_eq_true_eq,xi]
    rw[aa];apply zH ?_;apply⟨d,rfl,.inl ⟨_,.inl O⟩,?_⟩;apply .inl (za S (v:=.str a) (qp (by rw[yd,L];rfl)) ?_);show⟨_,DGet.k (k:=Sum.inr a) O,?_⟩;rw[U];apply eq_ptG ?_;apply qT (fun ho=>?_) (fun ho=>?_)
    .rw [yF (yk ho)];apply⟨.inl ⟨rfl,_,.of b.1⟩,?_⟩;apply .inl (za S (v:=.str a) (qp (by rw[yd,L];rfl)) ?_);apply⟨by show 2<=sizeLine;decide,fun t1 ag=>?_⟩;have s3:=qG (Sr G) (o:=.tup [.str a,.str t]) ag;have e3:upd G t1 (.tup [.str a,.str t]) t1=some (.tup [.str a,.str t]):=qb;generalize upd G t1 (.tup [.str a,.str t])=G3 at s3 e3;have D:=b.same s3;apply⟨l,_,_,rfl,rfl,D.1,by rw[ya];show qi (by lk),?_⟩;have W:∀{c:Addr} {q:Str×Str},G3 c=some (.tup [.str q.1,.str q.2])->c≠l:=fun z e=>by rw[e,D.1] at z;cases z
     show⟨qbU (M.trans s3) hl,by rw[qh af];show s3 _ _ B,⟨u++[t1],⟨by rw[qb,yL];rfl,?_⟩,by rw[yx];simp only[yM,Ym];lk⟩,_,rfl⟩;rw[yL,<- Yo];show All2.snoc (D.2.mono fun _ _ z=>by rw[qh (W z)];show z) (by rw[qh (W (q:=(a,t)) e3)];show e3)
    .rw [yz (fun e=>ho (yH e)),Yg];show⟨M,B,⟨u,b,by lk⟩,_,rfl⟩
   .obtain⟨M,B,⟨u,b,R⟩,ai,rfl⟩:=p;rw[show(j.map V.str).length=j.length from ya ..,yO,<- x,<- C] at b;rw[show(j.map V.str).length=j.length from ya ..] at R;show⟨M,⟨u,b,by lk⟩,_,_,rfl⟩
  .obtain⟨sJ,⟨s,m,ad⟩,y3,X,rfl⟩:=p;apply q l s J sJ hl m (by lk)
theorem ok_fp(F:Fun K "_law_flipped" "_law_flipped" j8 f fd)(T:Txt K mg cc cw)(Kg:DefOk P w K mg base CX0 1 "_law_partners" ["_law_pairs_here"] spPtA)(KR:DefOk P w K mg base CX0 1 "_law_rising" ["_law_names_here","_law_partners_here"] spRsG):FnOk P w K mg base CX0 2 f fd ["_law_names_here","_law_pairs_here","_law_row"] spFp:=by
 show F.ok kH fun _ _ _ s H vs Q E hr h=>?_
 .obtain⟨n,r,a,ss,us,qs,rs,g,rfl,hn,ar,hP,ap,av,ha,aw,hT,hg,q⟩:=h;have I:=zC hr;show⟨_,(qc (qm (i:=3) kH.nd rfl (yN rfl) (qk Kg (hmR hr) qx (qa (pv 1) qd)))
 (qc (qm (i:=4) kH.nd rfl (yN rfl) jz)
 (qc (jc yQ rfl (pi_dct (pv 3)) (qo (i:=5) kH.nd rfl (yN rfl))
 (qf (qM (qt (j5 (K:=K) rfl I) (pv 5) (pv 2) (by with_unfolding_all rfl)) (qf (qV (qu (qv (K:=K) rfl I) (pv 3) (pv 5) (fun _ _=>rfl)) (jg (pv 4) (pv 5) (ji I)))) qw)))
 (qc (jc yQ rfl (js rfl T.b_range (qa (qB qcg (qr (jW (K:=K) rfl) rfl T.b_len YF (qa (pv 2) qd)) qe) qd)) (qo (i:=6) kH.nd rfl (yN rfl))
 (qf (qM (qt (qaA (K:=K) rfl I) (jr (qds I) (pv 3) (qu (qv (K:=K) rfl I) (pv 2) (pv 6) (fun _ _=>rfl)) ⟨rfl,rfl,rfl,rfl⟩) (qu (qv (K:=K) rfl I) (pv 2) (qB (jH (K:=K) rfl) (pv 6) qe) (fun _ _=>rfl)) (qy _)) (qc (qV (qu (qv (K:=K) rfl I) (pv 2) (qB (jH (K:=K) rfl) (pv 6) qe) (fun _ _=>rfl)) (jg (pv 4) (qu (qv (K:=K) rfl I) (pv 2) (pv 6) (fun _ _=>rfl)) (ji I)))
 (qf (qV (qu (qv (K:=K) rfl I) (pv 2) (pv 6) (fun _ _=>rfl)) (jg (pv 4) (qu (qv (K:=K) rfl I) (pv 2) (qB (jH (K:=K) rfl) (pv 6) qe) (fun _ _=>rfl)) (ji I))))) qw)))
 (qf (qq (qk KR (hmR hr) qx (qa (pv 0) (qa (pv 4) qd))))))))),?_⟩
  apply⟨r,us,qs,rfl,hP,ap,by lk,fun d H1 s1 ak hd=>?_⟩;ext;intro B L;have s2:=qG s1 (o:=.dK []) L;have af:=qG (Sr H1) (o:=.dK []) L _ _ hd;have S:B≠d:=fun z=>by rw[z,hd] at L;cases L
  have M:=s1.free L;have ef:upd H1 B (.dK []) B=some (.dK []):=qb;generalize upd H1 B (.dK [])=H2 at s2 af ef;apply viDct ?_;apply⟨d,_,rfl,af,fun O=>?_⟩;have s3:L2.Same H (upd H2 d (.frz O (.dK (prK qs)))):=qbU s2 ak;have ed:upd H2 d (.frz O (.dK (prK qs))) d=some (.frz O (.dK (prK qs))):=qb;have ac:upd H2 d (.frz O (.dK (prK qs))) B=some (.dK []):=by rw[qh S];show ef
  generalize upd H2 d (.frz O (.dK (prK qs)))=H3 at s3 ed ac;have am:(prK qs).length=(qj qs).length:=by rw[qaG,jJ]
  have ag:∀{i:Nat} {k:Key} {v:V},(prK qs)[i]?=some (k,v)->∃ z,k=.inr z/\(qj qs)[i]?=some z:=fun{i k v} e=>by
   have h1:((prK qs).map (fun kv=>kv.1))[i]?=some k:=by rw[yd,e];rfl
   rw[qcB,yd] at h1;obtain⟨z,hz,rfl⟩:=yn.mp h1;show⟨z,rfl,hz⟩
  have as:(qj qs).length<=60:=by rw[jJ];lk
  show for_keys (fun i W J=>L2.Same H J/\J d=some (.frz O (.dK (prK qs)))/\∃ Z kvs g',W=[some (.ref n),some (.ref r),some (.ref a),some (.ref d),some (.ref B),Z,none]/\J B=some (.dK kvs)/\kvs.length<=i/\(∀ s,jG kvs (.inr s:Key)=(g' s).map V.str)/\∀ s b,g' s=some b↔(s∈(qj qs).take i/\s∉rs/\pt qs s=some b)) ⟨s3,ed,_,[],fun _=>none,rfl,ac,yh _,(fun s=>rfl),fun s b=>⟨(fun e=>by cases e),fun e=>by simp at e⟩⟩ (fun i W J _ U=>U.2.1) (fun i k v W J an U=>?_) fun W J U=>?_
  .obtain⟨D,p,Z,kvs,g',rfl,A,N,m,y⟩:=U;obtain⟨z,rfl,hz⟩:=ag an;have au:i<(qj qs).length:=(yc.mp hz).1;have ai:(qj qs).take (i+1)=(qj qs).take i++[z]:=by rw[yK,hz];rfl
   obtain⟨b,hb⟩:∃ b,pt qs z=some b:=by
    cases e:pt qs z with
    | none=>show absurd (ye hz) (pt_none.mp e)
    | some b=>show⟨b,rfl⟩
   apply qdl (D _ _ ha) ?_;apply qT (fun X=>?_) (fun X=>?_)
   .have Y:z∉rs:=by simpa using X
    apply .inr ⟨d,.str b,rfl,.inl ⟨prK qs,.inr z,.inr ⟨O,p⟩,rfl,by rw[qU,hb];rfl⟩,?_⟩;apply .inr ⟨B,_,rfl,DPut.k (k:=Sum.inr z) A (by rw[yX];lk),?_⟩;show⟨qbU D M,by rw[qh (Yn S)];show p,_,_,fun s=>if s=z then some b else g' s,rfl,qb,by have:=qO kvs (Sum.inr z:Key) (.str b);lk,fun s=>?_,fun s c=>?_⟩
    .rw [qag];dsimp only;by_cases e:s=z
     .subst e;rw[yF rfl,yF rfl];rfl
     .rw [yz (fun x=>e (YW x)),yz e,m]
    .rw [ai,yB,yA];dsimp only;by_cases e:s=z
     .subst e;rw[yF rfl];show⟨fun x=>⟨.inr rfl,Y,by rw[hb];show x⟩,fun x=>by rw[<- hb];show x.2.2⟩
     .rw [yz e,y];show⟨fun x=>⟨.inl x.1,x.2⟩,fun x=>⟨x.1.resolve_right e,x.2⟩⟩
   .have Y:z∈rs:=by simpa using X
    show⟨D,p,_,kvs,g',rfl,A,by lk,m,fun s c=>?_⟩;rw[y,ai,yB,yA];show⟨fun x=>⟨.inl x.1,x.2⟩,fun x=>⟨x.1.resolve_right (fun e=>x.2.1 (by rw[e];show Y)),x.2⟩⟩
  .obtain⟨D,p,Z,kvs,g',rfl,A,N,m,y⟩:=U;rw[am,yO] at y
   have al:∀ s b,g' s=some b↔Fk qs rs 0 s b:=fun s b=>by
    rw[y];show⟨fun x=>.inl x.2,fun x=>?_⟩;rcases x with x | ⟨⟨j,hj,_⟩,_⟩
    .show⟨Yl (fun z=>by rw[pt_none.mpr z] at x;cases x.2),x⟩
    .omega
   have h2:=hT.two;apply .inl ⟨_,.inl (SqL.of (D _ _ ha)),?_⟩;ext;have ej:((rs.map V.str).length:Int)-1=((rs.length-1:Nat):Int):=by rw[ya];lk
   rw[ej];show⟨_,rfl,by lk,by lk,?_⟩;rw[Yc];have at_:∀{j:Nat} {n:Str},rs[j]?=some n->(rs.map V.str)[j]?=some (.str n):=fun e=>by rw[yd,e];rfl
   show zi (lo:=0) (n:=rs.length-1) (fun i W J=>L2.Same H J/\J d=some (.frz O (.dK (prK qs)))/\∃ Z y6 kvs g',W=[some (.ref n),some (.ref r),some (.ref a),some (.ref d),some (.ref B),Z,y6]/\J B=some (.dK kvs)/\kvs.length<=60+2*i/\(∀ s,jG kvs (.inr s:Key)=(g' s).map V.str)/\∀ s b,g' s=some b↔Fk qs rs i s b) ⟨D,p,_,_,kvs,g',rfl,A,by lk,m,al⟩ (fun i W J hi U=>?_) fun W J U=>?_
   .obtain⟨D,p,Z,y6,kvs,g',rfl,A,N,m,y⟩:=U;rw[X8];obtain⟨u,C⟩:∃ u,rs[i]?=some u:=⟨_,yb (by lk)⟩;obtain⟨t,G⟩:∃ t,rs[i+1]?=some t:=⟨_,yb (by lk)⟩;have R:=D _ _ ha;have ax:u≠t:=fun e=>by rw[e] at C;have:=qa4 hT.nd C G;lk
    apply zH ?_;apply⟨d,rfl,.inl ⟨_,.inr ⟨O,p⟩⟩,?_⟩;apply .inl (za R (v:=.str u) (qp (at_ C)) ?_);show⟨_,.inl ⟨prK qs,.inr u,.inr ⟨O,p⟩,rfl,rfl⟩,?_⟩;rw[qU];apply .inl (za R (v:=.str t) (qp (j:=i+1) (at_ G)) ?_);show ne_ptG ?_;apply qT (fun X=>?_) (fun X=>?_)
    .have aq:pt qs u≠some t:=by simpa using X
     apply .inl (za R (v:=.str t) (qp (j:=i+1) (at_ G)) ?_);apply .inl (za R (v:=.str u) (qp (at_ C)) ?_);apply .inr ⟨B,_,rfl,DPut.k (k:=Sum.inr u) A (by rw[yX];lk),?_⟩;have s4:=qbU D (o:=.dK (zm kvs (Sum.inr u) (.str t))) M;have aa:upd J B (.dK (zm kvs (Sum.inr u) (.str t))) d=some (.frz O (.dK (prK qs))):=by rw[qh (Yn S)];show p
     have ad:upd J B (.dK (zm kvs (Sum.inr u) (.str t))) B=some (.dK (zm kvs (Sum.inr u) (.str t))):=qb;have l4:=qO kvs (Sum.inr u:Key) (.str t);generalize upd J B (.dK (zm kvs (Sum.inr u) (.str t)))=J4 at s4 aa ad;have ae:=s4 _ _ ha;apply .inl (za ae (v:=.str u) (qp (at_ C)) ?_);apply .inl (za ae (v:=.str t) (qp (j:=i+1) (at_ G)) ?_);apply .inr ⟨B,_,rfl,DPut.k (k:=Sum.inr t) ad (by rw[yX];lk),?_⟩;show⟨qbU s4 M,by rw[qh (Yn S)];show aa,_,_,_,fun s=>if s=t then some u else if s=u then some t else g' s,rfl,qb,by have:=qO (zm kvs (Sum.inr u:Key) (.str t)) (Sum.inr t:Key) (.str u);lk,fun s=>?_,fun s b=>Fk.put hT C G aq y⟩;rw[qag,qag];dsimp only;by_cases e:s=t
     .subst e;rw[yF rfl,yF rfl];rfl
     .rw [yz (fun x=>e (YW x)),yz e];by_cases e:s=u
      .subst e;rw[yF rfl,yF rfl];rfl
      .rw [yz (fun x=>e (YW x)),yz e,m]
    .have he:pt qs u=some t:=by simpa using X
     show⟨D,p,_,_,kvs,g',rfl,A,by lk,m,fun s b=>(y s b).trans (Fk.skip hT C G he)⟩
   .obtain⟨D,p,Z,y6,kvs,g',rfl,A,N,m,y⟩:=U
    have eg:g'=g:=by
     funext s;show qbf fun b=>(y s b).trans (Fk.all.trans (hg s b).symm)
    subst eg;apply⟨n,B,ss,kvs,g',rfl,D _ _ hn,ar,A,m,fun l ls H' s' hl aj ao=>q l ls H' (D.trans s') (D.free hl) aj ao⟩
theorem TurnR.inner{f:Str->Option Str}(h:TurnR f rs)(d:0<i)(h1:i+1<rs.length)(b:rs[i]?=some s):(f s).isSome=true:=by
 obtain⟨r,a⟩:∃ r,rs[i-1]?=some r:=⟨_,yb (by lk)⟩;obtain⟨t,c⟩:∃ t,rs[i+1]?=some t:=⟨_,yb h1⟩;have:=h.alt (i-1) r s t a (by rw[show i-1+1=i by lk];show b) (by rw[show i-1+2=i+1 by lk];show c)
 cases e:f s with
 | some _=>rfl
 | none =>
  rw[e] at this;have:=this.mpr (fun z=>by cases z);cases this
theorem qcC{f:Str->Option Str}(h:TurnR f rs)(e:∀ a b,g a=some b↔flipR f rs a b)(c:adjR rs a t)(i:f a=none\/f a=some t)(d:g a=none\/g a=some t):(g a).isSome=!(f a).isSome:=by
 rcases i with z | z
 .rw [(e a t).mpr (.inr ⟨c,by rw[z];show fun y=>by cases y⟩),z];rfl
 .rcases d with y | y
  .rw [y,z];rfl
  .show absurd ⟨fun _=>c,fun _=>z⟩ (h.xor.mp ((e a t).mp y))
theorem zV(g:NOk ss)(h:DT ss tps)(f:DP tps qs):2*qs.length=(ss.filter fun s=>(pt qs s).isSome).length:=by
 rw[<- jJ]
 have d:∀ s,s∈qj qs↔(pt qs s).isSome=true:=fun s=>by
  cases e:pt qs s with
  | none=>show⟨fun z=>absurd z (pt_none.mp e),(fun z=>by cases z)⟩
  | some b=>show⟨fun _=>rfl,fun _=>Yl fun z=>by rw[pt_none.mpr z] at e;cases e⟩
 have c:∀ s∈qj qs,s∈ss:=fun s a=>by
  obtain⟨b,hb⟩:=xS.mp ((d s).mp a);show(f.pf.inn h hb).1
 show Nat.le_antisymm (qK f.nd fun s a=>yp.mpr ⟨c s a,(d s).mp a⟩) (qK (g.nd.filter _) fun s a=>(d s).mpr (yp.mp a).2)
theorem qdm{f:Str->Option Str}(h:TurnR f rs)(g:rs[0]?=some a)(hb:rs[rs.length-1]?=some b):(rs.filter fun s=>(f s).isSome).length+2=rs.length+(if (f a).isSome then 1 else 0)+(if (f b).isSome then 1 else 0):=by
 have d:=h.two
 obtain⟨m,l⟩:∃ m,rs=a::(m++[b]):=by
  match rs,g,hb,d with
  | x::r,g,hb,d =>
   have t:x=a:=ym g;have p:r≠[]:=fun z=>by rw[z] at d;simp at d
   show⟨r.dropLast,?_⟩
   have e:r.getLast p=b:=by
    have hl:0<r.length:=List.length_pos_iff.mpr p;rw[show(x::r).length-1=r.length-1+1 by simp;lk,List.getElem?_cons_succ] at hb;rw[List.getLast_eq_getElem];show(yc.mp hb).2
   rw[t,<- e,List.dropLast_concat_getLast]
 have n:rs.length=m.length+2:=by rw[l];simp
 have c:(m.filter fun s=>(f s).isSome)=m:=XG.mpr fun s q=>by
  obtain⟨i,o⟩:=yf q;have j:=(yc.mp o).1;show h.inner (i:=i+1) (by lk) (by lk) ?_;rw[l,List.getElem?_cons_succ,yP j];show o
 rw[n,l,yU,y0,c,yU,xi];cases (f a).isSome<;>cases (f b).isSome<;>simp<;>lk
theorem cnt_split(f:ss.Nodup)(i:rs.Nodup)(c:∀ s∈rs,s∈ss)(p:Str->Bool):(ss.filter p).length=(rs.filter p).length+(ss.filter fun s=>p s&&!decide (s∈rs)).length:=by
 have e:(rs.filter p).length=(ss.filter fun s=>p s&&decide (s∈rs)).length:=Nat.le_antisymm
  (qK (i.filter _) fun s d=>by
   obtain⟨a,b⟩:=yp.mp d;show yp.mpr ⟨c s a,by rw[b,yH a];rfl⟩)
  (qK (f.filter _) fun s d=>by
   obtain⟨a,b⟩:=yp.mp d;obtain⟨g,h⟩:=(yS _ _).mp b;show yp.mpr ⟨yk h,g⟩)
 rw[e];clear e f c
 induction ss with
 | nil=>rfl
 | cons x r ih =>
  rw[yU,yU,yU];cases p x<;>cases decide (x∈rs)<;>simp<;>lk
theorem turn_len(d:NOk ss)(f:DT ss tps)(D:DP tps qs)(h:TurnR (pt qs) rs)(i:∀ a b,g a=some b↔flipR (pt qs) rs a b)(r:PF tps g)(n:∀ s∈rs,s∈ss)(e:rs[0]?=some a)(hb:rs[rs.length-1]?=some b) :
  (rsG ss g ss.length).length+1=qs.length+(if (pt qs a).isSome then 0 else 1)+(if (pt qs b).isSome then 0 else 1):=by
 have E:=h.two;have m:=zV d f D;have c:=zV d f (qdZ d f r);rw[qdk d f r] at c;have l:=h.again i;rw[cnt_split d.nd h.nd n] at m c;have q:=qdm h e hb;have j:=qdm l e hb
 have C:(ss.filter fun s=>(g s).isSome&&!decide (s∈rs))=ss.filter fun s=>(pt qs s).isSome&&!decide (s∈rs):=xL fun s _=>by
  by_cases z:s∈rs
  .rw [yH z];simp
  .have:g s=pt qs s:=qbf fun b=>by
    rw[i];show⟨fun y=>y.elim (fun x=>x.2) fun x=>absurd x.1.mem.1 z,fun y=>.inl ⟨z,y⟩⟩
   rw[this]
 rw[C] at c;obtain⟨t,o⟩:∃ t,rs[1]?=some t:=⟨_,yb (by lk)⟩;obtain⟨u,p⟩:∃ u,rs[rs.length-2]?=some u:=⟨_,yb (by lk)⟩;have v:=qcC h i ⟨0,.inl ⟨e,o⟩⟩ (h.fst a t e o) (l.fst a t e o);have w:=qcC h i (a:=b) (t:=u) ⟨rs.length-2,.inr ⟨p,by rw[show rs.length-2+1=rs.length-1 by lk];show hb⟩⟩ (h.lst b u hb p) (l.lst b u hb p);rw[v,w] at j;generalize (rs.filter fun s=>(g s).isSome).length=F at c j;generalize (rs.filter fun s=>(pt qs s).isSome).length=G at m q;generalize (ss.filter fun s=>(pt qs s).isSome&&!decide (s∈rs)).length=H at m c;cases A:(pt qs a).isSome<;>cases B:(pt qs b).isSome<;>rw[A,B] at q j<;>simp at q j ⊢<;>lk
noncomputable def Dx(f g:Str->Option Str)(a b:Str):Bool:=decide (f a=some b) != decide (g a=some b)
noncomputable def nbL(ss:LS)(f g:Str->Option Str)(z:Str):LS:=ss.filter (Dx f g z)
noncomputable def wkF(nb:Str->LS):Nat->LS->LS->LS
 | 0,ns,_=>ns
 | _+1,ns,[]=>ns
 | n+1,ns,b::_=>wkF nb n (ns++[b]) ((nb b).filter fun c=>!decide (c∈ns++[b]))
noncomputable def wk(nb:Str->LS)(z:Str):LS:=wkF nb 14 [z] (nb z)
noncomputable def ptF(nb:Str->LS)(e:Nat):LS->LS->List (LS)
 | [],_=>[]
 | z::r,seen=>if (nb z).length=e/\z∉seen then wk nb z::ptF nb e r (seen++wk nb z) else ptF nb e r seen
structure Two(ss:LS)(f g:Str->Option Str):Prop where
 nd:ss.Nodup
 few:ss.length<=14
 fs:∀ a b,f a=some b->f b=some a
 gs:∀ a b,g a=some b->g b=some a
 fi:∀ a b,f a=some b->a∈ss/\b∈ss/\a≠b
 gi:∀ a b,g a=some b->a∈ss/\b∈ss/\a≠b
structure Wy(ss:LS)(f g:Str->Option Str)(z:Str)(ns ah:LS):Prop where
 nd:ns.Nodup
 inn:∀ x∈ns,x∈ss
 hd:ns[0]?=some z
 st:∀(i:Nat) a b,ns[i]?=some a->ns[i+1]?=some b->Dx f g a b=true
 nxt:∀ x,ns[ns.length-1]?=some x->∀ y,Dx f g x y=true->y∈ns\/y∈ah
 on:∀ y∈ah,y∉ns/\∀ x,ns[ns.length-1]?=some x->Dx f g x y=true
section
variable{ss:LS}{f g:Str->Option Str}
theorem dx_iff:Dx f g a b=true↔((f a=some b/\g a≠some b)\/(f a≠some b/\g a=some b)):=by
 unfold Dx;by_cases h1:f a=some b<;>by_cases c:g a=some b<;>simp[h1,c]
theorem qbk:Dx g f a b=Dx f g a b:=by
 unfold Dx;cases decide (f a=some b)<;>cases decide (g a=some b)<;>rfl
theorem Two.sym(T:Two ss f g)(h:Dx f g a b=true):Dx f g b a=true:=by
 rw[dx_iff] at h ⊢;rcases h with⟨h1,c⟩ | ⟨h1,c⟩
 .show .inl ⟨T.fs _ _ h1,fun z=>c (T.gs _ _ z)⟩
 .show .inr ⟨fun z=>h1 (T.fs _ _ z),T.gs _ _ c⟩
theorem Two.inn(T:Two ss f g)(h:Dx f g a b=true):a∈ss/\b∈ss/\a≠b:=by
 rw[dx_iff] at h;rcases h with⟨h1,_⟩ | ⟨_,h1⟩
 .show T.fi _ _ h1
 .show T.gi _ _ h1
theorem Two.mem(T:Two ss f g):b∈nbL ss f g a↔Dx f g a b=true:=by
 unfold nbL;rw[yp];show⟨fun h=>h.2,fun h=>⟨(T.inn h).2.1,h⟩⟩
theorem Two.third(T:Two ss f g){d:Str}(hb:Dx f g a b=true)(hc:Dx f g a c=true)(m:Dx f g a d=true)(h:b≠c):d=b\/d=c:=by
 rw[dx_iff] at hb hc m;have e:∀{o:Option Str} {x y:Str},o=some x->o=some y->x=y:=fun h1 n=>ym (h1.symm.trans n);rcases hb with⟨i,_⟩ | ⟨_,i⟩<;>rcases hc with⟨j,_⟩ | ⟨_,j⟩<;>rcases m with⟨l,_⟩ | ⟨_,l⟩
 .show absurd (e i j) h
 .show absurd (e i j) h
 .show .inl (e l i)
 .show .inr (e l j)
 .show .inr (e l j)
 .show .inl (e l i)
 .show absurd (e i j) h
 .show absurd (e i j) h
theorem Two.nbnd(T:Two ss f g)(z:Str):(nbL ss f g z).Nodup:=T.nd.filter _
theorem Wy.pos{ns:LS}(h:Wy ss f g z ns ah):0<ns.length:=(yc.mp h.hd).1
theorem Two.wy0(T:Two ss f g)(hz:z∈ss):Wy ss f g z [z] (nbL ss f g z):=
 ⟨xx _ _,(fun x c=>by rw[yA.mp c];show hz),rfl,(fun i a b _ h=>by simp at h),fun x c y d=>by
  cases c
  show .inr (T.mem.mpr d),fun y d=>⟨fun k=>by
   rw[yA.mp k] at d;show(T.inn (T.mem.mp d)).2.2 rfl,fun x c=>by cases c;show T.mem.mp d⟩⟩
theorem Two.wyS(T:Two ss f g){ns r:LS}(h:Wy ss f g z ns (b::r)):Wy ss f g z (ns++[b]) ((nbL ss f g b).filter fun c=>!decide (c∈ns++[b])):=by
 obtain⟨h1,t⟩:=h.on b yC;have a:=h.pos;obtain⟨x,o⟩:∃ x,ns[ns.length-1]?=some x:=⟨_,yb (by lk)⟩;have n:=t x o
 have lst:∀ y,(ns++[b])[(ns++[b]).length-1]?=some y->y=b:=fun y e=>by
  rw[yx,show ns.length + [b].length-1=ns.length from rfl,xM] at e;show(ym e).symm
 show⟨Yt.mpr ⟨h.nd,xx _ _,fun p a q v e=>?_⟩,fun p a=>?_,by rw[yP a];show h.hd,fun i p q d j=>?_,fun y m c hc=>?_,fun c hc=>?_⟩
 .rw [yA.mp v] at e;rw[e] at a;show h1 a
 .rcases yB.mp a with k | k
  .show h.inn p k
  .rw [yA.mp k];show(T.inn n).2.1
 .by_cases u:i+1<ns.length
  .rw [yP (by lk)] at d;rw[yP u] at j;show h.st i p q d j
  .have l:i+1=ns.length:=by
    have:=(yc.mp j).1;rw[yx] at this;have:i+1<ns.length+1:=this;lk
   rw[l,xM] at j;cases j;rw[yP (by lk),show i=ns.length-1 by lk] at d;rw[o] at d;cases d;show n
 .rw [lst y m] at hc;by_cases k:c∈ns++[b]
  .show .inl k
  .show .inr (yp.mpr ⟨T.mem.mpr hc,by rw[yl k];rfl⟩)
 .obtain⟨w,s⟩:=yp.mp hc;show⟨fun k=>(by rw[yH k] at s;cases s),fun y m=>?_⟩;rw[lst y m];show T.mem.mp w
theorem Two.goF(T:Two ss f g):∀(n:Nat) {ns ah:LS},Wy ss f g z ns ah->n+ns.length=15->Wy ss f g z (wkF (nbL ss f g) n ns ah) []
 | 0,ns,ah,h,hl=>by
  have:=qK h.nd h.inn;have:=T.few;lk
 | _+1,ns,[],h,_=>h
 | n+1,ns,b::r,h,hl=>Two.goF T n (T.wyS h) (by rw[yx];show n+(ns.length+1)=15;lk)
theorem Two.go(T:Two ss f g)(hz:z∈ss):Wy ss f g z (wk (nbL ss f g) z) []:=T.goF 14 (T.wy0 hz) rfl
end
def ClD(f g:Str->Option Str)(U:LS):Prop:=∀ x∈U,∀ y,Dx f g x y=true->y∈U
structure RwW(ss:LS)(f g:Str->Option Str)(Yw:LS):Prop where
 nd:Yw.Nodup
 inn:∀ x∈Yw,x∈ss
 two:2<=Yw.length
 adj:∀ a b,adjR Yw a b->Dx f g a b=true
 all:∀ x∈Yw,∀ y,Dx f g x y=true->adjR Yw x y
 fst:∀ s t y,Yw[0]?=some s->Yw[1]?=some t->Dx f g s y=true->y=t
 lst:∀ s t y,Yw[Yw.length-1]?=some s->Yw[Yw.length-2]?=some t->Dx f g s y=true->y=t
noncomputable def zY(f g:Str->Option Str)(U:LS)(z:Str):Option Str:=if z∈U then g z else f z
section
variable{ss:LS}{f g:Str->Option Str}
theorem ndx{l:LS}(h:l.Nodup)(h1:l[i]?=some a)(b:l[j]?=some a):i=j:=qD h h1 b
theorem Two.row(T:Two ss f g)(hz:z∈ss)(h1:(nbL ss f g z).length=1):RwW ss f g (wk (nbL ss f g) z):=by
 have w:=T.go hz;generalize wk (nbL ss f g) z=Yw at w;have N:=w.pos
 obtain⟨b,hb⟩:∃ b,nbL ss f g z=[b]:=by
  match nbL ss f g z,h1 with
  | [b],_=>show⟨b,rfl⟩
 have v:∀ y,Dx f g z y=true->y=b:=fun y d=>by have:=T.mem.mpr d;rw[hb] at this;show yA.mp this
 have p:Dx f g z b=true:=T.mem.mp (by rw[hb];show List.mem_singleton_self _)
 have E:2<=Yw.length:=by
  show Yl fun M=>?_;have hl:Yw.length=1:=by lk
  have k:=w.nxt z (by rw[hl];show w.hd) b p;rcases k with k | k
  .obtain⟨i,l⟩:=yf k;have:i<Yw.length:=(yc.mp l).1;have I:i=0:=by lk
   rw[I,w.hd] at l;show(T.inn p).2.2 (ym l)
  .cases k
 have q:∀(i:Nat) x,Yw[i]?=some x->i+1<Yw.length->∀ y,Dx f g x y=true->Yw[i+1]?=some y\/(0<i/\Yw[i-1]?=some y):=fun i x m l y d=>by
  obtain⟨c,hc⟩:∃ c,Yw[i+1]?=some c:=⟨_,yb l⟩;have G:=w.st i x c m hc;by_cases J:i=0
  .subst J;rw[w.hd] at m;cases m;rw[v y d,<- v c G];show .inl hc
  .obtain⟨a,C⟩:∃ a,Yw[i-1]?=some a:=⟨_,yb (by lk)⟩;have H:=T.sym (w.st (i-1) a x C (by rw[show i-1+1=i by lk];show m));have D:a≠c:=fun e=>by have:=ndx w.nd C (e ▸ hc);lk
   rcases T.third H G d D with e | e
   .show .inr ⟨by lk,by rw[e];show C⟩
   .show .inl (by rw[e];show hc)
 have n:∀ x,Yw[Yw.length-1]?=some x->∀ y,Dx f g x y=true->Yw[Yw.length-2]?=some y:=fun x m y d=>by
  rcases w.nxt x m y d with k | k
  .obtain⟨j,o⟩:=yf k;have L:j<Yw.length:=(yc.mp o).1;by_cases e:j+1=Yw.length
   .rw [show j=Yw.length-1 by lk,m] at o;show absurd (ym o) (T.inn d).2.2
   .rcases q j y o (by lk) x (T.sym d) with k | ⟨k1,k⟩
    .have:=ndx w.nd k m;rw[show Yw.length-2=j by lk];show o
    .have:=ndx w.nd k m;lk
  .cases k
 show⟨w.nd,w.inn,E,fun a F h=>?_,fun x m y d=>?_,fun s t y r u d=>?_,fun s t y r u d=>?_⟩
 .obtain⟨j,⟨A,B⟩ | ⟨A,B⟩⟩:=h
  .show w.st j a F A B
  .show T.sym (w.st j F a A B)
 .obtain⟨i,l⟩:=yf m;have K:i<Yw.length:=(yc.mp l).1;by_cases e:i+1<Yw.length
  .rcases q i x l e y d with k | ⟨k1,k⟩
   .show⟨i,.inl ⟨l,k⟩⟩
   .show⟨i-1,.inr ⟨k,by rw[show i-1+1=i by lk];show l⟩⟩
  .have k:=n x (by rw[show Yw.length-1=i by lk];show l) y d;show⟨Yw.length-2,.inr ⟨k,by rw[show Yw.length-2+1=i by lk];show l⟩⟩
 .rw [w.hd] at r;cases r;rw[v y d];show(v t (w.st 0 _ t w.hd u)).symm
 .have:=n s r y d;rw[this] at u;show ym u
theorem RwW.cl(h:RwW ss f g Yw):ClD f g Yw:=fun x a y b=>(h.all x a y b).mem.2
theorem RwW.near(h:RwW ss f g Yw){x:Str}(d:x∈Yw):∃ y,Dx f g x y=true:=by
 obtain⟨i,a⟩:=yf d;have c:i<Yw.length:=(yc.mp a).1;have j:=h.two;by_cases e:i+1<Yw.length
 .obtain⟨y,b⟩:∃ y,Yw[i+1]?=some y:=⟨_,yb e⟩;show⟨y,h.adj _ _ ⟨i,.inl ⟨a,b⟩⟩⟩
 .obtain⟨y,b⟩:∃ y,Yw[i-1]?=some y:=⟨_,yb (by lk)⟩;show⟨y,h.adj _ _ ⟨i-1,.inr ⟨b,by rw[show i-1+1=i by lk];show a⟩⟩⟩
theorem RwW.turn(h:RwW ss f g Yw){k:Str->Option Str}(u:∀ a∈Yw,k a=f a)(ks:∀ a b,k a=some b->k b=some a):TurnR k Yw:=by
 have A:∀{s t y:Str},Dx f g s t=true->(∀ y,Dx f g s y=true->y=t)->f s=some y->y=t:=fun{s t y} n i o=>by
  by_cases e:g s=some y
  .exfalso;rw[dx_iff] at n;rcases n with⟨h1,l⟩ | ⟨h1,l⟩
   .rw [o] at h1;show l (e.trans h1)
   .rw [e] at l;show h1 (o.trans l)
  .show i y (dx_iff.mpr (.inl ⟨o,e⟩))
 have end_:∀{s t:Str},s∈Yw->Dx f g s t=true->(∀ y,Dx f g s y=true->y=t)->k s=none\/k s=some t:=fun{s t} c n i=>by
  rw[u s c]
  cases e:f s with
  | none=>show .inl rfl
  | some y=>rw[A n i e];show .inr rfl
 show⟨h.nd,h.two,ks,fun j r s t v c d=>?_,fun s t c d=>?_,fun s t c d=>?_⟩
 .have p:=h.adj s r ⟨j,.inr ⟨v,c⟩⟩;have q:=h.adj s t ⟨j+1,.inl ⟨c,d⟩⟩;have m:r≠t:=fun e=>by have:=ndx h.nd v (e ▸ d);lk
  rw[u s (ye c)];rw[dx_iff] at p q;constructor
  .intro w x;show m (ym (w.symm.trans x))
  .intro e;rcases q with⟨z,_⟩ | ⟨_,z⟩
   .show absurd z e
   .rcases p with⟨y,_⟩ | ⟨_,y⟩
    .show y
    .show absurd (ym (y.symm.trans z)) m
 .show end_ (ye c) (h.adj s t ⟨0,.inl ⟨c,d⟩⟩) fun y i=>h.fst s t y c d i
 .have l:=h.two;show end_ (ye c) (h.adj s t ⟨Yw.length-2,.inr ⟨d,by rw[show Yw.length-2+1=Yw.length-1 by lk];show c⟩⟩) fun y i=>h.lst s t y c d i
theorem RwW.swap(h:RwW ss f g Yw):RwW ss g f Yw:=
 ⟨h.nd,h.inn,h.two,fun a b k=>by rw[qbk];show h.adj a b k,fun x d y e=>h.all x d y (by rw[<- qbk];show e),fun s t y a b c=>h.fst s t y a b (by rw[<- qbk];show c),fun s t y a b c=>h.lst s t y a b (by rw[<- qbk];show c)⟩
theorem RwW.flip(h:RwW ss f g Yw)(l:∀ x∈Yw,x∉U)(a b:Str):zY f g (U++Yw) a=some b↔flipR (zY f g U) Yw a b:=by
 unfold zY flipR;dsimp only;by_cases c:a∈Yw
 .rw [yF (yG _ c),yz (l a c)];constructor
  .intro e;obtain⟨y,j⟩:=h.near c
   have d:f a≠some b:=fun z=>by
    rw[dx_iff,z,e] at j;rcases j with⟨h1,i⟩ | ⟨h1,i⟩
    .show i h1
    .show h1 i
   show .inr ⟨h.all a c b (dx_iff.mpr (.inr ⟨d,e⟩)),d⟩
  .rintro (⟨z,_⟩ | ⟨z,d⟩)
   .show absurd c z
   .rcases dx_iff.mp (h.adj a b z) with⟨k,_⟩ | ⟨_,k⟩
    .show absurd k d
    .show k
 .have e:(a∈U++Yw)=(a∈U):=propext ⟨fun z=>(yB.mp z).resolve_right c,yT _⟩;simp only[e];constructor
  .show fun z=>.inl ⟨c,z⟩
  .rintro (⟨_,z⟩ | ⟨z,_⟩)
   .show z
   .show absurd z.mem.1 c
theorem Wy.out(T:Two ss f g)(w:Wy ss f g z Yw [])(d:ClD f g U)(hz:z∉U):∀ x∈Yw,x∉U:=by
 have k:∀(i:Nat) x,Yw[i]?=some x->x∉U:=fun i=>by
  induction i with
  | zero=>intro x a;rw[w.hd] at a;cases a;show hz
  | succ i ih =>
   intro x a b;obtain⟨y,c⟩:∃ y,Yw[i]?=some y:=⟨_,yb (by have:=(yc.mp a).1;lk)⟩;show ih y c (d x b y (T.sym (w.st i y x c a)))
 intro x a;obtain⟨i,e⟩:=yf a;show k i x e
theorem ClD.app(h:ClD f g U)(k:ClD f g Yw):ClD f g (U++Yw):=fun x b y a=>by
 rcases yB.mp b with z | z
 .show yT _ (h x z y a)
 .show yG _ (k x z y a)
end
noncomputable def hdW(Yw:LS):Str:=Yw.getD 0 ""
section
variable{ss:LS}{f g:Str->Option Str}
theorem Wy.head(w:Wy ss f g z Yw ah):hdW Yw=z/\z∈Yw:=by
 show⟨?_,ye w.hd⟩;unfold hdW;rw[Yp,w.hd];rfl
theorem Two.pts(T:Two ss f g)(e:Nat):∀(pl seen:LS),(∀ z∈pl,z∈ss) ->
  (∀ Yw∈ptF (nbL ss f g) e pl seen,∃ z∈pl,Yw=wk (nbL ss f g) z/\(nbL ss f g z).length=e/\z∉seen) /\
  (∀ z∈pl,(nbL ss f g z).length=e->z∈seen\/∃ Yw∈ptF (nbL ss f g) e pl seen,z∈Yw)/\List.Sublist ((ptF (nbL ss f g) e pl seen).map hdW) pl
 | [],_,_=>⟨(fun Yw h=>by cases h),(fun z h=>by cases h),.slnil⟩
 | z::r,seen,hi=>by
  have hz:=T.go (hi z yC);unfold ptF;by_cases h:(nbL ss f g z).length=e/\z∉seen
  .rw [yF h];obtain⟨i,j,l⟩:=Two.pts T e r (seen++wk (nbL ss f g) z) fun y a=>hi y (yw _ a);show⟨fun Yw d=>?_,fun y a b=>?_,?_⟩
   .rcases yE.mp d with k | k
    .show⟨z,yC,k,h⟩
    .obtain⟨y,h1,c,m,n⟩:=i Yw k;show⟨y,yw _ h1,c,m,fun q=>n (yT _ q)⟩
   .rcases yE.mp a with k | k
    .show .inr ⟨_,yC,by rw[k];show hz.head.2⟩
    .rcases j y k b with q | ⟨Yw,q1,q2⟩
     .rcases yB.mp q with q | q
      .show .inl q
      .show .inr ⟨_,yC,q⟩
     .show .inr ⟨Yw,yw _ q1,q2⟩
   .rw [yV,hz.head.1];show l.cons_cons z
  .rw [yz h];obtain⟨i,j,l⟩:=Two.pts T e r seen fun y a=>hi y (yw _ a);show⟨fun Yw d=>?_,fun y a b=>?_,l.cons z⟩
   .obtain⟨y,h1,c⟩:=i Yw d;show⟨y,yw _ h1,c⟩
   .rcases yE.mp a with k | k
    .subst k;show .inl (Yl fun q=>h ⟨b,q⟩)
    .show j y k b
theorem Two.rows(T:Two ss f g):∀(pl seen:LS),(∀ z∈pl,z∈ss)->ClD f g seen ->
  (∀ Yw∈ptF (nbL ss f g) 1 pl seen,RwW ss f g Yw/\∀ x∈Yw,x∉seen)/\(ptF (nbL ss f g) 1 pl seen).Pairwise (fun V Yw=>∀ x∈Yw,x∉V)
 | [],_,_,_=>⟨(fun Yw h=>by cases h),.nil⟩
 | z::r,seen,hi,hc=>by
  have hz:=T.go (hi z yC);unfold ptF;by_cases h:(nbL ss f g z).length=1/\z∉seen
  .rw [yF h];have R:=T.row (hi z yC) h.1;obtain⟨d,e⟩:=Two.rows T r (seen++wk (nbL ss f g) z) (fun y c=>hi y (yw _ c)) (hc.app R.cl);show⟨fun Yw a=>?_,Y4.mpr ⟨fun Yw a x b q=>(d Yw a).2 x b (yG _ q),e⟩⟩;rcases yE.mp a with k | k
   .rw [k];show⟨R,hz.out T hc h.2⟩
   .show⟨(d Yw k).1,fun x b q=>(d Yw k).2 x b (yT _ q)⟩
  .rw [yz h];show Two.rows T r seen (fun y c=>hi y (yw _ c)) hc
theorem Two.nbM(T:Two ss f g)(z:Str):nbL ss (zY f g U) g z=if z∈U then [] else nbL ss f g z:=by
 unfold nbL Dx zY;by_cases h:z∈U
 .rw [yF h,yF h];simp
 .rw [yz h,yz h]
theorem qd0(T:Two ss f g)(a:ClD f g U)(c:∀ z,z∉U->nb' z=nbL ss f g z):∀(n:Nat) (ns ah:LS),(∀ x∈ah,x∉U)->wkF nb' n ns ah=wkF (nbL ss f g) n ns ah
 | 0,_,_,_=>rfl
 | _+1,_,[],_=>rfl
 | n+1,ns,b::r,h=>by
  unfold wkF;have hb:=h b yC;rw[c b hb];show qd0 T a c n _ _ fun x d q=>hb (a x q b (T.sym (T.mem.mp (yp.mp d).1)))
theorem Two.wk_eq(T:Two ss f g)(a:ClD f g U)(b:∀ z,z∉U->nb' z=nbL ss f g z)(hz:z∉U):wk nb' z=wk (nbL ss f g) z:=by
 unfold wk;rw[b z hz];show qd0 T a b 14 _ _ fun x c q=>hz (a x q z (T.sym (T.mem.mp c)))
theorem Two.none1(T:Two ss f g)(hc:∀ z∈ss,(nbL ss f g z).length=1->z∈U):∀(pl seen:LS),(∀ z∈pl,z∈ss)->ptF (nbL ss (zY f g U) g) 1 pl seen=[]
 | [],_,_=>rfl
 | z::r,seen,hi=>by
  unfold ptF;rw[yz (fun h=>?_)]
  .show Two.none1 T hc r seen fun y a=>hi y (yw _ a)
  .rw [T.nbM] at h;by_cases k:z∈U
   .rw [yF k] at h;show absurd h.1 (by decide)
   .rw [yz k] at h;show k (hc z (hi z yC) h.1)
theorem Two.same2(T:Two ss f g)(a:ClD f g U):∀(pl S:LS),ptF (nbL ss (zY f g U) g) 2 pl S=ptF (nbL ss f g) 2 pl (U++S)
 | [],_=>rfl
 | z::r,S=>by
  unfold ptF;have b:∀ z,z∉U->nbL ss (zY f g U) g z=nbL ss f g z:=fun z k=>by rw[T.nbM,yz k]
  by_cases k:z∈U
  .rw [yz (fun h=>by rw[T.nbM,yF k] at h;show absurd h.1 (by decide)),yz (fun h=>h.2 (yT _ k))];show Two.same2 T a r S
  .rw [b z k,T.wk_eq a b k,Two.same2 T a r (S++wk (nbL ss f g) z),Two.same2 T a r S,Yo];have e:(z∉U++S)=(z∉S):=propext ⟨fun h q=>h (yG _ q),fun h q=>(yB.mp q).elim k h⟩;simp only[e]
end
theorem qa2(c:α->Int):∀{l m:List α},l.Perm m->l.Pairwise (fun a b=>c a<=c b)->m.Pairwise (fun a b=>c a<c b)->l=m
 | [],m,p,_,_=>(List.nil_perm.mp p).symm
 | a::l,[],p,_,_=>by have:=p.length_eq;cases this
 | a::l,b::m,p,h1,h2=>by
  obtain⟨d,f⟩:=Y4.mp h1;obtain⟨g,h⟩:=Y4.mp h2
  have e:a=b:=by
   rcases yE.mp (p.mem_iff.mp yC) with k | k
   .show k
   .have i:=g a k;rcases yE.mp (p.mem_iff.mpr yC) with q | q
    .show q.symm
    .have:=d b q;lk
  subst e;rw[qa2 c (p.cons_inv) f h]
theorem heads_lt(d:ss.Nodup)(h:List.Sublist (L.map hdW) ss):L.Pairwise fun V Yw=>ss.idxOf (hdW V)<ss.idxOf (hdW Yw):=by
 have k:ss.Pairwise fun a b=>ss.idxOf a<ss.idxOf b:=by
  rw[Y6];intro i j e g c;rw[d.idxOf_getElem i e,d.idxOf_getElem j g];show c
 show(YI (f:=hdW) (R:=fun a b=>ss.idxOf a<ss.idxOf b)).mp (k.sublist h)
noncomputable def alk(qs rs:LP):Bool:=(prK qs).length==(prK rs).length&&qbb (prK rs) (prK qs)
def Hts(qs rs:LP):Prop:=∀ q∈qs,pt rs q.1=some q.2/\pt rs q.2=some q.1
theorem hits_iff{rs:LP}:∀{qs:LP},qbb (prK rs) (prK qs)=true↔Hts qs rs
 | []=>⟨fun _ q i=>(by cases i),fun _=>rfl⟩
 | q::r=>by
  have e:prK (q::r)=((.inr q.1:Key),V.str q.2)::((.inr q.2:Key),V.str q.1)::prK r:=rfl;have d:∀ a b:Str,eqV (V.str a) (V.str b)=decide (a=b):=qbg;rw[e];unfold qbb;rw[qU];constructor
  .intro h
   cases f:pt rs q.1 with
   | none=>rw[f] at h;cases h
   | some y =>
    rw[f] at h;dsimp only[Option.map] at h;rw[yS,d] at h;obtain⟨h1,c⟩:=h;unfold qbb at c;rw[qU] at c
    cases g:pt rs q.2 with
    | none=>rw[g] at c;cases c
    | some z =>
     rw[g] at c;dsimp only[Option.map] at c;rw[yS,d] at c;have j:=yk h1;have l:=yk c.1;intro p hp;rcases yE.mp hp with rfl | hp
     .show⟨by rw[f,j],by rw[g,l]⟩
     .show hits_iff.mp c.2 p hp
  .intro h;obtain⟨a,b⟩:=h q yC;rw[a];dsimp only[Option.map];rw[d,yH rfl,Bool.true_and];unfold qbb;rw[qU,b];dsimp only[Option.map];rw[d,yH rfl,Bool.true_and];show hits_iff.mpr fun p hp=>h p (yw _ hp)
theorem alk_iff{rs:LP}:alk qs rs=true↔qs.length=rs.length/\Hts qs rs:=by
 unfold alk;rw[yS,hits_iff,yY,qaG,qaG];show⟨fun h=>⟨by lk,h.2⟩,fun h=>⟨by lk,h.2⟩⟩
noncomputable def lsW(Yw:LS):Str:=Yw.getD (Yw.length-1) ""
noncomputable def gnI(h:Str->Option Str)(Yw:LS):Int:=1-(if h (hdW Yw)=some (Yw.getD 1 "") then 1 else 0)-(if h (lsW Yw)=some (Yw.getD (Yw.length-2) "") then 1 else 0)
structure LdS(ss:LS)(tps:LP)(f g:Str->Option Str)(U:LS)(L:List (LS))(qs:LP):Prop where
 two:Two ss f g
 ok:NOk ss
 dt:DT ss tps
 pf:PF tps f
 pg:PF tps g
 dp:DP tps qs
 pq:pt qs=zY f g U
 cl:ClD f g U
 rows:∀ Yw∈L,RwW ss f g Yw/\∀ x∈Yw,x∉U
 apart:L.Pairwise fun V Yw=>∀ x∈Yw,x∉V
 cov:∀ z∈ss,(nbL ss f g z).length=1->z∈U\/∃ Yw∈L,z∈Yw
section
variable{ss:LS}{tps:LP}{f g:Str->Option Str}{U:LS}{L:List (LS)}{qs rs:LP}
theorem Two.one(T:Two ss f g)(h:Dx f g z b=true)(h1:∀ y,Dx f g z y=true->y=b):(nbL ss f g z).length=1:=by
 have hb:=T.mem.mpr h;have c:=T.nbnd z;have a:∀ y∈nbL ss f g z,y=b:=fun y i=>h1 y (T.mem.mp i)
 match nbL ss f g z,hb,c,a with
 | [x],_,_,_=>rfl
 | x::y::r,_,c,a =>
  have d:=a x (by simp);have e:=a y (by simp);rw[d,e] at c;simp at c
theorem Two.even(T:Two ss f g)(h:(nbL ss f g z).length≠1):(f z).isSome=(g z).isSome:=by
 cases d:f z with
 | none =>
  cases a:g z with
  | none=>rfl
  | some b=>show absurd (T.one (b:=b) (dx_iff.mpr (.inr ⟨by rw[d];simp,a⟩)) fun y c=>by
    rw[dx_iff,d,a] at c;rcases c with⟨k,_⟩ | ⟨_,k⟩
    .cases k
    .show(ym k).symm) h
 | some b =>
  cases a:g z with
  | some _=>rfl
  | none=>show absurd (T.one (b:=b) (dx_iff.mpr (.inl ⟨d,by rw[a];simp⟩)) fun y c=>by
    rw[dx_iff,d,a] at c;rcases c with⟨k,_⟩ | ⟨_,k⟩
    .show(ym k).symm
    .cases k) h
theorem LdS.done(S:LdS ss tps f g U [] qs)(d:DP tps rs)(b:pt rs=g):qs.length=rs.length:=by
 have a:=zV S.ok S.dt S.dp;have i:=zV S.ok S.dt d
 have e:(ss.filter fun s=>(pt qs s).isSome)=ss.filter fun s=>(pt rs s).isSome:=xL fun z hz=>by
  rw[S.pq,b];unfold zY;by_cases k:z∈U
  .rw [yF k]
  .rw [yz k];show S.two.even fun h=>(S.cov z hz h).elim k fun⟨Yw,c,_⟩=>by cases c
 rw[e] at a;lk
theorem RwW.get(h:RwW ss f g Yw):Yw[0]?=some (hdW Yw)/\Yw[1]?=some (Yw.getD 1 "")/\Yw[Yw.length-1]?=some (lsW Yw)/\Yw[Yw.length-2]?=some (Yw.getD (Yw.length-2) ""):=by
 have b:=h.two;have k:∀ i,i<Yw.length->Yw[i]?=some (Yw.getD i ""):=fun i a=>by rw[Yp,yb a];rfl
 show⟨k 0 (by lk),k 1 (by lk),k _ (by lk),k _ (by lk)⟩
theorem LdS.step{L1 d:List (LS)}(S:LdS ss tps f g U (L1++Yw::d) qs):TurnR (pt qs) Yw/\TurnR g Yw/\(∀ a b,zY f g (U++Yw) a=some b↔flipR (pt qs) Yw a b)/\PF tps (zY f g (U++Yw))/\LdS ss tps f g (U++Yw) (L1++d) (rsG ss (zY f g (U++Yw)) ss.length) /\
  ((rsG ss (zY f g (U++Yw)) ss.length).length:Int)=qs.length+gnI (pt qs) Yw/\∀ V∈L1++d,gnI (zY f g (U++Yw)) V=gnI (pt qs) V:=by
 have G:Yw∈L1++Yw::d:=yG _ yC;obtain⟨R,out⟩:=S.rows Yw G;have I:∀ a∈Yw,pt qs a=f a:=fun a H=>by rw[S.pq];unfold zY;rw[yz (out a H)]
 have l:TurnR (pt qs) Yw:=R.turn I fun a b e=>(qbQ S.dp.nd).mp e;have J:TurnR g Yw:=R.swap.turn (fun _ _=>rfl) S.two.gs;have r:∀ a b,zY f g (U++Yw) a=some b↔flipR (pt qs) Yw a b:=fun a b=>by rw[S.pq];show R.flip out a b
 have m:∀ a b,adjR Yw a b->(a,b)∈tps\/(b,a)∈tps:=fun a b h=>by
  rcases dx_iff.mp (R.adj a b h) with⟨k,_⟩ | ⟨_,k⟩
  .show S.pf.tie a b k
  .show S.pg.tie a b k
 have pf:PF tps (zY f g (U++Yw)):=flip_pf l r S.dp.pf m;have j:∀ V∈L1++d,V∈L1++Yw::d:=fun V c=>(yB.mp c).elim (yT _) fun k=>yG _ (yw _ k)
 have v:∀ V∈L1++d,∀ x∈V,x∉Yw:=fun V c x i hw=>by
  obtain⟨w,t,u⟩:=xO.mp S.apart;rcases yB.mp c with k | k
  .show u V k Yw yC x hw i
  .show(Y4.mp t).1 V k x i hw
 show⟨l,J,r,pf,⟨S.two,S.ok,S.dt,S.pf,S.pg,qdZ S.ok S.dt pf,qdk S.ok S.dt pf,S.cl.app R.cl,fun V c=>⟨(S.rows V (j V c)).1,fun x i q=>(yB.mp q).elim ((S.rows V (j V c)).2 x i) (v V c x i)⟩,?_,fun z hz h=>?_⟩,?_,fun V c=>?_⟩
 .obtain⟨w,t,u⟩:=xO.mp S.apart;show xO.mpr ⟨w,(Y4.mp t).2,fun V c y s=>u V c y (yw _ s)⟩
 .rcases S.cov z hz h with k | ⟨V,c,k⟩
  .show .inl (yT _ k)
  .rcases yB.mp c with q | q
   .show .inr ⟨V,yT _ q,k⟩
   .rcases yE.mp q with q | q
    .rw [q] at k;show .inl (yG _ k)
    .show .inr ⟨V,yG _ q,k⟩
 .obtain⟨o,E,p,F⟩:=R.get;have tl:=turn_len S.ok S.dt S.dp l r pf R.inn o p
  have A:(if pt qs (hdW Yw)=some (Yw.getD 1 "") then(1:Int) else 0)=1-(if (pt qs (hdW Yw)).isSome then 0 else 1):=by
   rcases l.fst _ _ o E with k | k<;>rw[k]<;>simp
  have B:(if pt qs (lsW Yw)=some (Yw.getD (Yw.length-2) "") then(1:Int) else 0)=1-(if (pt qs (lsW Yw)).isSome then 0 else 1):=by
   rcases l.lst _ _ p F with k | k<;>rw[k]<;>simp
  unfold gnI;rw[A,B];generalize (rsG ss (zY f g (U++Yw)) ss.length).length=n at tl;cases C:(pt qs (hdW Yw)).isSome<;>cases D:(pt qs (lsW Yw)).isSome<;>rw[C,D] at tl<;>simp only[xV,YR,xT] at tl ⊢<;>lk
 .have R2:=(S.rows V (j V c)).1;obtain⟨o,_,p,_⟩:=R2.get
  have k:∀ x∈V,zY f g (U++Yw) x=pt qs x:=fun x i=>by
   rw[S.pq];unfold zY;have e:(x∈U++Yw)=(x∈U):=propext ⟨fun z=>(yB.mp z).resolve_right (v V c x i),yT _⟩;simp only[e]
  unfold gnI;rw[k _ (ye o),k _ (ye p)]
theorem LdS.len:∀{L:List (LS)} {U:LS} {qs:LP},LdS ss tps f g U L qs->DP tps rs->pt rs=g->(qs.length:Int)+(L.map (gnI (pt qs))).sum=rs.length
 | [],U,qs,S,hr,er=>by rw[S.done hr er];simp
 | Yw::L,U,qs,S,hr,er=>by
  obtain⟨_,_,_,pf,b,e,k⟩:=LdS.step (L1:=[]) S;have a:=LdS.len b hr er;rw[e] at a;rw[qdk S.ok S.dt pf] at a;have c:(([]++L).map (gnI (zY f g (U++Yw))))=L.map (gnI (pt qs)):=List.map_congr_left fun V d=>k V d;rw[c] at a;rw[yV,kn];lk
theorem LdS.alike(S:LdS ss tps f g U [] qs)(K:DP tps rs)(n:pt rs=g):alk qs rs=decide (ptF (nbL ss f g) 2 ss U=[]):=by
 have T:=S.two;obtain⟨N,O,_⟩:=T.pts 2 ss U fun z hz=>hz;rw[Y8,alk_iff,xC];constructor
 .rintro ⟨_,h⟩;show Yl fun a=>?_;obtain⟨Yw,d⟩:=List.exists_mem_of_ne_nil _ a;obtain⟨z,hz,_,E,I⟩:=N Yw d;have o:=T.even (z:=z) (by lk);obtain⟨b,hb⟩:∃ b,b∈nbL ss f g z:=List.exists_mem_of_length_pos (by lk);have l:=T.mem.mp hb
  cases i:f z with
  | none =>
   rw[i] at o
   cases j:g z with
   | none=>rw[dx_iff,i,j] at l;rcases l with⟨k,_⟩ | ⟨_,k⟩<;>cases k
   | some _=>rw[j] at o;cases o
  | some c =>
   have m:pt qs z=some c:=by rw[S.pq];unfold zY;rw[yz I];show i
   have J:g z=some c:=by
    rw[<- n];rcases qbP m with k | k
    .show(h _ k).1
    .show(h _ k).2
   rw[dx_iff,i,J] at l;rcases l with⟨s,t⟩ | ⟨s,t⟩
   .show t s
   .show s t
 .intro h;show⟨S.done K n,fun q m=>?_⟩
  have D:∀ z,pt qs z=g z:=fun z=>by
   rw[S.pq];unfold zY;by_cases k:z∈U
   .rw [yF k]
   .rw [yz k];show qbf fun b=>?_
    have F:Dx f g z b=false:=by
     cases e:Dx f g z b with
     | false=>rfl
     | true =>
      exfalso;have hz:=(T.inn e).1;have u:(nbL ss f g z).length≠1:=fun h1=>(S.cov z hz h1).elim k fun⟨Yw,d,_⟩=>by cases d
      have v:(nbL ss f g z).length≠2:=fun h1=>(O z hz h1).elim k fun⟨Yw,d,_⟩=>by rw[h] at d;cases d
      have p:=T.mem.mpr e;have A:=T.nbnd z;have B:∀ x∈nbL ss f g z,∀ y∈nbL ss f g z,∀ w∈nbL ss f g z,x≠y->w=x\/w=y:=fun x L y M w hw a=>T.third (T.mem.mp L) (T.mem.mp M) (T.mem.mp hw) a
      match nbL ss f g z,u,v,p,A,B with
      | [],_,_,p,_,_=>cases p
      | [_],u,_,_,_,_=>show u rfl
      | [_,_],_,v,_,_,_=>show v rfl
      | x::y::w::r,_,_,_,A,B =>
       obtain⟨C,G⟩:=yo.mp A;obtain⟨H,_⟩:=yo.mp G;rcases B x (by simp) y (by simp) w (by simp) (fun q=>C (by rw[q];simp)) with q | q
       .show C (by rw[<- q];simp)
       .show H (by rw[<- q];simp)
    unfold Dx at F;by_cases h1:f z=some b<;>by_cases E:g z=some b<;>simp[h1,E] at F ⊢
  have:=qdE S.dp.nd (.inl m:(q.1,q.2)∈qs\/(q.2,q.1)∈qs);have j:=qdE S.dp.nd (.inr m:(q.2,q.1)∈qs\/(q.1,q.2)∈qs);rw[n,<- D,<- D];show⟨this,j⟩
end
theorem kD:FnScope ["web","ones","others","near","place","one","other"] ["web","ones","others"] (qg q8):=fS
theorem Kj:FnScope ["near","start","names","ahead"] ["near","start"] (qg zW):=fS
def BxD(d:Addr)(H H':Hp):Prop:=∀ b o,b≠d->H b=some o->H' b=some o
def NrH(H:Hp)(d:Addr)(pl:LS)(nb:Str->LS):Prop:=∃ kvs:List (Key×V),H d=some (.dK kvs)/\kvs.length<=pl.length/\∀ s∈pl,∃ a,jG kvs (.inr s:Key)=some (.ref a)/\H a=some (.lst ((nb s).map V.str))
theorem NrH.same{d:Addr}{pl:LS}(h:NrH H d pl nb)(s:L2.Same H H'):NrH H' d pl nb:=by
 obtain⟨kvs,h1,b,c⟩:=h;show⟨kvs,s _ _ h1,b,fun z hz=>let ⟨a,e1,e2⟩:=c z hz;⟨a,e1,s _ _ e2⟩⟩
theorem NrH.get{d:Addr}{pl:LS}(h:NrH H d pl nb)(hz:z∈pl):∃ a,DGet H d (.str z) (some (.ref a))/\H a=some (.lst ((nb z).map V.str)):=by
 obtain⟨kvs,h1,_,e⟩:=h;obtain⟨a,b,c⟩:=e z hz;have:=DGet.k (k:=Sum.inr z) h1;rw[b] at this;show⟨a,this,c⟩
theorem vNeB{a b:Bool}{Q:VK}(q:Q (.bl (!(a==b))) H):qec K true (.bl a) (.bl b) H Q:=.inl ⟨rfl,rfl,by rw[yF rfl];show q⟩
theorem qd1{o:Option Str}{Q:VK}(q:Q (.bl (decide (o=some t))) H):qdB K (.str t) ((o.map V.str).getD .non) H Q:=by
 cases o with
 | none=>show .inl (.inl (.inl ⟨rfl,rfl,by rw[yz (by decide)];show q⟩))
 | some s =>
  show qeE ?_;rw[show decide (t=s)=decide (some s=some t) from Yx.mpr ⟨fun e=>by rw[e],fun e=>(ym e).symm⟩];show q
inductive spNb(cw:Addr)(vs:List V)(H:Hp)(Q:VK)(E:XK):Prop|mk (x d1 d2:Addr) (ss:LS) (ns:LN) (tps qs rs:LP) (_:vs=[.ref x,.ref d1,.ref d2]) (_:WebAt cw H x ss ns) (_:Adj ss ns tps) (_:H d1=some (.dK (prK qs))) (_:H d2=some (.dK (prK rs))) (_:PF tps (pt qs)) (_:PF tps (pt rs)) (_:DT ss tps) (_:∀(d:Addr) (H':Hp),L2.Same H H'->NrH H' d ss (nbL ss (pt qs) (pt rs))->Q (.ref d) H')
inductive spWk(vs:List V)(H:Hp)(Q:VK)(E:XK):Prop|mk (d:Addr) (ss:LS) (f g:Str->Option Str) (z:Str) (_:vs=[.ref d,.str z]) (_:NrH H d ss (nbL ss f g)) (_:Two ss f g) (_:z∈ss) (_:∀(l:Addr) (H':Hp),L2.Same H H'->H l=none->H' l=some (.lst ((wk (nbL ss f g) z).map V.str))->Q (.ref l) H')
theorem ok_nb(F:Fun K "near_between" "near_between" q8 f fd)(T:Txt K mg cc cw)(Kh:MethOk P w K mg base CX0 1 cw "places" ["self"] (spPls cw))(Kc:MethOk P w K mg base CX0 6 cw "beside" ["self","place"] (spBs cw)):FnOk P w K mg base CX0 7 f fd ["web","ones","others"] (spNb cw):=by
 show F.ok kD fun _ _ _ s H vs Q E hr h=>?_
 .obtain⟨x,d1,d2,ss,ns,tps,qs,rs,rfl,Yw,hA,h1,h2,pf,pg,hD,q⟩:=h;have t:=zC hr;obtain⟨_,_,_,_,_,_,_,_,M⟩:=id Yw;have C:=M.nd;have B:=M.few;show⟨_,(qc (qm (i:=3) kD.nd rfl (yN rfl) jz)
 (qc (jc yQ rfl (qP (K:=K) rfl (qay Kh (hmR hr) (pv 0))) (qo (i:=4) kD.nd rfl (yN rfl))
 (qc (qm (i:=5) kD.nd rfl (Xf rfl) (jr (qds t) (pv 1) (pv 4) ⟨rfl,rfl,rfl,rfl⟩))
 (qc (qm (i:=6) kD.nd rfl (Xf rfl) (jr (qds t) (pv 2) (pv 4) ⟨rfl,rfl,rfl,rfl⟩))
 (qf (qV (jV (sc:=qg q8) (XN:=["web","ones","others","near","place","one","other"]) ["name","one","other"] 1 [5,6] rfl rfl rfl (by room) rfl (by room)
  (qP (K:=K) rfl (qR Kc (hmR hr) (pv 0) (qa (pv 4) qd))) (fun _ _ _ _=>(qo (i:=0) (show(["name","one","other"]:LS).Nodup by room) rfl (yN rfl))) jh
  (fun _ _ _ _=>(j4 (qt (qaA (K:=K) rfl t) (qN (zB (K:=K) rfl t) (pv 0) (pv 1) (qy _)) (qN (zB (K:=K) rfl t) (pv 0) (pv 2) (qy _)) (qy _))))
  (fun _ _ _ _=>(pv 0))) (jg (pv 3) (pv 4) (ji t)))))))
 (qf (qq (pv 3))))),?_⟩
  ext;intro d hd;have S:=qG (Sr H) (o:=.dK []) hd;have X:upd H d (.dK []) d=some (.dK []):=qb;generalize upd H d (.dK [])=H1 at S X;ext;obtain⟨wx,dd,ol,nn,hb,_⟩:=id (Yw.same S);show⟨x,wx,_,rfl,hb,zE (by room),?_⟩;apply⟨x,ss,ns,rfl,Yw.same S,fun R p=>?_⟩;have s2:=qG S (o:=.lst (ss.map V.str)) p;have A:=qG (Sr H1) (o:=.lst (ss.map V.str)) p _ _ X;have Y:upd H1 R (.lst (ss.map V.str)) R=some (.lst (ss.map V.str)):=qb;have ae:R≠d:=fun z=>by rw[z,X] at p;cases p
  generalize upd H1 R (.lst (ss.map V.str))=H2 at s2 A Y;have nd:∀{b:Addr} {o:HO},H b=some o->b≠d:=fun e z=>by rw[z,hd] at e;cases e
  apply .inl ⟨⟨_,.of Y⟩,qQ (xs:=ss.map V.str) (fun i U J=>BxD d H2 J/\NrH J d (ss.take i) (nbL ss (pt qs) (pt rs))/\∃ y4 y5 y6,U=[some (.ref x),some (.ref d1),some (.ref d2),some (.ref d),y4,y5,y6]) ⟨fun b o _ e=>e,⟨[],A,Yi _,(fun s hs=>by simp at hs)⟩,_,_,_,rfl⟩ (fun i U J _ D=>.of (D.1 _ _ ae Y)) (fun i y U J I D=>?_) fun U J D=>?_⟩
  .obtain⟨N,O,y4,y5,y6,rfl⟩:=D;rw[yd] at I;obtain⟨pl,r,rfl⟩:=yn.mp I;have an:=ye r;have c:L2.Same H J:=fun b o e=>N b o (nd e) (s2 b o e);apply zH ?_;apply⟨d1,rfl,.inl ⟨_,.inl (c _ _ h1)⟩,?_⟩;apply⟨_,DGet.k (k:=Sum.inr pl) (c _ _ h1),?_⟩;rw[qU];apply zH ?_;apply⟨d2,rfl,.inl ⟨_,.inl (c _ _ h2)⟩,?_⟩;apply⟨_,DGet.k (k:=Sum.inr pl) (c _ _ h2),?_⟩;rw[qU];ext;obtain⟨ai,aj,aq,ap,Z,_⟩:=id (Yw.same c);show⟨x,ai,_,rfl,Z,zE (by room),?_⟩;apply⟨x,ss,ns,pl,i,rfl,Yw.same c,r,fun J1 af l hl=>?_⟩;have L:=qG af (o:=.lst ((inB ss 0 (ns.getD i 0)).map V.str)) hl;have n:upd J1 l (.lst ((inB ss 0 (ns.getD i 0)).map V.str)) l=some (.lst ((inB ss 0 (ns.getD i 0)).map V.str)):=qb;generalize upd J1 l (.lst ((inB ss 0 (ns.getD i 0)).map V.str))=J2 at L n;have u:(inB ss 0 (ns.getD i 0)).length<=14:=yi (qaE _ _ _) B
   have v:(inB ss 0 (ns.getD i 0)).filter (Dx (pt qs) (pt rs) pl)=nbL ss (pt qs) (pt rs) pl:=by
    rw[qab C,XR];show xL fun b hb=>?_
    cases e:Dx (pt qs) (pt rs) pl b with
    | false=>rfl
    | true =>
     obtain⟨j,hj⟩:=yf hb
     have ag:(pl,b)∈tps\/(b,pl)∈tps:=by
      rcases dx_iff.mp e with⟨k,_⟩ | ⟨_,k⟩
      .show pf.tie _ _ k
      .show pg.tie _ _ k
     have aa:ss.idxOf b=j:=by
      obtain⟨ac,rfl⟩:=yc.mp hj;show C.idxOf_getElem j ac
     rw[aa,(hA i j pl b r hj).mpr ag];rfl
   generalize inB ss 0 (ns.getD i 0)=bs at n u v;show .inl ⟨⟨_,.of n⟩,qX (xs:=bs.map V.str) (fun i ys G=>G=J2/\ys=((bs.take i).filter (Dx (pt qs) (pt rs) pl)).map V.str) ⟨rfl,rfl⟩ (fun i ys G _ g=>by rw[g.1];show .of n) (fun i y ys G I g=>?_) fun ys G g=>?_⟩
   .obtain⟨rfl,rfl⟩:=g;rw[yd] at I;obtain⟨b,hx,rfl⟩:=yn.mp I;have ak:i<bs.length:=(yc.mp hx).1;have al:((bs.take i).filter (Dx (pt qs) (pt rs) pl)).length<=14:=yi (Ye _ _) (by rw[yI];lk);rw[yK,hx,y0];apply qd1 ?_;apply qd1 ?_;show vNeB ?_;show⟨_,rfl,qT (fun r=>?_) (fun r=>?_)⟩
    .ext;show⟨by rw[ya];show qi (by lk),rfl,?_⟩;show _=List.map V.str (_++[b].filter _);rw[yU,yF (show Dx (pt qs) (pt rs) pl b=true from r),yL];rfl
    .show⟨rfl,?_⟩;show _=List.map V.str (_++[b].filter _);rw[yU,yz (show ¬ Dx (pt qs) (pt rs) pl b=true from r),xi,Yg]
   .obtain⟨rfl,rfl⟩:=g;rw[show(bs.map V.str).length=bs.length from ya ..,yO,v];have am:(nbL ss (pt qs) (pt rs) pl).length<=14:=yi (Ye _ _) B;show⟨by rw[ya];show yR (qi (by lk)),fun a ha=>?_⟩;have m:=qG L (o:=.lst ((nbL ss (pt qs) (pt rs) pl).map V.str)) ha;have W:upd G a (.lst ((nbL ss (pt qs) (pt rs) pl).map V.str)) a=some (.lst ((nbL ss (pt qs) (pt rs) pl).map V.str)):=qb;generalize upd G a (.lst ((nbL ss (pt qs) (pt rs) pl).map V.str))=J3 at m W;obtain⟨kvs,k1,k2,k3⟩:=O;ext;have ao:(ss.take i).length<=14:=by rw[yI];lk
    show .inr ⟨d,_,rfl,DPut.k (k:=Sum.inr pl) (m _ _ k1) (qi (by lk)),?_⟩;show⟨fun b o hb e=>by rw[qh hb];show m _ _ (N b o hb e),⟨_,qb,?_,fun z hz=>?_⟩,_,_,_,rfl⟩
    .have:=qO kvs (Sum.inr pl:Key) (.ref a);rw[yK,r,yx];show _<=_+1;lk
    .rw [qag];have ad:a≠d:=jd W (m _ _ k1) (by intro z;cases z);by_cases e:z=pl
     .subst e;show⟨a,yF rfl,by rw[qh ad];show W⟩
     .rw [yK,r] at hz;rcases yB.mp hz with hz | hz
      .obtain⟨a',e1,e2⟩:=k3 z hz;show⟨a',by rw[yz (fun y=>e (YW y))];show e1,by rw[qh (jd e2 k1 (by intro z;cases z))];show m _ _ e2⟩
      .show absurd (yA.mp hz) e
  .obtain⟨N,O,y4,y5,y6,rfl⟩:=D;ext;rw[show(ss.map V.str).length=ss.length from ya ..,yO] at O;show q d J (fun b o e=>N b o (nd e) (s2 b o e)) O
theorem ok_wkd(F:Fun K "walked" "walked" zW f fd)(T:Txt K mg cc cw):FnOk P w K mg base CX0 1 f fd ["near","start"] spWk:=by
 show F.ok Kj fun _ _ _ _ H vs Q E hr h=>?_
 .obtain⟨d,ss,O,g,z,rfl,hN,T2,hz,q⟩:=h;have S:=zC hr;have I:=T2.few;show⟨_,(qc (qm (i:=2) Kj.nd rfl (Xf rfl) (jo (qa (pv 1) qd)))
 (qc (qm (i:=3) Kj.nd rfl (yN rfl) (qu (qv (K:=K) rfl S) (pv 0) (pv 1) (fun _ _=>rfl)))
 (qc (qa6 yQ (qt qcH (qr (jW (K:=K) rfl) rfl T.b_len YF (qa (pv 3) qd)) qe (qy _))
 (qc (zh (qc3 (K:=K) rfl Yj Yr Ys jp (pv 2) (qa (qu (qv (K:=K) rfl S) (pv 3) qe (fun _ _=>rfl)) qd)))
 (qf (qaw (sc:=qg zW) (XN:=["near","start","names","ahead"]) ["name","names"] 1 [2] rfl rfl rfl (by room) rfl (by room) (i:=3) Kj.nd rfl rfl
  (qP (K:=K) rfl (qu (qv (K:=K) rfl S) (pv 0) (qu (qv (K:=K) rfl S) (pv 2) (qcG qaP qe) (fun _ _=>rfl)) (fun _ _=>rfl))) (fun _ _ _ _=>(qo (i:=0) (show(["name","names"]:LS).Nodup by room) rfl (yN rfl))) jh
  (fun _ _ _ _=>(j4 (qt (j5 (K:=K) rfl S) (pv 0) (pv 1) (by with_unfolding_all rfl))))
  (fun _ _ _ _=>(pv 0))))))
 (qf (qq (pv 2)))))),?_⟩
  apply⟨by show 1<=sizeLine;decide,fun p N=>?_⟩;have Y:=qG (Sr H) (o:=.lst [.str z]) N;have el:upd H p (.lst [.str z]) p=some (.lst (([z]:LS).map V.str)):=qb;generalize upd H p (.lst [.str z])=H1 at Y el;have nd:∀{b:Addr} {o:HO},H b=some o->b≠p:=fun e k=>by rw[k,N] at e;cases e
  obtain⟨kvs,k1,_,k3⟩:=hN
  have get:∀{J:Hp} {y:Str} {a:Addr},J d=some (.dK kvs)->jG kvs (.inr y:Key)=some (.ref a)->DGet J d (.str y) (some (.ref a)):=fun{J y a} Z e2=>by
   have:=DGet.k (k:=Sum.inr y) Z;rw[e2] at this;show this
  obtain⟨a0,e0,Z⟩:=k3 z hz;apply .inr ⟨d,_,rfl,get (Y _ _ k1) e0,?_⟩;ext;obtain⟨Yw,L⟩:∃ Yw:Nat->L2.St->Hp->Prop,Yw=fun m σ J=>∃(la:Addr) (ns ah:LS),σ=[some (.ref d),some (.str z),some (.ref p),some (.ref la)]/\BxD p H1 J/\J p=some (.lst (ns.map V.str))/\J la=some (.lst (ah.map V.str))/\la≠p/\ah.length<=14/\Wy ss O g z ns ah/\wkF (nbL ss O g) m ns ah=wk (nbL ss O g) z/\m+ns.length=15:=⟨_,rfl⟩;show⟨Yw,⟨14,by rw[L];show⟨a0,[z],nbL ss O g z,rfl,fun b o _ e=>e,el,Y _ _ Z,nd Z,yi (Ye _ _) I,T2.wy0 hz,rfl,rfl⟩⟩,fun m σ J hW=>?_⟩;rw[L] at hW;obtain⟨la,ns,ah,rfl,bJ,D,t,aj,R,s,A,hm⟩:=hW;apply qaa t ?_;rw[ya];ext;have ai:ns.length<=14:=yi (qK s.nd s.inn) I
  match ah,t,R,s,A with
  | [],t,_,s,A =>
   show yq ?_;ext
   have e:wk (nbL ss O g) z=ns:=by
    rw[<- A];cases m<;>rfl
   show q p J (fun b o k=>bJ b o (nd k) (Y _ _ k)) N ?_;rw[e];show D
  | b::r,t,R,s,A =>
   show qT (fun _=>?_) fun h=>absurd (by simp) h;obtain⟨X,rfl⟩:∃ X,m=X+1:=⟨m-1,by lk⟩;have hS:=T2.wyS s;have ac:b∈ss:=hS.inn b (by simp);show⟨fun ae H'=>∃ k,k<X+1/\Yw k ae H',fun _ _ z=>z,?_⟩;apply⟨.inl ⟨rfl,_,SqL.of D⟩,?_⟩;apply .inl (za t (v:=.str b) (qp (j:=0) rfl) ?_);show⟨p,_,_,rfl,rfl,D,by rw[ya];show qi (by lk),?_⟩;rw[show(ns.map V.str)++[V.str b]=(ns++[b]).map V.str by rw[yL];rfl];have B:BxD p H1 (upd J p (.lst ((ns++[b]).map V.str))):=fun c o n e=>by rw[qh n];show bJ c o n e
   have l:upd J p (.lst ((ns++[b]).map V.str)) p=some (.lst ((ns++[b]).map V.str)):=qb;generalize upd J p (.lst ((ns++[b]).map V.str))=J1 at B l;have U:∀{c:Addr} {o:HO},H c=some o->J1 c=some o:=fun e=>B _ _ (nd e) (Y _ _ e);obtain⟨ab,v1,v2⟩:=k3 b ac;apply⟨1,rfl,?_⟩;show .inl (za l (v:=.str b) (qbh (j:=1) (by decide) (by rw[ya,yx];show Nat.le_add_left _ _) (by rw[ya,yx,yd,show ns.length + [b].length-1=ns.length from rfl,xM];rfl)) ?_);show .inr ⟨d,_,rfl,get (U k1) v1,?_⟩;have C:=U v2;generalize M:nbL ss O g b=bs at C;have aa:bs.length<=14:=by rw[<- M];show yi (Ye _ _) I
   show .inl ⟨⟨_,.of C⟩,qX (xs:=bs.map V.str) (fun i ys G=>G=J1/\ys=((bs.take i).filter fun c=>!decide (c∈ns++[b])).map V.str) ⟨rfl,rfl⟩ (fun i ys G _ x=>by rw[x.1];show .of C) (fun i y ys G hy x=>?_) fun ys G x=>?_⟩
   .obtain⟨rfl,rfl⟩:=x;rw[yd] at hy;obtain⟨c,hx,rfl⟩:=yn.mp hy;have af:i<bs.length:=(yc.mp hx).1;have ag:((bs.take i).filter fun c=>!decide (c∈ns++[b])).length<=14:=yi (Ye _ _) (by rw[yI];lk);rw[yK,hx,y0];apply qdl l ?_;show⟨_,rfl,qT (fun ho=>?_) (fun ho=>?_)⟩
    .ext;show⟨by rw[ya];show qi (by lk),rfl,?_⟩;show _=List.map V.str (_++[c].filter _);rw[yU,yF ho,yL];rfl
    .show⟨rfl,?_⟩;show _=List.map V.str (_++[c].filter _);rw[yU,yz ho,xi,Yg]
   .obtain⟨rfl,rfl⟩:=x;rw[show(bs.map V.str).length=bs.length from ya ..,yO];have ad:(bs.filter fun c=>!decide (c∈ns++[b])).length<=14:=yi (Ye _ _) aa;show⟨by rw[ya];show yR (qi (by lk)),fun W u=>?_⟩;have s3:=qG (Sr G) (o:=.lst ((bs.filter fun c=>!decide (c∈ns++[b])).map V.str)) u;have n2:W≠p:=fun k=>by rw[k,l] at u;cases u
    show⟨X,YN _,?_⟩;rw[L];rw[M] at hS;show⟨W,ns++[b],_,rfl,fun c o n e=>s3 _ _ (B c o n e),s3 _ _ l,qb,n2,ad,hS,?_,by rw[yx];show X+(ns.length+1)=15;lk⟩;rw[<- A,<- M];rfl
theorem kB:FnScope ["web","one","other","near","parts","seen","ends","word","place","names","name"] ["web","one","other"] (qg jL):=fS
theorem yesK_in(h:y∈seen):zm (ze seen) (.inr y:Key) (.bl true)=ze seen:=by
 unfold zm;rw[zq,jt,yF (yH h)];unfold ze;rw[X9];show List.map_congr_left fun s _=>?_;show(if (Sum.inr s:Key)=Sum.inr y then _ else _)=_;split
 .rename_i e
  cases YW e;rfl
 .rfl
theorem qbl:∀(l sn:LS),ptF nb e (l++[z]) sn=ptF nb e l sn++(if (nb z).length=e/\z∉sn++(ptF nb e l sn).flatten then [wk nb z] else [])
 | [],sn=>by
  show(if (nb z).length=e/\z∉sn then wk nb z::[] else [])=[]++_;rw[xE];have a:sn++(ptF nb e [] sn).flatten=sn:=Yg _;rw[a]
 | x::l,sn=>by
  rw[Xm];unfold ptF;by_cases h:(nb x).length=e/\x∉sn
  .rw [yF h,yF h,qbl l,xl,<- Yo];rfl
  .rw [yz h,yz h,qbl l]
def SnH(ss:LS)(H:Hp)(a:Addr)(sn:LS):Prop:=∃ l:LS,H a=some (.dK (ze l))/\l.Nodup/\(∀ x∈l,x∈ss)/\∀ x,x∈l↔x∈sn
def BtO(H:Hp)(t:Addr)(p:Str×LS):Prop:=∃ l,H t=some (.tup [.str p.1,.ref l])/\H l=some (.lst (p.2.map V.str))
def BtL(a:Addr)(H:Hp)(t:Addr)(p:Str×LS):Prop:=∃ l,H t=some (.tup [.str p.1,.ref l])/\H l=some (.lst (p.2.map V.str))/\l≠a
def PtH(H:Hp)(a:Addr)(acc:List (Str×LS)):Prop:=∃ ts:LI,H a=some (.lst (ts.map V.ref))/\All2 (BtL a H) ts acc
noncomputable def ewF(i:Nat):Nat×Str:=if i=0 then(1, "row") else(2, "ring")
noncomputable def stA(nb:Str->LS)(ss:LS):Nat->List (Str×LS)×LS
 | 0=>([],[])
 | i+1=>((stA nb ss i).1++(ptF nb (ewF i).1 ss (stA nb ss i).2).map (fun Yw=>((ewF i).2,Yw)),(stA nb ss i).2++(ptF nb (ewF i).1 ss (stA nb ss i).2).flatten)
theorem PtH.same{b:Addr}{acc:List (Str×LS)}(h:PtH H b acc)(s:L2.Same H H'):PtH H' b acc:=by
 obtain⟨ts,e,a⟩:=h;show⟨ts,s _ _ e,a.mono fun _ _ ⟨l,c,d,n⟩=>⟨l,s _ _ c,s _ _ d,n⟩⟩
theorem SnH.same{a:Addr}{sn:LS}(h:SnH ss H a sn)(s:L2.Same H H'):SnH ss H' a sn:=by
 obtain⟨l,e,r⟩:=h;show⟨l,s _ _ e,r⟩
theorem qad:∀(l sn:LS),(ptF nb e l sn).length<=l.length
 | [],_=>yh _
 | z::l,sn=>by
  unfold ptF;split
  .rw [yM,yM];show X3 (qad l _)
  .rw [yM];show Nat.le_succ_of_le (qad l _)
theorem qb9:∀ i,(stA nb ss i).1.length<=i*ss.length
 | 0=>Yi _
 | i+1=>by
  have h1:(stA nb ss i).1.length<=i*ss.length:=qb9 i;have a:(ptF nb (ewF i).1 ss (stA nb ss i).2).length<=ss.length:=qad ss (stA nb ss i).2;show((stA nb ss i).1++_).length<=_;rw[yx,ya,Nat.succ_mul];lk
noncomputable def zf(ss:LS)(f g:Str->Option Str):List (LS):=ptF (nbL ss f g) 1 ss []
noncomputable def jZ(ss:LS)(f g:Str->Option Str):List (LS):=ptF (nbL ss f g) 2 ss (zf ss f g).flatten
noncomputable def qcD(ss:LS)(f g:Str->Option Str):List (Str×LS):=(zf ss f g).map (fun Yw=>(("row":Str),Yw))++(jZ ss f g).map fun Yw=>(("ring":Str),Yw)
noncomputable def qcO(ss:LS)(p:Str×LS):Int:=(ss.idxOf (hdW p.2):Nat)
noncomputable def lamPosE:Expr->Pos
 | .Call _ _ [⟨_,.Lambda _ _ _ p,_⟩] _=>p
 | _=>⟨0,0,0,0⟩
noncomputable def lamPos(s:Stmt):Pos:=match (jU s).getLast? with
 | some (.Return (some e) _)=>lamPosE e
 | _=>⟨0,0,0,0⟩
abbrev TbB(H:Hp)(P:Addr):Prop:=TbO H P (lamPos jL) ("between"++".<locals>."++"<lambda>")
inductive spBt(cw P:Addr)(vs:List V)(H:Hp)(Q:VK)(E:XK):Prop|mk (x l1 l2:Addr) (ss:LS) (ns:LN) (us1 us2:LI) (tps qs rs:LP) (_:vs=[.ref x,.ref l1,.ref l2]) (_:WebAt cw H x ss ns) (_:Adj ss ns tps) (_:PL H l1 us1 qs) (_:PGo ss tps qs) (_:PL H l2 us2 rs) (_:PGo ss tps rs) (_:DT ss tps) (_:TbB H P) (_:∀(D:Addr) (ts:LI) (ps:List (Str×LS)) (H':Hp),qdC P H H'->TbB H' P->H D=none->H' D=some (.lst (ts.map V.ref))->All2 (BtO H') ts ps->ps.Perm (qcD ss (pt qs) (pt rs))->ps.Pairwise (fun p q=>qcO ss p<=qcO ss q)->Q (.ref D) H')
theorem PGo.pf(h:PGo ss tps qs):PF tps (pt qs):=⟨fun a b e=>(qbQ h.nd).mp e,fun a b e=>(qbP e).elim (fun z=>(h.inn _ z).1) fun z=>(h.inn _ z).1.symm⟩
theorem qdn{f:Str->Option Str}(i:ss.Nodup)(c:ss.length<=14)(d:DT ss tps)(pf:PF tps f)(h:PF tps g):Two ss f g:=⟨i,c,pf.sym,h.sym,fun a b e=>pf.inn d e,fun a b e=>h.inn d e⟩
theorem WebAt.butT{P:Addr}(Yw:WebAt cw H x ss ns)(e:H P=some (.tbl ps))(b:qdC P H H'):WebAt cw H' x ss ns:=by
 obtain⟨h,f,ol,g,hb,a,d,c,hw⟩:=Yw;show⟨h,f,ol,g,b _ _ (jd hb e (by intro z;cases z)) hb,b _ _ (jd a e (by intro z;cases z)) a,b _ _ (jd d e (by intro z;cases z)) d,b _ _ (jd c e (by intro z;cases z)) c,hw⟩
theorem Two.heads{f:Str->Option Str}(T:Two ss f g):∀ p∈qcD ss f g,hdW p.2∈ss/\p.2[0]?=some (hdW p.2):=fun p b=>by
 have k:∀ e sn,∀ Yw∈ptF (nbL ss f g) e ss sn,hdW Yw∈ss/\Yw[0]?=some (hdW Yw):=fun e sn Yw a=>by
  obtain⟨z,hz,rfl,_⟩:=(T.pts e ss sn fun z hz=>hz).1 Yw a;have w:=T.go hz;rw[w.head.1];show⟨hz,w.hd⟩
 unfold qcD at b;rcases yB.mp b with h | h
 .obtain⟨Yw,a,rfl⟩:=YE.mp h;show k _ _ Yw a
 .obtain⟨Yw,a,rfl⟩:=YE.mp h;show k _ _ Yw a
theorem qa3(c:α->β):∀ l:List α,Paired (fun a b=>b=c a) l (l.map c)
 | []=>.nil
 | _::l=>.cons rfl (qa3 c l)
theorem qbR(c:α->β):∀{l:List α} {m:List β},Paired (fun a b=>b=c a) l m->m=l.map c
 | _,_,.nil=>rfl
 | _,_,.cons e h=>by rw[yV,<- qbR c h,e]
theorem ok_bt{f c:Addr}(F:Fun K "between" "between" jL f fd)(T:Txt K mg cc cw)(dm:fd.code=.ref c)(hC:W.CodeHd base c tb)(hB:base.BuiltinsAt mg tb)(Ky:DefOk P w K mg base CX0 7 "near_between" ["web","ones","others"] (spNb cw))(kz:DefOk P w K mg base CX0 9 "partners_in" ["web","pairs"] (spPn cw))(KZ:DefOk P w K mg base CX0 1 "walked" ["near","start"] spWk)(Kh:MethOk P w K mg base CX0 1 cw "places" ["self"] (spPls cw))(kC:MethOk P w K mg base CX0 4 cw "number_of" ["self","place"] (spNum cw)):FnOk P w K mg base CX0 10 f fd ["web","one","other"] (spBt cw tb):=by
 show F.okC dm kB (fun vs H Q E h=>?_) (fun A du s H vs Q E hr h=>?_)
 .cases h;subst_vars;rfl
 .obtain⟨x,l1,l2,ss,ns,dz,ea,tps,qs,rs,rfl,Yw,hA,h1,g1,h2,g2,hD,hT,q⟩:=h;have hu:(A.deeper (envOfC "between" (qg jL) s.heap.objs.size f (.ref c))).units+100<cLine:=by have:=hr.un;lk
  have dq:Room (4+3) (A.deeper (envOfC "between" (qg jL) s.heap.objs.size f (.ref c))):=hr.mono (by decide);obtain⟨_,_,_,_,_,_,_,_,cx⟩:=id Yw;have cj:=cx.nd;have ai:=cx.few;show⟨_,(qc (qm (i:=3) kB.nd rfl (yN rfl) (qk Ky (hmR hr) qx (qa (pv 0) (qa (qk kz (hmR hr) qx (qa (pv 0) (qa (pv 1) qd))) (qa (qk kz (hmR hr) qx (qa (pv 0) (qa (pv 2) qd))) qd)))))
 (qc (qm (i:=4) kB.nd rfl (yN rfl) (jo qd))
 (qc (qm (i:=5) kB.nd rfl (yN rfl) jz)
 (qc (jc yQ rfl (ki_tup (K:=K) rfl (jw (qa (jw (qa qe (qa zF qd))) (qa (jw (qa qe (qa zF qd))) qd)))) (qbq rfl (jq (qo (i:=6) kB.nd rfl (yN rfl)) (jq (qo (i:=7) kB.nd rfl (yN rfl)) qao)))
 (qf (jc yQ rfl (qP (K:=K) rfl (qay Kh (hmR hr) (pv 0))) (qo (i:=8) kB.nd rfl (yN rfl))
 (qf (qM (PW.pt (qaL (qt (zB (K:=K) rfl hu) (qr (jW (K:=K) rfl) rfl T.b_len YF (qa (qu (qv (K:=K) rfl hu) (pv 3) (pv 8) (fun _ _=>rfl)) qd)) (pv 6) (qy _)) (qa5 (qt (j5 (K:=K) rfl hu) (pv 8) (pv 5) (by with_unfolding_all rfl))))) (qc (qm (i:=9) kB.nd rfl (yN rfl) (qk KZ (hmR hr) qx (qa (pv 3) (qa (pv 8) qd))))
 (qc (zh (qc3 (K:=K) rfl Yj Yr Ys jp (pv 4) (qa (jw (qa (pv 7) (qa (pv 9) qd))) qd)))
 (qf (jc yQ rfl (qP (K:=K) rfl (pv 9)) (qo (i:=10) kB.nd rfl (yN rfl))
 (qf (qV jx (jg (pv 5) (pv 10) (ji hu)))))))) qw)))))
 (qf (qq (pe_sortK (K:=K) (iw:=0) rfl T.b_sorted rfl hC hB dq (pv 4) rfl rfl (lam_sc rfl rfl rfl rfl rfl (by room) (by room)) (by decide) rfl rfl rfl (fun _ _ _ _ _=>rfl) (fun _ _ _ _ _ dp=>have hr:=dp.deeper _;have hu:=hu_lam hr;(qR kC (hmR hr) (pv 1) (qa (qu (qv (K:=K) rfl hu) (qu (qv (K:=K) rfl hu) (pv 0) qe (fun _ _=>rfl)) qe (fun _ _=>rfl)) qd)))))))))),?_⟩
  apply⟨x,l1,ss,ns,dz,tps,qs,rfl,Yw,hA,h1,g1,fun d1 H1 s1 ec dj=>?_⟩;apply⟨x,l2,ss,ns,ea,tps,rs,rfl,Yw.same s1,hA,h2.same s1,g2,fun d2 H2 s2 ed dk=>?_⟩;apply⟨x,d1,d2,ss,ns,tps,qs,rs,rfl,(Yw.same s1).same s2,hA,s2 _ _ dj,dk,g1.pf,g2.pf,hD,fun nr H3 s3 hN=>?_⟩;have bu:=(s1.trans s2).trans s3;have T2:Two ss (pt qs) (pt rs):=qdn cj ai hD g1.pf g2.pf;apply⟨by show 0<=sizeLine;decide,fun d bh=>?_⟩;have s4:=qG bu (o:=.lst ([]:List V)) bh;have aq:upd H3 d (.lst []) d=some (.lst ([]:List V)):=qb;have bv:=qG (Sr H3) (o:=.lst ([]:List V)) bh;generalize upd H3 d (.lst [])=H4 at s4 aq bv;have df:=hN.same bv;ext;intro u aw;have ay:=qG (Sr H4) (o:=.dK []) aw;have s5:=qG s4 (o:=.dK []) aw;have cb:upd H4 u (.dK []) u=some (.dK []):=qb;have cp:d≠u:=fun z=>by rw[z,aw] at aq;cases aq
  generalize upd H4 u (.dK [])=H5 at ay s5 cb;have ca:=ay _ _ aq;have dh:=df.same ay;apply⟨by show 2<=sizeLine;decide,fun S cm=>?_⟩;have s6:=qG s5 (o:=.tup [.int 1,.str "row"]) cm;have cs:=qG (Sr H5) (o:=.tup [.int 1,.str "row"]) cm;have cd:upd H5 S (.tup [.int 1,.str "row"]) S=some (.tup [.int 1,.str "row"]):=qb;generalize upd H5 S (.tup [.int 1,.str "row"])=H6 at s6 cs cd;apply⟨by show 2<=sizeLine;decide,fun U bi=>?_⟩;have s7:=qG s6 (o:=.tup [.int 2,.str "ring"]) bi;have ct:=qG cs (o:=.tup [.int 2,.str "ring"]) bi;have R:=qG (Sr H6) (o:=.tup [.int 2,.str "ring"]) bi _ _ cd;have ar:upd H6 U (.tup [.int 2,.str "ring"]) U=some (.tup [.int 2,.str "ring"]):=qb;generalize upd H6 U (.tup [.int 2,.str "ring"])=H7 at s7 ct R ar;apply⟨by show 2<=sizeLine;decide,fun t3 bj=>?_⟩;have s8:=qG s7 (o:=.tup [.ref S,.ref U]) bj;have ao:=qG ct (o:=.tup [.ref S,.ref U]) bj;have N:=qG (Sr H7) (o:=.tup [.ref S,.ref U]) bj;have L:upd H7 t3 (.tup [.ref S,.ref U]) t3=some (.tup [.ref S,.ref U]):=qb;generalize upd H7 t3 (.tup [.ref S,.ref U])=H8 at s8 ao N L;have eg:=dh.same ao;have ad:=ao _ _ ca;have af:=ao _ _ cb
  have r:∀{b:Addr} {o:HO},H3 b=some o->b≠d/\b≠u/\H8 b=some o:=fun{b o} e=>by
   have n1:b≠d:=fun z=>by rw[z,bh] at e;cases e
   have e4:=bv _ _ e;have n2:b≠u:=fun z=>by rw[z,aw] at e4;cases e4
   show⟨n1,n2,ao _ _ (ay _ _ e4)⟩
  generalize av:nbL ss (pt qs) (pt rs)=nb at *;show⟨t3,rfl,⟨_,SqT.of L⟩,for_tup (xs:=[.ref S,.ref U]) (fun i Y J=>(∀ b o,b≠d->b≠u->H8 b=some o->J b=some o)/\PtH J d (stA nb ss i).1/\SnH ss J u (stA nb ss i).2/\∃ y6 y7 y8 y9 g,Y=[some (.ref x),some (.ref l1),some (.ref l2),some (.ref nr),some (.ref d),some (.ref u),y6,y7,y8,y9,g]) ⟨fun b o _ _ e=>e,⟨[],ad,.nil⟩,⟨[],af,.nil,(fun x h=>by cases h),fun x=>Iff.rfl⟩,_,_,_,_,_,rfl⟩ (fun i Y J _ B=>.of (B.1 _ _ (fun z=>by rw[z,ad] at L;cases L) (fun z=>by rw[z,af] at L;cases L) L)) (fun i y Y J I B=>?_) fun Y J B=>?_⟩
  .obtain⟨bJ,aj,bg,y6,y7,y8,y9,g,rfl⟩:=B
   obtain⟨ti,rfl,ce⟩:∃ ti,y=.ref ti/\J ti=some (.tup [.int ((ewF i).1:Nat),.str (ewF i).2]):=by
    have nt:∀{b:Addr} {xs:List V},H8 b=some (.tup xs)->b≠d/\b≠u:=fun e=>⟨fun z=>(by rw[z,ad] at e;cases e),fun z=>by rw[z,af] at e;cases e⟩
    match i,I with
    | 0,I=>cases I;show⟨S,rfl,bJ _ _ (nt (N _ _ R)).1 (nt (N _ _ R)).2 (N _ _ R)⟩
    | 1,I=>cases I;show⟨U,rfl,bJ _ _ (nt (N _ _ ar)).1 (nt (N _ _ ar)).2 (N _ _ ar)⟩
    | i+2,I=>cases I
   show⟨ti,_,rfl,SqT.of ce,rfl,_,_,rfl,_,_,rfl,rfl,?_⟩;have al:stA nb ss (i+1)=((stA nb ss i).1++(ptF nb (ewF i).1 ss (stA nb ss i).2).map (fun Yw=>((ewF i).2,Yw)),(stA nb ss i).2++(ptF nb (ewF i).1 ss (stA nb ss i).2).flatten):=rfl
   have eb:(stA nb ss i).1.length<=28:=by
    have h1:=qb9 (nb:=nb) (ss:=ss) i;have hi:i<2:=(yc.mp I).1;have:i*ss.length<=1*14:=Nat.mul_le_mul (by lk) ai;lk
   rw[al];generalize (ewF i).2=X at *;generalize (ewF i).1=en at *;generalize (stA nb ss i).1=acc at *;generalize (stA nb ss i).2=sn at *;clear al ce I;have sJ:L2.Same H3 J:=fun b o e=>bJ b o (r e).1 (r e).2.1 (r e).2.2;have WJ:=(Yw.same bu).same sJ;ext;obtain⟨wx,dd,ol,nn,hb,_⟩:=id WJ;show⟨x,wx,_,rfl,hb,zE (by room),?_⟩;apply⟨x,ss,ns,rfl,WJ,fun lb ak=>?_⟩;have sb:=qG (Sr J) (o:=.lst (ss.map V.str)) ak;have bb:upd J lb (.lst (ss.map V.str)) lb=some (.lst (ss.map V.str)):=qb;have cn:lb≠d:=fun z=>by obtain⟨ts,e,_⟩:=aj;rw[z,e] at ak;cases ak
   have co:lb≠u:=fun z=>by obtain⟨ts,e,_⟩:=bg;rw[z,e] at ak;cases ak
   generalize upd J lb (.lst (ss.map V.str))=J1 at sb bb;show .inl ⟨⟨_,.of bb⟩,qQ (xs:=ss.map V.str) (fun j Y G=>(∀ b o,b≠d->b≠u->J1 b=some o->G b=some o)/\PtH G d (acc++(ptF nb en (ss.take j) sn).map fun Yw=>(X,Yw))/\SnH ss G u (sn++(ptF nb en (ss.take j) sn).flatten)/\∃ y8 y9 g,Y=[some (.ref x),some (.ref l1),some (.ref l2),some (.ref nr),some (.ref d),some (.ref u),some (.int (en:Nat)),some (.str X),y8,y9,g]) ⟨fun b o _ _ e=>e,by rw[kj];unfold ptF;rw[Xe,Yg];show aj.same sb,by rw[kj];unfold ptF;rw[List.flatten_nil,Yg];show bg.same sb,_,_,_,rfl⟩ (fun j Y G _ B=>.of (B.1 _ _ cn co bb)) (fun j y Y G I B=>?_) fun Y G B=>?_⟩
   .obtain⟨bG,Z,aa,y8,y9,g,rfl⟩:=B;rw[yd] at I;obtain⟨z,hz,rfl⟩:=yn.mp I;have bn:=ye hz;have ci:j<ss.length:=(yc.mp hz).1;have sG:L2.Same H3 G:=fun b o e=>bG b o (r e).1 (r e).2.1 (sb _ _ (sJ _ _ e));have tk:ss.take (j+1)=ss.take j++[z]:=by rw[yK,hz];rfl
    have pl:=qad (nb:=nb) (e:=en) (ss.take j) sn;rw[yI] at pl;rw[tk,qbl];generalize ptF nb en (ss.take j) sn=pf at Z aa pl
    have stay:¬ ((nb z).length=en/\z∉sn++pf.flatten)->∀ bw,(∃ y8 y9 g,bw=[some (V.ref x),some (V.ref l1),some (V.ref l2),some (V.ref nr),some (V.ref d),some (V.ref u),some (V.int (en:Nat)),some (V.str X),y8,y9,g])->(∀ b o,b≠d->b≠u->J1 b=some o->G b=some o)/\PtH G d (acc++(pf++(if (nb z).length=en/\z∉sn++pf.flatten then [wk nb z] else [])).map fun Yw=>(X,Yw))/\SnH ss G u (sn++(pf++(if (nb z).length=en/\z∉sn++pf.flatten then [wk nb z] else [])).flatten)/\∃ y8 y9 g,bw=[some (V.ref x),some (V.ref l1),some (V.ref l2),some (V.ref nr),some (V.ref d),some (V.ref u),some (V.int (en:Nat)),some (V.str X),y8,y9,g]:=fun h bw ds=>by
     rw[yz h,Yg];show⟨bG,Z,aa,ds⟩
    obtain⟨an,dg,da⟩:=(hN.same sG).get bn;apply .inr ⟨nr,_,rfl,dg,?_⟩;apply qaa da ?_;rw[ya];apply qeG ?_;apply qT (fun h1=>?_) (fun h1=>?_)
    .have db:(nb z).length=en:=by have:=yk h1;lk
     obtain⟨sl,bd,dv,dw,ap⟩:=id aa;apply .inr (.inl ⟨u,_,rfl,DGet.k (k:=Sum.inr z) bd,?_⟩);rw[yF rfl,jt];apply qT (fun h2=>?_) (fun h2=>?_)
     .have dc:z∉sn++pf.flatten:=fun k=>by rw[yH ((ap z).mpr k)] at h2;cases h2
      rw[yF ⟨db,dc⟩];apply⟨nr,ss,pt qs,pt rs,z,rfl,by rw[av];show hN.same sG,T2,bn,fun lw G1 cu au bc=>?_⟩;rw[av] at bc;have ax:=T2.go bn;rw[av] at ax;have ef:(wk nb z).length<=14:=yi (qK ax.nd ax.inn) ai;have cv:=ax.inn;obtain⟨ts,ag,ac⟩:=Z
      have bm:ts.length<=42:=by
       have:=ac.len;rw[yx,ya] at this;lk
      apply⟨.inl ⟨rfl,_,SqL.of (cu _ _ ag)⟩,?_⟩;apply⟨by show 2<=sizeLine;decide,fun tp dr=>?_⟩;have az:=qG (Sr G1) (o:=.tup [.str X,.ref lw]) dr;have be:upd G1 tp (.tup [.str X,.ref lw]) tp=some (.tup [.str X,.ref lw]):=qb;generalize upd G1 tp (.tup [.str X,.ref lw])=G2 at az be;have C:=cu.trans az;have ba:=C _ _ ag;apply⟨d,_,_,rfl,rfl,ba,by rw[ya];show qi (by lk),?_⟩;rw[show(ts.map V.ref)++[V.ref tp]=(ts++[tp]).map V.ref by rw[yL];rfl];have br:lw≠d:=fun k=>by rw[k,ag] at au;cases au
      have dt:u≠d:=Yn cp;have kp:∀ b o,b≠d->G2 b=some o->upd G2 d (.lst ((ts++[tp]).map V.ref)) b=some o:=fun b o n e=>by rw[qh n];show e
      have cq:∀{b:Addr} {xs:List V},G2 b=some (.tup xs)->b≠d:=fun e k=>by rw[k,ba] at e;cases e
      have cg:PtH (upd G2 d (.lst ((ts++[tp]).map V.ref))) d (acc++(pf++[wk nb z]).map fun Yw=>(X,Yw)):=by
       show⟨ts++[tp],qb,?_⟩;have em:(acc++(pf++[wk nb z]).map fun Yw=>(X,Yw))=(acc++pf.map fun Yw=>(X,Yw))++[(X,wk nb z)]:=by rw[yL,Yo];rfl
       rw[em];show All2.snoc (ac.mono fun t p ⟨l,e1,e2,n⟩=>⟨l,kp _ _ (cq (C _ _ e1)) (C _ _ e1),kp _ _ n (C _ _ e2),n⟩) ⟨lw,kp _ _ (cq be) be,kp _ _ br (az _ _ bc),br⟩
      have O:=kp _ _ dt (C _ _ bd);have ae:=kp _ _ br (az _ _ bc);have bx:∀ b o,b≠d->b≠u->J1 b=some o->upd G2 d (.lst ((ts++[tp]).map V.ref)) b=some o:=fun b o n1 n2 e=>kp b o n1 (C _ _ (bG b o n1 n2 e));generalize upd G2 d (.lst ((ts++[tp]).map V.ref))=G3 at cg O ae bx;have cr:lw≠u:=fun k=>by rw[k,bd] at au;cases au
      apply .inl ⟨⟨_,.of ae⟩,qQ (xs:=(wk nb z).map V.str) (fun k Y M=>(∀ b o,b≠u->G3 b=some o->M b=some o)/\SnH ss M u ((sn++pf.flatten)++(wk nb z).take k)/\∃ g,Y=[some (.ref x),some (.ref l1),some (.ref l2),some (.ref nr),some (.ref d),some (.ref u),some (.int (en:Nat)),some (.str X),some (.str z),some (.ref lw),g]) ⟨fun b o _ e=>e,⟨sl,O,dv,dw,fun y=>by rw[kj,Yg];show ap y⟩,_,rfl⟩ (fun k Y M _ B=>.of (B.1 _ _ cr ae)) (fun k y Y M I B=>?_) fun Y M B=>?_⟩
      .obtain⟨bM,⟨l,el,bq,bp,bo⟩,g,rfl⟩:=B;rw[yd] at I;obtain⟨nm,ck,rfl⟩:=yn.mp I;have eh:l.length<=14:=yi (qK bq bp) ai;apply .inr ⟨u,_,rfl,DPut.k (k:=Sum.inr nm) el (by unfold ze;rw[ya];show qi (by lk)),?_⟩;show⟨fun b o n e=>by rw[qh n];show bM b o n e,?_,_,rfl⟩;rw[yK,ck,<- Yo];by_cases as:nm∈l
       .rw [yesK_in as];show⟨l,qb,bq,bp,fun y=>?_⟩;rw[bo y];show⟨yT _,fun k=>(yB.mp k).elim id fun k=>?_⟩;rw[yA.mp k];show(bo nm).mp as
       .rw [zx as];show⟨l++[nm],qb,Yt.mpr ⟨bq,xx _ _,fun a ha b hb e=>?_⟩,fun y I=>?_,fun y=>?_⟩
        .rw [yA.mp hb] at e;rw[e] at ha;show as ha
        .rcases yB.mp I with k | k
         .show bp y k
         .rw [yA.mp k];show cv _ (ye ck)
        .rw [yB,yB,bo y];rfl
      .obtain⟨bM,ch,g,rfl⟩:=B;rw[show((wk nb z).map V.str).length=(wk nb z).length from ya ..,yO] at ch;show⟨fun b o n1 n2 e=>bM b o n2 (bx b o n1 n2 e),?_,?_,_,_,_,rfl⟩
       .obtain⟨dy,e1,e2⟩:=cg;show⟨dy,bM _ _ cp e1,e2.mono fun t p ⟨l,k1,k2,n⟩=>⟨l,bM _ _ (fun k=>by rw[k,O] at k1;cases k1) k1,bM _ _ (fun k=>by rw[k,O] at k2;cases k2) k2,n⟩⟩
       .rw [List.flatten_append,<- Yo];have e1:([wk nb z]:List (LS)).flatten=wk nb z:=by simp
        rw[e1];show ch
     .ext;show stay (fun k=>h2 (by rw[yl (fun y=>k.2 ((ap z).mp y))];rfl)) _ ⟨_,_,_,rfl⟩
    .show yq ?_;apply stay (fun k=>h1 (yH (by have:=k.1;lk))) _ ⟨_,_,_,rfl⟩
   .obtain⟨bG,Z,aa,y8,y9,g,rfl⟩:=B;rw[show(ss.map V.str).length=ss.length from ya ..,yO] at Z aa;show⟨fun b o n1 n2 e=>bG b o n1 n2 (sb _ _ (bJ b o n1 n2 e)),Z,aa,_,_,_,_,_,rfl⟩
  .obtain⟨bJ,aj,bg,y6,y7,y8,y9,g,rfl⟩:=B;have sJ:L2.Same H3 J:=fun b o e=>bJ b o (r e).1 (r e).2.1 (r e).2.2;have am:=bu.trans sJ
   have e2:(stA nb ss ([V.ref S,V.ref U]:List V).length).1=qcD ss (pt qs) (pt rs):=by
    unfold qcD jZ zf;rw[av];show([]++_)++_=_;rw[xE];rfl
   rw[e2] at aj;have dl:=T2.heads
   have ee:(qcD ss (pt qs) (pt rs)).length<=28:=by
    rw[<- e2];have h1:=qb9 (nb:=nb) (ss:=ss) ([V.ref S,V.ref U]:List V).length;have:([V.ref S,V.ref U]:List V).length*ss.length<=2*14:=Nat.mul_le_mul (yh _) ai;lk
   generalize ei:qcD ss (pt qs) (pt rs)=PT at *;obtain⟨ts,ag,ac⟩:=aj;have bm:=ac.len;obtain⟨ej,hP,_⟩:=id hT;have bf:=am _ _ hP;have bz:∀{H':Hp} {t:Addr} {p:Str×LS},qdC tb J H'->BtL d J t p->BtO H' t p:=fun{H' t p} b ⟨l,k1,k2,_⟩=>⟨l,b _ _ (jd k1 bf (by intro z;cases z)) k1,b _ _ (jd k2 bf (by intro z;cases z)) k2⟩;apply⟨_,rfl,?_⟩;show⟨d,ts.map V.ref,PT.map (qcO ss),.ref x,rfl,SqL.of ag,by rw[ya,ya,bm],by rw[ya];lk,hT.same am,rfl,fun i v k H' hv hk bt=>?_,fun D ys H' bt di de eD ks=>?_⟩
   .rw [yd] at hv hk;obtain⟨t,ht,rfl⟩:=yn.mp hv;obtain⟨p,B,rfl⟩:=yn.mp hk;obtain⟨l,k1,k2⟩:=bz bt (ac.at_ i t p ht B);obtain⟨cy,cz⟩:=dl p (ye B);have WH:=(Yw.same am).butT bf bt;obtain⟨wx,dd,ol,nn,hb,_⟩:=id WH;apply⟨x,wx,_,rfl,hb,zE (by room),?_⟩;apply .inl (.inr (.inl ⟨t,_,_,_,rfl,rfl,SqT.of k1,rfl,?_⟩));apply .inl (za k2 (v:=.str (hdW p.2)) (qp (j:=0) (by rw[yd,cz];rfl)) ?_)
    have dn:ss[ss.idxOf (hdW p.2)]?=some (hdW p.2):=by
     obtain⟨j,hj⟩:=yf cy;obtain⟨ci,e⟩:=yc.mp hj;have:ss.idxOf (hdW p.2)=j:=by rw[<- e];show cj.idxOf_getElem j ci
     rw[this];show hj
    show⟨x,ss,ns,hdW p.2,ss.idxOf (hdW p.2),rfl,WH,dn,fun H2 s2=>⟨rfl,s2⟩⟩
   .obtain⟨pz,z1,rfl,z3⟩:=ks
    have hz:(PT.map (qcO ss)).zip (ts.map V.ref)=(PT.zip ts).map fun a=>(qcO ss a.1,V.ref a.2):=by
     rw[List.zip_map];rfl
    rw[hz] at z1;obtain⟨m,m1,m2⟩:=qaB z1.symm (qa3 (fun a:(Str×LS)×Addr=>(qcO ss a.1,V.ref a.2)) (PT.zip ts));have m3:=qbR _ m2;subst m3;have cf:(PT.zip ts).map Prod.fst=PT:=List.map_fst_zip (Xc bm.symm);show q D (m.map Prod.snd) (m.map Prod.fst) H' (fun b o n e=>bt b o n (am _ _ e)) di (am.free de) (by rw[eD,X9,X9];rfl) ⟨by rw[ya,ya],fun k t p ht B=>?_⟩ ?_ ?_
    .rw [yd] at ht B;obtain⟨a,ha,rfl⟩:=yn.mp ht;rw[ha] at B;cases B;have hm:=m1.mem_iff.mp (ye ha);obtain⟨j,hj⟩:=yf hm;rw[List.getElem?_zip_eq_some] at hj;show bz bt (ac.at_ j _ _ hj.2 hj.1)
    .have:=m1.map Prod.fst;rw[cf] at this;show this
    .show YI.mpr ((YI.mp z3).imp fun h=>h)
theorem KG:FnScope ["web","one","other"] ["web","one","other"] (qg j9):=fS
theorem Kk:FnScope ["_law_pairs_here","_law_row","_law_partners_here","_law_first","_law_last"] ["_law_pairs_here","_law_row"] (qg qan):=fS
theorem qcE(qs:LP):∀ p∈prK qs,jF p.2=true:=fun p a=>by
 obtain⟨q,_,h⟩:=xv.mp a;simp only[yE,yZ,Y2] at h;rcases h with rfl | rfl<;>rfl
inductive spAlQ(cw:Addr)(vs:List V)(H:Hp)(Q:VK)(E:XK):Prop|mk (x l1 l2:Addr) (ss:LS) (ns:LN) (us1 us2:LI) (tps qs rs:LP) (_:vs=[.ref x,.ref l1,.ref l2]) (_:WebAt cw H x ss ns) (_:Adj ss ns tps) (_:PL H l1 us1 qs) (_:PGo ss tps qs) (_:PL H l2 us2 rs) (_:PGo ss tps rs) (_:∀ H',L2.Same H H'->Q (.bl (alk qs rs)) H')
inductive spGnQ(vs:List V)(H:Hp)(Q:VK)(E:XK):Prop|mk (r a:Addr) (us:LI) (qs:LP) (Yw:LS) (_:vs=[.ref r,.ref a]) (_:PL H r us qs) (_:(qj qs).Nodup) (_:qs.length<=1000) (_:H a=some (.lst (Yw.map V.str))) (_:2<=Yw.length) (_:∀ H',L2.Same H H'->Q (.int (gnI (pt qs) Yw)) H')
theorem ok_alQ(F:Fun K "are_alike" "are_alike" j9 f fd)(T:Txt K mg cc cw)(m:DefOk P w K mg base CX0 9 "partners_in" ["web","pairs"] (spPn cw)):FnOk P w K mg base CX0 10 f fd ["web","one","other"] (spAlQ cw):=by
 show F.ok KG fun _ _ _ _ H vs Q E c h=>?_
 .obtain⟨x,v,y,ss,ns,e,g,tps,qs,rs,rfl,Yw,i,h1,r,t,s,q⟩:=h;have u:=zC c;show⟨_,(qf (qq (qN (k_eqY (K:=K) rfl u) (qk m (hmR c) qx (qa (pv 0) (qa (pv 1) qd))) (qk m (hmR c) qx (qa (pv 0) (qa (pv 2) qd))) (qy _)))),?_⟩;apply⟨x,v,ss,ns,e,tps,qs,rfl,Yw,i,h1,r,fun o H1 d j a=>?_⟩;apply⟨x,y,ss,ns,g,tps,rs,rfl,Yw.same d,i,t.same d,s,fun p H2 n l b=>?_⟩;show .inr ⟨o,p,_,_,rfl,rfl,n _ _ a,b,qcE _,qcE _,q H2 (d.trans n)⟩
theorem ok_gnQ(F:Fun K "_law_gain" "_law_gain" qan f fd)(T:Txt K mg cc cw)(x:DefOk P w K mg base CX0 1 "_law_partners" ["_law_pairs_here"] spPtA):FnOk P w K mg base CX0 2 f fd ["_law_pairs_here","_law_row"] spGnQ:=by
 show F.ok Kk fun _ _ _ _ H vs Q E t h=>?_
 .obtain⟨r,a,us,qs,Yw,rfl,y,G,o,z,I,q⟩:=h;have g:=zC t;have l:∀ i,i<Yw.length->Yw[i]?=some (Yw.getD i ""):=fun i B=>by rw[Yp,yb B];rfl
  have at_:∀{j:Nat} {n:Str},Yw[j]?=some n->(Yw.map V.str)[j]?=some (.str n):=fun e=>by rw[yd,e];rfl
  have c:∀{j:Nat} {n:Str},1<=j->j<=Yw.length->Yw[Yw.length-j]?=some n->atI (Yw.map V.str) (-(j:Int))=some (.str n):=fun C D e=>qbh C (by rw[ya];show D) (by rw[ya];show at_ e);show⟨_,(qc (qm (i:=2) Kk.nd rfl (yN rfl) (qk x (hmR t) qx (qa (pv 0) qd)))
 (qc (qm (i:=3) Kk.nd rfl (yN rfl) (zj qbt rfl T.b_int boot_int (qa (qN (zB (K:=K) rfl g) (jr (qds g) (pv 2) (qu (qv (K:=K) rfl g) (pv 1) qe (fun _ _=>rfl)) ⟨rfl,rfl,rfl,rfl⟩) (qu (qv (K:=K) rfl g) (pv 1) qe (fun _ _=>rfl)) (qy _)) qd)))
 (qc (qm (i:=4) Kk.nd rfl (yN rfl) (zj qbt rfl T.b_int boot_int (qa (qN (zB (K:=K) rfl g) (jr (qds g) (pv 2) (qu (qv (K:=K) rfl g) (pv 1) (qcG qaP qe) (fun _ _=>rfl)) ⟨rfl,rfl,rfl,rfl⟩) (qu (qv (K:=K) rfl g) (pv 1) (qcG qaP qe) (fun _ _=>rfl)) (qy _)) qd)))
 (qf (qq (qB qcg (qB qcg qe (pv 3)) (pv 4))))))),?_⟩
  apply⟨r,us,qs,rfl,y,G,o,fun d H1 u A m=>?_⟩;have b:=u _ _ z;apply zH ?_;apply⟨d,rfl,.inl ⟨_,.inl m⟩,?_⟩;apply .inl (za b (v:=.str (hdW Yw)) (qp (j:=0) (at_ (l 0 (by lk)))) ?_);show⟨_,DGet.k (k:=Sum.inr (hdW Yw)) m,?_⟩;rw[qU];apply .inl (za b (v:=.str (Yw.getD 1 "")) (qp (j:=1) (at_ (l 1 (by lk)))) ?_);show qdF ?_;apply .inr ⟨_,rfl,?_⟩;apply zH ?_;apply⟨d,rfl,.inl ⟨_,.inl m⟩,?_⟩;apply⟨1,rfl,?_⟩;show .inl (za b (v:=.str (lsW Yw)) (c (j:=1) (by decide) (by lk) (l _ (by lk))) ?_);show⟨_,DGet.k (k:=Sum.inr (lsW Yw)) m,?_⟩;rw[qU];apply⟨2,rfl,?_⟩;show .inl (za b (v:=.str (Yw.getD (Yw.length-2) "")) (c (j:=2) (by decide) (by lk) (l _ (by lk))) ?_);show qdF ?_;apply .inr ⟨_,rfl,?_⟩;ext;have e:=q H1 u;unfold gnI at e;have s:∀(p:Prop) [Decidable p],(if decide p=true then(1:Int) else 0)=if p then 1 else 0:=fun p _=>by by_cases h:p<;>simp[h]
  rw[s,s];show e
theorem qbm(b:DT ss tps)(a:DP tps qs):PGo ss tps qs:=⟨fun q c=>⟨a.ok q c,by
 rcases a.ok q c with z | z
 .show b.ok _ z
 .obtain⟨h1,d,e⟩:=b.ok _ z;show⟨d,h1,Yn e⟩⟩,a.nd,a.few⟩
theorem qdo(n:(qj qs).Nodup)(h:TurnR (pt qs) Yw)(inn:∀ x∈Yw,x∈ss)(i:Yw.length<=1000)(c:∀ a b,adjR Yw a b->(a,b)∈tps\/(b,a)∈tps):RowG ss tps qs Yw:=by
 show⟨h.nd,h.two,i,inn,fun j ab e=>?_,fun j ab d f g=>?_,h.fst,h.lst⟩
 .obtain⟨f,g⟩:=stp_at.mp e;show c _ _ ⟨j,.inl ⟨f,g⟩⟩
 .obtain⟨o,l⟩:=stp_at.mp f;obtain⟨m,p⟩:=stp_at.mp g;rw[l] at m;have e:ab.2=d.1:=ym m;have k:=h.alt j ab.1 ab.2 d.2 o l (by rw[show j+2=j+1+1 from rfl];show p);unfold prB;rw[<- e];by_cases z:pt qs ab.2=some d.2
  .rw [yH z,yl fun y=>(k.mp ((qbQ n).mp y)) z];rfl
  .rw [yl z,yH ((qbQ n).mpr (k.mpr z))];rfl
theorem zX:∀(l s a:LS),(∀ x,x∈s↔x∈a)->ptF nb e l s=ptF nb e l a
 | [],_,_,_=>rfl
 | z::l,s,a,h=>by
  unfold ptF;have b:(z∉s)=(z∉a):=propext (not_congr (h z));simp only[b];rw[zX l s a h,zX l (s++wk nb z) (a++wk nb z) fun x=>by rw[yB,yB,h x]]
theorem lst_ne3{a b c:Int}:(HO.lst (Yw.map V.str))≠.lst [.int a,.int b,.int c]:=fun z=>by
 have d:=HO.lst.inj z
 match Yw,d with
 | [],d=>cases d
 | _::_,d=>cases d
theorem Pn.ne(h:Pn N H p)(e:H l=some (.lst (Yw.map V.str))):l≠p:=by
 obtain⟨a,b,c,d,_⟩:=h;show jd e d lst_ne3
theorem Pn.neT(h:Pn N H p)(e:H l=some (.tup xs)):l≠p:=by
 obtain⟨a,b,c,d,_⟩:=h;show jd e d (by intro z;cases z)
noncomputable def rwL(ps:List (Str×LS)):List (LS):=(ps.filter fun p:Str×LS=>decide (p.1=("row":Str))).map Prod.snd
noncomputable def rgL(ps:List (Str×LS)):List (Str×LS):=ps.filter fun p:Str×LS=>decide (p.1=("ring":Str))
theorem rw_perm{f:Str->Option Str}{ps:List (Str×LS)}(p:ps.Perm (qcD ss f g)):(rwL ps).Perm (zf ss f g):=by
 have h:=(p.filter fun p:Str×LS=>decide (p.1=("row":Str))).map Prod.snd;unfold qcD at h;rw[y0,xX,xX] at h;have a:((zf ss f g).filter ((fun p:Str×LS=>decide (p.1=("row":Str))) ∘ fun Yw=>(("row":Str),Yw)))=zf ss f g:=XG.mpr fun _ _=>rfl;have b:((jZ ss f g).filter ((fun p:Str×LS=>decide (p.1=("row":Str))) ∘ fun Yw=>(("ring":Str),Yw)))=[]:=Xi.mpr fun _ _ h=>by cases h
 rw[a,b,Xe,Yg,X9] at h;have c:(zf ss f g).map (Prod.snd ∘ fun Yw=>(("row":Str),Yw))=zf ss f g:=List.map_id _;rw[c] at h;show h
theorem qaH{f:Str->Option Str}(T:Two ss f g){ps:List (Str×LS)}(k:ps.Perm ((jZ ss f g).map fun Yw=>(("ring":Str),Yw)))(h:ps.Pairwise fun p q=>qcO ss p<=qcO ss q):ps=(jZ ss f g).map fun Yw=>(("ring":Str),Yw):=by
 show qa2 (qcO ss) k h (YI.mpr ?_);have hl:=heads_lt T.nd (T.pts 2 ss (zf ss f g).flatten fun z hz=>hz).2.2;show hl.imp fun h=>by unfold qcO;show Int.ofNat_lt.mpr h
theorem rg_eq{f:Str->Option Str}(T:Two ss f g){ps:List (Str×LS)}(p:ps.Perm (qcD ss f g))(h:ps.Pairwise fun p q=>qcO ss p<=qcO ss q):rgL ps=(jZ ss f g).map fun Yw=>(("ring":Str),Yw):=by
 have k:=p.filter fun p:Str×LS=>decide (p.1=("ring":Str));unfold qcD at k;rw[y0,xX,xX] at k;have a:((zf ss f g).filter ((fun p:Str×LS=>decide (p.1=("ring":Str))) ∘ fun Yw=>(("row":Str),Yw)))=[]:=Xi.mpr fun _ _ h=>by cases h
 have b:((jZ ss f g).filter ((fun p:Str×LS=>decide (p.1=("ring":Str))) ∘ fun Yw=>(("ring":Str),Yw)))=jZ ss f g:=XG.mpr fun _ _=>rfl;rw[a,b,Xe,xE] at k;show qaH T k (h.filter _)
theorem end_rings{f:Str->Option Str}(T:Two ss f g)(b:ClD f g U)(a:∀ z∈ss,(nbL ss f g z).length=1->z∈U)(mem:∀ x,x∈U↔x∈(zf ss f g).flatten):qcD ss (zY f g U) g=(jZ ss f g).map fun Yw=>(("ring":Str),Yw):=by
 unfold qcD jZ zf;rw[T.none1 a ss [] fun z hz=>hz];rw[Xe,xE,List.flatten_nil,T.same2 b,Yg];rw[zX ss U _ mem];rfl
theorem lds0{rs:LP}(c:NOk ss)(f:DT ss tps)(b:DP tps qs)(e:DP tps rs)(p:L.Perm (zf ss (pt qs) (pt rs))):LdS ss tps (pt qs) (pt rs) [] L qs:=by
 have T:=qdn c.nd c.few f b.pf e.pf;obtain⟨i,j⟩:=T.rows ss [] (fun z hz=>hz) fun x a=>by cases a
 obtain⟨_,g,_⟩:=T.pts 1 ss [] fun z hz=>hz;show⟨T,c,f,b.pf,e.pf,b,?_,(fun x a=>by cases a),fun Yw d=>i Yw (p.mem_iff.mp d),?_,fun z hz h=>?_⟩
 .funext z;unfold zY;rw[yz (fun h=>by cases h)]
 .show(List.Perm.pairwise_iff (fun{V Yw} h x a hw=>h x hw a) p).mpr j
 .rcases g z hz h with k | ⟨Yw,d,k⟩
  .cases k
  .show .inr ⟨Yw,p.mem_iff.mpr d,k⟩
theorem qcF{f:Str->Option Str}(T:Two ss f g):(zf ss f g).length<=14:=yi (qad ss []) T.few
theorem qdp{a b:Addr}(h:EqT K H n a b true):EqD K H n (.ref a) (.ref b) true:=by
 by_cases e:a=b
 .subst e;show .self
 .show .deep h e
theorem qbS{v:V}(h:jF v=true):EqD K H n v v true:=by
 have:=EqD.flat (K:=K) (H:=H) (n:=n) (x:=v) (y:=v) h h;have e:eqV v v=true:=by cases v<;>simp_all [eqV,jF]
 rwa[e] at this
theorem tup_eqT{a b:Addr}(c:H a=some (.tup xs))(hb:H b=some (.tup ys))(hl:xs.length=ys.length)(d:∀(j:Nat) x y,xs[j]?=some x->ys[j]?=some y->EqD K H n x y true):EqT K H (n+1) a b true:=by
 have z:=EqT.tup (K:=K) (H:=H) (n:=n) (e:=fun _=>true) (SqT.of c) (SqT.of hb) d
 have e:((List.range (min xs.length ys.length)).all (fun _=>true)&&xs.length==ys.length)=true:=by
  rw[hl,YQ,Bool.and_true];show Yq.mpr fun _ _=>rfl
 rw[e] at z;show z
theorem eqT_bt{a b:Addr}{ps:List (Str×LS)}(o:H a=some (.lst (ts.map V.ref)))(hb:H b=some (.lst (us.map V.ref)))(h1:All2 (BtO H) ts ps)(c:All2 (BtO H) us ps):EqT K H 3 a b true:=by
 show qb8 o hb (by rw[ya,ya,h1.len,c.len]) fun j x y f g=>?_;rw[yd] at f g;obtain⟨t,e,rfl⟩:=yn.mp f;obtain⟨u,p,rfl⟩:=yn.mp g;have d:j<ps.length:=by rw[<- h1.len];show(yc.mp e).1
 obtain⟨l,h,i⟩:=h1.at_ j t _ e (yb d);obtain⟨q,m,n⟩:=c.at_ j u _ p (yb d);show qdp (tup_eqT h m rfl fun k v w hv hw=>?_)
 match k,hv,hw with
 | 0,hv,hw=>cases hv;cases hw;show qbS rfl
 | 1,hv,hw =>
  cases hv;cases hw;show qdp (qb8 i n rfl fun k v w hv hw=>?_);rw[hv] at hw;cases hw;obtain⟨z,_,rfl⟩:=YE.mp (ye hv);show qbS rfl
 | k+2,hv,_=>cases hv
theorem eq_nilB{z:Addr}{Q:VK}(hl:H l=some (.lst xs))(hz:H z=some (.lst []))(q:Q (.bl xs.isEmpty) H):qdB K (.ref l) (.ref z) H Q:=by
 cases xs with
 | nil=>show .inl (.inl (.inr (.inl ⟨l,z,true,1,rfl,rfl,by decide,EqT.lst (n:=0) (e:=fun _=>true) (SqL.of hl) (SqL.of hz) rfl fun j x y h=>by(simp at h),q⟩)))
 | cons x r=>show .inl (.inl (.inr (.inl ⟨l,z,false,1,rfl,rfl,by decide,EqT.lstL (SqL.of hl) (SqL.of hz) (by simp),q⟩)))
theorem eq_bb{a:Bool}{Q:VK}(q:Q (.bl true) H):qdB K (.bl a) (.bl a) H Q:=.inl (.inl (.inl ⟨rfl,rfl,by
 have e:(if false=true then !eqV (V.bl a) (V.bl a) else eqV (V.bl a) (V.bl a))=true:=by cases a<;>rfl
 rw[e];show q⟩))
theorem kG:FnScope ["_law_web_here","_law_names_here","_law_pairs_here","_law_others","_law_box_here","_law_parts","_law_rows","_law_rings","_law_gain_here","_law_row","_law_due","_law_left"] ["_law_web_here","_law_names_here","_law_pairs_here","_law_others","_law_box_here"] (qg zK):=fS
def Kp2(p tb:Addr)(H J:Hp):Prop:=∀ b o,b≠tb->b≠p->H b=some o->J b=some o
theorem Kp2.pl(k:Kp2 p tb H J)(a:H tb=some (.tbl ps))(b:Pn N H p)(c:r≠p)(h:PL H r us qs):PL J r us qs:=
 ⟨k _ _ (jd h.1 a (by intro z;cases z)) c h.1,h.2.mono fun t ab e=>k _ _ (jd e a (by intro z;cases z)) (b.neT e) e⟩
theorem Kp2.bt{t:Addr}{q:Str×LS}(k:Kp2 p tb H J)(d:H tb=some (.tbl ps))(c:Pn N H p)(h:BtO H t q):BtO J t q:=by
 obtain⟨l,a,b⟩:=h;show⟨l,k _ _ (jd a d (by intro z;cases z)) (c.neT a) a,k _ _ (jd b d (by intro z;cases z)) (c.ne b) b⟩
theorem Kp2.trans(a:Kp2 p tb H J)(b:Kp2 p tb J G):Kp2 p tb H G:=fun c o d f e=>b c o d f (a c o d f e)
theorem Kp2.of(s:L2.Same H J):Kp2 p tb H J:=fun c o _ _ e=>s c o e
structure LdE(cw p tb:Addr)(H:Hp)(x n o:Addr)(ss:LS)(ns:LN)(us2:LI)(tps rs:LP):Prop where
 web:WebP (fun a=>a=p\/a=tb) cw H x ss ns
 nm:H n=some (.lst (ss.map V.str))
 oth:PL H o us2 rs
 op:o≠p
 tbl:TbB H tb
theorem LdE.kp{n o:Addr}{a:LI}{rs:LP}(h:LdE cw p tb H x n o ss ns a tps rs)(b:Pn N H p)(k:Kp2 p tb H J)(t:TbB J tb):LdE cw p tb J x n o ss ns a tps rs:=by
 obtain⟨ps,d,_⟩:=id h.tbl;show⟨h.web.keep fun c o n e=>k c o (fun z=>n (.inr z)) (fun z=>n (.inl z)) e,k _ _ (jd h.nm d (by intro z;cases z)) (b.ne h.nm) h.nm,k.pl d b h.op h.oth,h.op,t⟩
theorem qdq(b:qdC tb H J):Kp2 p tb H J:=fun c o n _ e=>b c o n e
theorem qbn(h:TbB H tb)(k:∀ b o,H b=some o->(∀ xs,o≠.lst xs)->J b=some o):TbB J tb:=by
 obtain⟨ps,h1,e,f⟩:=h;show⟨ps,k _ _ h1 (fun xs z=>by cases z),e,f.imp id fun⟨c,a,d⟩=>⟨c,a,k _ _ d fun xs z=>by cases z⟩⟩
theorem erase_split{L:List α}{d:Nat}{Yw:α}(h:L[d]?=some Yw):L=L.take d++Yw::L.drop (d+1)/\L.eraseIdx d=L.take d++L.drop (d+1):=by
 obtain⟨a,e⟩:=yc.mp h;show⟨?_,List.eraseIdx_eq_take_drop_succ L d⟩;rw[<- e,<- List.drop_eq_getElem_cons a,xI]
inductive spLd(cw tb:Addr)(vs:List V)(H:Hp)(Q:VK)(E:XK):Prop|mk (x n r o p:Addr) (ss:LS) (ns:LN) (us1 us2:LI) (tps qs rs:LP) (N:Nat) (_:vs=[.ref x,.ref n,.ref r,.ref o,.ref p]) (_:LdE cw p tb H x n o ss ns us2 tps rs) (_:Adj ss ns tps) (_:NOk ss) (_:DT ss tps) (_:PL H r us1 qs) (_:r≠p) (_:DP tps qs) (_:DP tps rs) (_:Pn (N+14) H p) (_:∀ H',Kp2 p tb H H'->TbB H' tb->Pn N H' p->Q (.bl true) H')
theorem ok_ld{f:Addr}(F:Fun K "_law_led" "_law_led" zK f fd)(T:Txt K mg cc cw)(KA:DefOk P w K mg base CX0 10 "between" ["web","one","other"] (spBt cw tb))(K0:DefOk P w K mg base CX0 2 "_law_gain" ["_law_pairs_here","_law_row"] spGnQ)(ky:DefOk P w K mg base CX0 1 "_law_take" ["_law_box_here","_law_many"] spTkN)(Kb:DefOk P w K mg base CX0 11 "can_turn" ["web","pairs","thing"] (spIr cw))(KL:DefOk P w K mg base CX0 2 "_law_flipped" ["_law_names_here","_law_pairs_here","_law_row"] spFp)(K1:DefOk P w K mg base CX0 12 "turned" ["web","pairs","row"] (spTu cw))(KM:DefOk P w K mg base CX0 10 "are_alike" ["web","one","other"] (spAlQ cw)):FnOk P w K mg base CX0 13 f fd ["_law_web_here","_law_names_here","_law_pairs_here","_law_others","_law_box_here"] (spLd cw tb):=by
 show F.ok kG fun _ _ _ _ H vs Q E hr h=>?_
 .obtain⟨x,n,r,o,p,ss,ns,bu,ac,tps,qs,rs,N,rfl,aa,hA,hO,hD,hP,cn,dq,dr,hB,q⟩:=h;have hu:=zC hr;have bg:=hO.few;obtain⟨eg,ai,_⟩:=id aa.tbl;show⟨_,(qc (qm (i:=5) kG.nd rfl (yN rfl) (qk KA (hmR hr) qx (qa (pv 0) (qa (pv 2) (qa (pv 3) qd)))))
 (qc (qaw (sc:=qg zK) (XN:=["_law_web_here","_law_names_here","_law_pairs_here","_law_others","_law_box_here","_law_parts","_law_rows","_law_rings","_law_gain_here","_law_row","_law_due","_law_left"]) ["_law_part"] 1 [] rfl rfl rfl (by room) rfl (by room) (i:=6) kG.nd rfl rfl
  (qP (K:=K) rfl (pv 5)) (fun _ _ _ _=>(qo (i:=0) (show(["_law_part"]:LS).Nodup by room) rfl (yN rfl))) jh
  (fun _ _ _ _=>(j4 (qt (zB (K:=K) rfl hu) (qu (qv (K:=K) rfl hu) (pv 0) qe (fun _ _=>rfl)) zF (qy _))))
  (fun _ _ _ _=>(qu (qv (K:=K) rfl hu) (pv 0) qe (fun _ _=>rfl))))
 (qc (qaw (sc:=qg zK) (XN:=["_law_web_here","_law_names_here","_law_pairs_here","_law_others","_law_box_here","_law_parts","_law_rows","_law_rings","_law_gain_here","_law_row","_law_due","_law_left"]) ["_law_part"] 1 [] rfl rfl rfl (by room) rfl (by room) (i:=7) kG.nd rfl rfl
  (qP (K:=K) rfl (pv 5)) (fun _ _ _ _=>(qo (i:=0) (show(["_law_part"]:LS).Nodup by room) rfl (yN rfl))) jh
  (fun _ _ _ _=>(j4 (qt (zB (K:=K) rfl hu) (qu (qv (K:=K) rfl hu) (pv 0) qe (fun _ _=>rfl)) zF (qy _))))
  (fun _ _ _ _=>(pv 0)))
 (qc (qm (i:=8) kG.nd rfl (yN rfl) (qr (k_sum (K:=K) rfl rfl) rfl T.b_sum PyProof.Rows.boot_sum (qa (jV (sc:=qg zK) (XN:=["_law_web_here","_law_names_here","_law_pairs_here","_law_others","_law_box_here","_law_parts","_law_rows","_law_rings","_law_gain_here","_law_row","_law_due","_law_left"]) ["_law_row","_law_pairs_here"] 1 [2] rfl rfl rfl (by room) rfl (by room)
  (qP (K:=K) rfl (pv 6)) (fun _ _ _ _=>(qo (i:=0) (show(["_law_row","_law_pairs_here"]:LS).Nodup by room) rfl (yN rfl))) jh
  (fun _ _ _ _=>jN)
  (fun _ _ _ _=>(qk K0 (hmR hr) qx (qa (pv 1) (qa (pv 0) qd))))) qd)))
 (qc (qM (qt (qaA (K:=K) rfl hu) (qB (jH (K:=K) rfl) (qr (jW (K:=K) rfl) rfl T.b_len YF (qa (pv 2) qd)) (pv 8)) (qr (jW (K:=K) rfl) rfl T.b_len YF (qa (pv 3) qd)) (qy _)) (qf (qq jx)) qw)
 (qc (qa6 yQ (qt (qaA (K:=K) rfl hu) (pv 6) (jo qd) (qy _))
 (qc (qm (i:=9) kG.nd rfl (yN rfl) (qc3 (K:=K) rfl Yj PySem.F.slot_list_pop PySem.F.type_list_pop qbJ (pv 6) (qa (qk ky (hmR hr) qx (qa (pv 4) (qa (qr (jW (K:=K) rfl) rfl T.b_len YF (qa (pv 6) qd)) qd))) qd)))
 (qc (qM (PW.pt (qbX (qt qcs (qk Kb (hmR hr) qx (qa (pv 0) (qa (pv 2) (qa (pv 9) qd)))) jx (qy _)) (qaK (qt qcs (qk Kb (hmR hr) qx (qa (pv 0) (qa (pv 3) (qa (pe_rvL (K:=K) rfl (pv 9) (jE (qcG qaP qe))) qd)))) jx (qy _))))) (qf (qq jx)) qw)
 (qc (qm (i:=10) kG.nd rfl (yN rfl) (qk KL (hmR hr) qx (qa (pv 1) (qa (pv 2) (qa (pv 9) qd)))))
 (qc (qm (i:=2) kG.nd rfl (Xf rfl) (qk K1 (hmR hr) qx (qa (pv 0) (qa (pv 2) (qa (pv 9) qd)))))
 (qf (qM (qt (qaA (K:=K) rfl hu) (pv 2) (pv 10) (qy _)) (qf (qq jx)) qw)))))))
 (qc (qm (i:=11) kG.nd rfl (yN rfl) (qk KA (hmR hr) qx (qa (pv 0) (qa (pv 2) (qa (pv 3) qd)))))
 (qf (qq (qaN (qN (zB (K:=K) rfl hu) (pv 11) (pv 7) (qy _)) (qaM (qN (zB (K:=K) rfl hu) (qk KM (hmR hr) qx (qa (pv 0) (qa (pv 2) (qa (pv 3) qd)))) (qN (zB (K:=K) rfl hu) (pv 7) (jo qd) (qy _)) (qy _))))))))))))),?_⟩
  apply⟨x,r,o,ss,ns,bu,ac,tps,qs,rs,rfl,aa.web.web,hA,hP,qbm hD dq,aa.oth,qbm hD dr,hD,aa.tbl,fun Dp ts ps H1 b1 T1 dv ao ci ak pw=>?_⟩;have k1:Kp2 p tb H H1:=qdq b1
  have B1:Pn (N+14) H1 p:=by
   obtain⟨a1,a2,a3,e,r'⟩:=hB;show⟨a1,a2,a3,b1 _ _ (jd e ai (by intro z;cases z)) e,r'⟩
  have E1:=aa.kp hB k1 T1;have P1:=k1.pl ai hB cn hP;have T2:=qdn hO.nd bg hD dq.pf dr.pf;have aq:=rw_perm ak;have cg:=rg_eq T2 ak pw;have S0:=lds0 hO hD dq dr aq;have dj:(rwL ps).length<=14:=by rw[aq.length_eq];show qcF T2
  have bn:=ci.len
  have dl:ps.length<=28:=by
   rw[ak.length_eq];unfold qcD;rw[yx,ya,ya];have h1:=qcF T2;have h2:=qad (nb:=nbL ss (pt qs) (pt rs)) (e:=2) ss (zf ss (pt qs) (pt rs)).flatten;unfold jZ;lk
  obtain⟨eh,cp,_⟩:=id T1;clear ai aa hP hB
  have bv:∀{i:Nat} {y:V},(ts.map V.ref)[i]?=some y->∃ t q,y=.ref t/\ts[i]?=some t/\ps[i]?=some q/\BtO H1 t q:=fun{i y} hy=>by
   rw[yd] at hy;obtain⟨t,ht,rfl⟩:=yn.mp hy;have hi:i<ps.length:=by rw[<- bn];show(yc.mp ht).1
   show⟨t,ps[i],rfl,ht,yb hi,ci.at_ i t _ ht (yb hi)⟩
  apply .inl ⟨⟨_,.of ao⟩,qX (xs:=ts.map V.ref) (fun i ys G=>G=H1/\∃ X:LI,ys=X.map V.ref/\All2 (fun a Yw=>H1 a=some (.lst (Yw.map V.str))) X (rwL (ps.take i))) ⟨rfl,[],rfl,.nil⟩ (fun i ys G _ c=>by rw[c.1];show .of ao) (fun i y ys G hy c=>?_) fun ys G c=>?_⟩
  .obtain⟨rfl,X,rfl,v⟩:=c;obtain⟨t,pq,rfl,ht,bm,l,e1,Y⟩:=bv hy
   have Z:X.length<=28:=by
    rw[v.len];unfold rwL;rw[ya];show yi (Ye _ _) (by rw[yI];lk)
   have tk:ps.take (i+1)=ps.take i++[pq]:=by rw[yK,bm];rfl
   have er:rwL (ps.take (i+1))=rwL (ps.take i)++rwL [pq]:=by unfold rwL;rw[tk,y0,yL]
   rw[er];apply .inl (.inr (.inl ⟨t,_,_,_,rfl,rfl,SqT.of e1,rfl,?_⟩));apply qeE ?_;show⟨_,rfl,qT (fun ho=>?_) (fun ho=>?_)⟩
   .ext;show .inl (.inr (.inl ⟨t,_,_,_,rfl,rfl,SqT.of e1,rfl,?_⟩));show⟨by rw[ya];show qi (by lk),rfl,X++[l],by rw[yL];rfl,?_⟩;have e3:rwL [pq]=[pq.2]:=by unfold rwL;rw[yU,yF ho];rfl
    rw[e3];show All2.snoc v Y
   .have e3:rwL [pq]=[]:=by unfold rwL;rw[yU,yz ho];rfl
    rw[e3,Yg];show⟨rfl,X,rfl,v⟩
  obtain⟨rfl,X,rfl,v⟩:=c;rw[show(ts.map V.ref).length=ps.length by rw[ya,bn],yO] at v;have bj:=v.len;show⟨by rw[ya];show yR (qi (by lk)),fun A O=>?_⟩;have s2:=qG (Sr G) (o:=.lst (X.map V.ref)) O;have bf:upd G A (.lst (X.map V.ref)) A=some (.lst (X.map V.ref)):=qb;have dn:∀{a:Addr} {Yw:LS},G a=some (.lst (Yw.map V.str))->a≠A:=fun e z=>by rw[z,O] at e;cases e
  generalize upd G A (.lst (X.map V.ref))=H2 at s2 bf;apply .inl ⟨⟨_,.of (s2 _ _ ao)⟩,qX (xs:=ts.map V.ref) (fun i ys M=>M=H2/\∃ D:LI,ys=D.map V.ref/\All2 (BtO G) D (rgL (ps.take i))) ⟨rfl,[],rfl,.nil⟩ (fun i ys M _ c=>by rw[c.1];show .of (s2 _ _ ao)) (fun i y ys M hy c=>?_) fun ys M c=>?_⟩
  .obtain⟨rfl,D,rfl,B⟩:=c;obtain⟨t,pq,rfl,ht,bm,l,e1,Y⟩:=bv hy
   have Z:D.length<=28:=by
    rw[B.len];unfold rgL;show yi (Ye _ _) (by rw[yI];lk)
   have tk:ps.take (i+1)=ps.take i++[pq]:=by rw[yK,bm];rfl
   have er:rgL (ps.take (i+1))=rgL (ps.take i)++rgL [pq]:=by unfold rgL;rw[tk,y0]
   rw[er];apply .inl (.inr (.inl ⟨t,_,_,_,rfl,rfl,SqT.of (s2 _ _ e1),rfl,?_⟩));apply qeE ?_;show⟨_,rfl,qT (fun ho=>?_) (fun ho=>?_)⟩
   .ext;show⟨by rw[ya];show qi (by lk),rfl,D++[t],by rw[yL];rfl,?_⟩;have e3:rgL [pq]=[pq]:=by unfold rgL;rw[yU,yF ho];rfl
    rw[e3];show All2.snoc B ⟨l,e1,Y⟩
   .have e3:rgL [pq]=[]:=by unfold rgL;rw[yU,yz ho];rfl
    rw[e3,Yg];show⟨rfl,D,rfl,B⟩
  obtain⟨rfl,D,rfl,B⟩:=c;rw[show(ts.map V.ref).length=ps.length by rw[ya,bn],yO] at B;have ec:D.length<=28:=by rw[B.len];unfold rgL;show yi (Ye _ _) dl
  show⟨by rw[ya];show yR (qi (by lk)),fun lg au=>?_⟩;have s3:=qG (Sr M) (o:=.lst (D.map V.ref)) au;have ca:upd M lg (.lst (D.map V.ref)) lg=some (.lst (D.map V.ref)):=qb;have ds:lg≠A:=fun z=>by rw[z,bf] at au;cases au
  have cy:=(B1.same s2).apart au;generalize upd M lg (.lst (D.map V.ref))=H3 at s3 ca;have bp:=s2.trans s3;have ad:=s3 _ _ bf;have P3:=P1.same bp;apply .inl ⟨⟨_,.of ad⟩,qX (xs:=X.map V.ref) (fun i ys J=>L2.Same H3 J/\ys=(((rwL ps).take i).map (gnI (pt qs))).map V.int) ⟨L2.Same.refl H3,rfl⟩ (fun i ys J _ c=>.of (c.1 _ _ ad)) (fun i y ys J hy c=>?_) fun ys J c=>?_⟩
  .obtain⟨sJ,rfl⟩:=c;rw[yd] at hy;obtain⟨a,ha,rfl⟩:=yn.mp hy;have hi:i<(rwL ps).length:=by rw[<- bj];show(yc.mp ha).1
   obtain⟨Yw,hW⟩:∃ Yw,(rwL ps)[i]?=some Yw:=⟨_,yb hi⟩;have ea:=v.at_ i a Yw ha hW;apply qbT ?_;apply⟨r,a,bu,qs,Yw,rfl,P3.same sJ,dq.nd,by have:=dq.few;lk,sJ _ _ (bp _ _ ea),(S0.rows Yw (ye hW)).1.two,fun J2 du=>?_⟩;show⟨by rw[ya,ya,yI];show qi (by lk),sJ.trans du,?_⟩;rw[yK,hW,yL,yL];rfl
  obtain⟨sJ,rfl⟩:=c;rw[show(X.map V.ref).length=(rwL ps).length by rw[ya,bj],yO];show⟨by rw[ya,ya];show yR (qi (by lk)),fun av ba=>?_⟩;have s4:=qG (bp.trans sJ) (o:=.lst (((rwL ps).map (gnI (pt qs))).map V.int)) ba;have bq:=qG sJ (o:=.lst (((rwL ps).map (gnI (pt qs))).map V.int)) ba;have bz:upd J av (.lst (((rwL ps).map (gnI (pt qs))).map V.int)) av=some (.lst (((rwL ps).map (gnI (pt qs))).map V.int)):=qb;generalize upd J av (.lst (((rwL ps).map (gnI (pt qs))).map V.int))=H4 at s4 bq bz;have co:=S0.len dr rfl;apply⟨av,_,rfl,SqL.of bz,?_⟩;ext;have P4:=P1.same s4;have E4:=E1.kp B1 (Kp2.of s4) (T1.same s4);have B4:=B1.same s4;have cb:=bq _ _ ad;obtain⟨ei,cq,_⟩:=id E4.tbl;have aw:=bq _ _ ca;show qaa P4.1 ?_;rw[ya,P4.2.len];apply qaa E4.oth.1 ?_;rw[ya,E4.oth.2.len,co];show .inl ⟨rfl,rfl,?_⟩
  have e0:(if true=true then !eqV (V.int (rs.length:Int)) (V.int (rs.length:Int)) else eqV (V.int (rs.length:Int)) (V.int (rs.length:Int)))=false:=by
   rw[yF rfl];unfold eqV;simp
  rw[e0];apply yq ?_;ext;generalize ((rwL ps).map (gnI (pt qs))).sum=gs;obtain⟨Wv,bi⟩:∃ Yw:Nat->L2.St->Hp->Prop,Yw=fun m σ J=>∃(r':Addr) (I:LI) (s:LP) (U:LS) (L:List (LS)) (g:LI) (y9 da:Option V),σ=[some (.ref x),some (.ref n),some (.ref r'),some (.ref o),some (.ref p),some (.ref Dp),some (.ref A),some (.ref lg),some (.int gs),y9,da,none]/\(∀ b C,b≠tb->b≠p->b≠A->H4 b=some C->J b=some C)/\Pn (N+L.length) J p/\J A=some (.lst (g.map V.ref))/\All2 (fun a j=>J a=some (.lst (j.map V.str))/\a≠A) g L/\PL J r' I s/\r'≠p/\r'≠A/\LdS ss tps (pt qs) (pt rs) U L s/\(∀ z,(z∈U\/∃ j∈L,z∈j)↔z∈(zf ss (pt qs) (pt rs)).flatten)/\TbB J tb/\L.length=m:=⟨_,rfl⟩
  have cv:∀ z,(z∈([]:LS)\/∃ j∈rwL ps,z∈j)↔z∈(zf ss (pt qs) (pt rs)).flatten:=fun z=>by
   rw[List.mem_flatten];show⟨fun h=>h.elim (fun k=>by cases k) fun⟨j,h1,h2⟩=>⟨j,aq.mem_iff.mp h1,h2⟩,fun⟨j,h1,h2⟩=>.inr ⟨j,aq.mem_iff.mpr h1,h2⟩⟩
  show⟨Wv,⟨(rwL ps).length,by rw[bi];show⟨r,bu,qs,[],rwL ps,X,_,_,rfl,fun b C _ _ _ e=>e,B4.mono (by lk),cb,⟨bj,fun k a j ha hV=>⟨s4 _ _ (v.at_ k a j ha hV),dn (v.at_ k a j ha hV)⟩⟩,P4,cn,fun z=>by(rw[z] at P1;rw[P1.1] at O;cases O),S0,cv,E4.tbl,rfl⟩⟩,fun m σ J hW=>?_⟩;rw[bi] at hW;obtain⟨r',I,s,U,L,g,y9,da,rfl,kJ,BJ,u,bh,PJ,bb,cm,S,mem,TJ,hm⟩:=hW;have af:=bh.len;have bo:Kp2 p tb G J:=fun b C n1 n2 e=>kJ b C n1 n2 (fun z=>by rw[z,O] at e;cases e) (s4 _ _ e);have EJ:LdE cw p tb J x n o ss ns ac tps rs:=E1.kp B1 bo TJ;apply⟨by show 0<=sizeLine;decide,fun e he=>?_⟩;have R:=qG (Sr J) (o:=.lst []) he;have ee:upd J e (.lst []) e=some (.lst []):=qb;generalize upd J e (.lst [])=J5 at R ee;show qdT (R _ _ u) ee ?_
  cases L with
  | nil =>
   have cj:g=[]:=List.length_eq_zero_iff.mp af;subst cj;apply yq ?_;have cs:Kp2 p tb G J5:=bo.trans (Kp2.of R);have EJ5:=EJ.kp BJ (Kp2.of R) (TJ.same R);have BJ5:=BJ.same R;obtain⟨ej,aj,_⟩:=id EJ5.tbl;have ay:J lg=some (.lst (D.map V.ref)):=kJ _ _ (jd aw cq (by intro z;cases z)) cy ds aw
   .ext;show⟨x,r',o,ss,ns,I,ac,tps,s,rs,rfl,EJ5.web.web,hA,PJ.same R,qbm hD S.dp,EJ5.oth,qbm hD dr,hD,EJ5.tbl,fun D2 ek ef H6 b6 T6 _ dd Z al dt=>?_⟩;have dc:∀ z∈ss,(nbL ss (pt qs) (pt rs) z).length=1->z∈U:=fun z hz h=>(S.cov z hz h).elim id fun⟨j,h1,_⟩=>by cases h1
    have bc:∀ z,z∈U↔z∈(zf ss (pt qs) (pt rs)).flatten:=fun z=>⟨fun h=>(mem z).mp (.inl h),fun h=>((mem z).mpr h).elim id fun⟨j,h1,_⟩=>by cases h1⟩;rw[S.pq,end_rings T2 S.cl dc bc] at al;have ce:=qaH T2 al dt;rw[ce,<- cg] at Z;have k6:Kp2 p tb J5 H6:=qdq b6
    have B6:Pn (N+([]:List (LS)).length) H6 p:=by
     obtain⟨a1,a2,a3,e,r2⟩:=BJ5;show⟨a1,a2,a3,b6 _ _ (jd e aj (by intro z;cases z)) e,r2⟩
    have E6:=EJ5.kp BJ5 k6 T6;have P6:=k6.pl aj BJ5 bb (PJ.same R);have cr:=cs.trans k6;have ch:All2 (BtO H6) D (rgL ps):=B.mono fun t pq hb=>cr.bt cp B1 hb;have ax:H6 lg=some (.lst (D.map V.ref)):=b6 _ _ (jd (R _ _ ay) aj (by intro z;cases z)) (R _ _ ay);apply .inl (.inl (.inr (.inl ⟨D2,lg,true,3,rfl,rfl,by decide,eqT_bt dd ax Z ch,?_⟩)));apply qT (fun _=>?_) fun h=>absurd rfl h;apply⟨x,r',o,ss,ns,I,ac,tps,s,rs,rfl,E6.web.web,hA,P6,qbm hD S.dp,E6.oth,qbm hD dr,fun H7 s7=>?_⟩;apply⟨by show 0<=sizeLine;decide,fun Y dh=>?_⟩;have s8:=qG s7 (o:=.lst []) dh;have bx:upd H7 Y (.lst []) Y=some (.lst []):=qb;generalize upd H7 Y (.lst [])=H8 at s8 bx;show eq_nilB (s8 _ _ ax) bx ?_
    have eb:(D.map V.ref).isEmpty=alk s rs:=by
     rw[S.alike dr rfl,zX ss U _ bc];have h1:=B.len;rw[cg,ya] at h1;show _=decide (jZ ss (pt qs) (pt rs)=[]);generalize jZ ss (pt qs) (pt rs)=RR at h1
     cases D with
     | nil =>
      cases RR with
      | nil=>rfl
      | cons _ _=>cases h1
     | cons _ _ =>
      cases RR with
      | nil=>cases h1
      | cons _ _=>rfl
    rw[eb];show eq_bb ?_;show q H8 ((k1.trans cr).trans (Kp2.of s8)) (T6.same s8) (B6.same s8)
  | cons W0 L0 =>
   have dy:(W0::L0).length<=14:=by
    have h1:((W0::L0).map hdW).length<=ss.length:=by
     show qK ?_ fun z hz=>?_
     .show YI.mpr (S.apart.imp_of_mem fun{j W'} hV hW h e=>?_);have g1:=ye (S.rows j hV).1.get.1;rw[e] at g1;show h _ (ye (S.rows W' hW).1.get.1) g1
     .obtain⟨j,hV,rfl⟩:=YE.mp hz;show(S.rows j hV).1.inn _ (ye (S.rows j hV).1.get.1)
    rw[ya] at h1;lk
   have ck:0<(W0::L0).length:=by simp
   generalize W0::L0=L at *
   have dk:(!(g.map V.ref).isEmpty)=true:=by
    cases g with
    | nil=>simp at af;lk
    | cons _ _=>rfl
   rw[dk];apply qbT ⟨fun db H'=>∃ m',m'<m/\Wv m' db H',fun db H' z=>z,?_⟩;have BJ5:=BJ.same R;apply⟨.inl ⟨rfl,_,.of (R _ _ u)⟩,?_⟩;apply qaa (R _ _ u) ?_;rw[ya,af];apply⟨p,L.length,N+L.length-1,rfl,BJ5.mono (by lk),ck,by lk,fun d J6 hd b6 dg=>?_⟩;obtain⟨a,ha⟩:∃ a,g[d]?=some a:=⟨_,yb (by lk)⟩;obtain⟨Yw,ar⟩:∃ Yw,L[d]?=some Yw:=⟨_,yb hd⟩;have bd:A≠p:=B1.apart O;have cd:=b6 _ _ bd (R _ _ u);show⟨A,_,(d:Int),d,.ref a,rfl,rfl,cd,by lk,by lk,qdX (by rw[ya];lk),by rw[yd,ha];rfl,?_⟩;rw[qaF];have ae:upd J6 A (.lst ((g.eraseIdx d).map V.ref)) A=some (.lst ((g.eraseIdx d).map V.ref)):=qb;have k7:∀ b C,b≠p->b≠A->J b=some C->upd J6 A (.lst ((g.eraseIdx d).map V.ref)) b=some C:=fun b C n1 n2 e=>by rw[qh n2];show b6 _ _ n1 (R _ _ e)
   have B7:Pn (N+L.length-1) (upd J6 A (.lst ((g.eraseIdx d).map V.ref))) p:=by
    obtain⟨a1,a2,a3,e,r2⟩:=dg;show⟨a1,a2,a3,by rw[qh (Yn bd)];show e,r2⟩
   generalize upd J6 A (.lst ((g.eraseIdx d).map V.ref))=J7 at ae k7 B7;have T7:TbB J7 tb:=qbn TJ fun b C e hn=>k7 b C (fun z=>by obtain⟨_,_,_,Y,_⟩:=BJ;rw[z,Y] at e;show hn _ (ym e).symm) (fun z=>by rw[z,u] at e;show hn _ (ym e).symm) e;have ct:Kp2 p tb G J7:=fun b C n1 n2 e=>k7 b C n2 (fun z=>by rw[z,O] at e;cases e) (bo b C n1 n2 e);have E7:LdE cw p tb J7 x n o ss ns ac tps rs:=E1.kp B1 ct T7;have P7:PL J7 r' I s:=⟨k7 _ _ bb cm PJ.1,PJ.2.mono fun t ab e=>k7 _ _ (BJ.neT e) (fun z=>by rw[z,u] at e;cases e) e⟩;have df:All2 (fun a j=>J7 a=some (.lst (j.map V.str))/\a≠A) (g.eraseIdx d) (L.eraseIdx d):=(bh.erase d).mono fun a' j ⟨e1,Y⟩=>⟨k7 _ _ (BJ.ne e1) Y e1,Y⟩;obtain⟨bw,cx⟩:=bh.at_ d a Yw ha ar;have ap:=k7 _ _ (BJ.ne bw) cx bw;obtain⟨cz,br⟩:=erase_split ar;have Ssp:=S;rw[cz] at Ssp;obtain⟨t1,t2,fl,pf,S',_,_⟩:=Ssp.step;have RW:=(S.rows Yw (ye ar)).1;have dz:Yw.length<=14:=yi (qK RW.nd RW.inn) bg
   have be:∀ a b,adjR Yw a b->(a,b)∈tps\/(b,a)∈tps:=fun a b h=>by
    rcases dx_iff.mp (RW.adj a b h) with⟨k,_⟩ | ⟨_,k⟩
    .show dq.pf.tie a b k
    .show dr.pf.tie a b k
   have gW:=qdo S.dp.nd t1 RW.inn (by lk) be;apply⟨x,r',a,ss,ns,I,tps,s,Yw,rfl,⟨E7.web.web,hA,P7,qbm hD S.dp,ap,gW⟩,fun J8 s8=>?_⟩;apply⟨true,true,rfl,rfl,?_⟩;apply yq ?_;apply vRvL ?_;apply⟨1,rfl,?_⟩;show⟨_,rfl,rfl,a,_,rfl,.of (s8 _ _ ap),fun rv dm=>?_⟩;have s9:=qG s8 (o:=.lst (Yw.map V.str).reverse) dm;have cf:upd J8 rv (.lst (Yw.map V.str).reverse) rv=some (.lst (Yw.reverse.map V.str)):=by rw[qb,List.map_reverse]
   generalize upd J8 rv (.lst (Yw.map V.str).reverse)=J9 at s9 cf;have E9:=E7.kp B7 (Kp2.of s9) (T7.same s9);have gR:RowG ss tps rs Yw.reverse:=qdo dr.nd t2.rev (fun x hx=>RW.inn x (List.mem_reverse.mp hx)) (by rw[xq];lk) fun a b h=>be a b (adjR.rev_iff.mp h);apply⟨x,o,rv,ss,ns,ac,tps,rs,Yw.reverse,rfl,⟨E9.web.web,hA,E9.oth,qbm hD dr,cf,gR⟩,fun JA sA=>?_⟩;apply⟨true,true,rfl,rfl,?_⟩;apply yq ?_;have am:=s9.trans sA;have EA:=E7.kp B7 (Kp2.of am) (T7.same am);apply⟨n,r',a,ss,I,s,Yw,zY (pt qs) (pt rs) (U++Yw),rfl,EA.nm,bg,P7.same am,S.dp.nd,S.dp.few,am _ _ ap,by lk,t1,fl,fun ld ed JB sB dw Pd _=>?_⟩;have W:=am.trans sB;have EB:=E7.kp B7 (Kp2.of W) (T7.same W);apply⟨x,r',a,ss,ns,I,tps,s,Yw,rfl,⟨EB.web.web,hA,P7.same W,qbm hD S.dp,W _ _ ap,gW⟩,fun l2 cu JC sC ag de _ az=>?_⟩;rw[flT_due hO hA t1 fl pf] at az;have P2:PL JC l2 cu (rsG ss (zY (pt qs) (pt rs) (U++Yw)) ss.length):=⟨de,az.mono fun _ _ z=>z.2.2⟩;have an:=W.trans sC;apply .inr (.inl ⟨l2,ld,true,2,rfl,rfl,by decide,eqT_pl P2 (Pd.same sC),?_⟩);apply yq ?_;have di:(L.eraseIdx d).length=L.length-1:=by rw[xP,yF hd]
   show⟨L.length-1,by lk,?_⟩;rw[bi];rw[<- br] at S';show⟨l2,cu,_,U++Yw,L.eraseIdx d,g.eraseIdx d,_,_,rfl,fun b C n1 n2 n3 e=>an _ _ (k7 b C n2 n3 (kJ b C n1 n2 n3 e)),(B7.same an).mono (by lk),an _ _ ae,df.mono fun a' j ⟨e1,Y⟩=>⟨an _ _ e1,Y⟩,P2,(B7.same W).apart ag,(fun z=>by rw[z,W _ _ ae] at ag;cases ag),S',fun z=>?_,T7.same an,di⟩;rw[<- mem z];constructor
   .rintro (h | ⟨j,h1,h2⟩)
    .rcases yB.mp h with h | h
     .show .inl h
     .show .inr ⟨Yw,ye ar,h⟩
    .show .inr ⟨j,List.mem_of_mem_eraseIdx h1,h2⟩
   .rintro (h | ⟨j,h1,h2⟩)
    .show .inl (yT _ h)
    .rw [cz] at h1;rcases yB.mp h1 with k | k
     .show .inr ⟨j,by rw[br];show yT _ k,h2⟩
     .rcases yE.mp k with k | k
      .rw [k] at h2;show .inl (yG _ h2)
      .show .inr ⟨j,by rw[br];show yG _ k,h2⟩
theorem Ki:FnScope ["_law_script","_law_names_here","_law_ties","_law_web_here","_law_box_here","_law_turn","_law_pairs_here"] ["_law_script"] (qg qca):=fS
theorem DT.go(h:DT ss tps):TGo ss tps:=
 ⟨h.few,h.ok,xU (fun{q r} b c a=>⟨a,fun z=>h.one r c (by rw[<- z];show b)⟩) h.nd⟩
theorem webP_of(h:WebAt cw H x ss ns)(m:H p=none)(c:H tb=some (.tbl ps)):WebP (fun a=>a=p\/a=tb) cw H x ss ns:=by
 obtain⟨dx,d,ol,n,h1,g,i,j,l⟩:=h;have f:∀{b:Addr} {o:HO},H b=some o->b≠p:=fun e z=>by rw[z,m] at e;cases e
 show⟨dx,d,ol,n,h1,g,i,j,l,fun z=>z.elim (f h1) (jd h1 c (by intro z;cases z)),fun z=>z.elim (f g) (jd g c (by intro z;cases z)),fun z=>z.elim (f i) (jd i c (by intro z;cases z)),fun z=>z.elim (f j) (jd j c (by intro z;cases z))⟩
inductive spLawT(K:W.Frag)(tb:Addr)(vs:List V)(H:Hp)(Q:VK)(E:XK):Prop|mk (a:Addr) (ns:LQ) (_:vs=[.ref a]) (_:SqL K H a (ns.map V.int)) (_:ns.length<=63) (_:TbB H tb) (_:∀ H',Q (.bl true) H')
theorem wmakeD{m y:Addr}{d:LP}{Q:VK}{E:XK}(x:G m=some (.lst (ss.map V.str)))(f:NOk ss)(r:PL G l us d)(w:DT ss d)(n:G y=none)(v:G dx=none)(i:dx≠y)
  (h:∀ ns H2,L2.Same G H2->WebAt cw H2 y ss ns->Adj ss ns d->Q .non H2):spWeb cw [.ref y,.ref m,.ref l] (upd (upd G dx (.own y)) y (.ins cw dx [])) Q E:=by
 have j:=qG (qG (Sr G) (o:=.own y) v) (o:=.ins cw dx []) (show upd G dx (.own y) y=none by rw[qh (Yn i)];show n);show⟨y,dx,m,l,ss,us,d,rfl,qb,j _ _ x,f.few,f.nd,f.nm,r.same j,w.go,fun ns H' b q p=>?_⟩;show h ns H' (fun c o e=>b c o (fun z=>by rw[z,n] at e;cases e) (j _ _ e)) q.web fun a b s t u g=>by rw[p.2.2 a b s t u g,xC]
theorem ok_law25{f:Addr}(F:Fun K "law" "law" qca f fd)(T:Txt K mg cc cw)(K3:DefOk P w K mg base CX0 3 "_law_web" ["_law_script","_law_most"] (spWbA K))(K5:MakeOk P w K mg base CX0 5 cw "Web" ["self","names","ties"] (spWeb cw))(Kq:DefOk P w K mg base CX0 1 "_law_box" ["_law_cell"] spPu)(Kp:DefOk P w K mg base CX0 1 "_law_at" ["_law_script","_law_k"] (spCe K))(KB:DefOk P w K mg base CX0 2 "_law_pairs" ["_law_box_here","_law_ties"] spPrA)(K4:DefOk P w K mg base CX0 13 "_law_led" ["_law_web_here","_law_names_here","_law_pairs_here","_law_others","_law_box_here"] (spLd cw tb)):FnOk P w K mg base CX0 14 f fd ["_law_script"] (spLawT K tb):=by
 show F.ok Ki fun _ _ _ _ H vs Q E g h=>?_
 .obtain⟨a,zs,rfl,ha,hl,hT,q⟩:=h;have hu:=zC g;show⟨_,(qc (qV (qk K3 (hmR g) qx (qa (pv 0) (qa qe qd))) (qbq rfl (jq (qo (i:=1) Ki.nd rfl (yN rfl)) (jq (qo (i:=2) Ki.nd rfl (yN rfl)) qao))))
 (qc (qm (i:=3) Ki.nd rfl (yN rfl) (pe_makeQ K5 (hmR g) (qa (pv 1) (qa (pv 2) qd))))
 (qc (qm (i:=4) Ki.nd rfl (yN rfl) (qk Kq (hmR g) qx (qa (qk Kp (hmR g) qx (qa (pv 0) (qa qe qd))) qd)))
 (qc (jc yQ rfl (js rfl T.b_range (qa qe qd)) (qo (i:=5) Ki.nd rfl (yN rfl))
 (qc (qm (i:=6) Ki.nd rfl (yN rfl) (qk KB (hmR g) qx (qa (pv 4) (qa (pv 2) qd))))
 (qf (qM (jm (je (qk K4 (hmR g) qx (qa (pv 3) (qa (pv 1) (qa (pv 6) (qa (qk KB (hmR g) qx (qa (pv 4) (qa (pv 2) qd))) (qa (pv 4) qd)))))))) (qf (qq jx)) qw))))
 (qf (qq jx)))))),?_⟩
  apply qeH ?_;apply⟨a,zs,rfl,ha,hl,fun t n l ss ts tps H1 s1 ht al ak am x hO hP R=>?_⟩;show⟨t,_,rfl,SqT.of ht,rfl,_,_,rfl,_,_,rfl,rfl,?_⟩;apply fun y dx hy aa ac=>wmakeD x hO hP R hy aa ac fun ns H2 S W2 hA=>⟨rfl,?_⟩;have u:=s1.trans S;apply⟨a,zs,1,rfl,u.seq ha,by decide,fun c1=>?_⟩;apply⟨c1,rfl,fun p H3 U B j=>?_⟩;have af:=u.trans U;have T3:=hT.same af;obtain⟨tp,I,_⟩:=id T3;obtain⟨aq,L,_⟩:=id (hT.same u);have W3:WebP (fun a=>a=p\/a=tb) cw H3 y ss ns:=(webP_of W2 B L).keep fun c o _ e=>U c o e;have m:=U _ _ (S _ _ x);have P3:=(hP.same S).same U;have d:l≠p:=fun z=>by(have:=(hP.same S).1;rw[z,B] at this;cases this)
  apply⟨3,rfl,by decide,by decide,?_⟩;show zi (lo:=0) (n:=3) (fun i σ J=>i<=3/\Kp2 p tb H3 J/\TbB J tb/\Pn (1000*(3-i)) J p/\∃ y5 y6,σ=[some (.ref a),some (.ref n),some (.ref l),some (.ref y),some (.ref p),y5,y6]) ⟨by decide,fun b o _ _ e=>e,T3,j.mono (by decide),_,_,rfl⟩ (fun i σ J hi hp=>?_) fun σ J hp=>?_
  .obtain⟨_,kJ,TJ,A,y5,y6,rfl⟩:=hp;obtain⟨tj,D,_⟩:=id TJ;have PJ:=kJ.pl I j d P3;apply⟨p,l,ss,ts,tps,1000*(3-i)-90,rfl,A.mono (by lk),d,PJ,R,fun r ag qs Y b1 W ao C Pr dq=>?_⟩;have M:Kp2 p tb J Y:=fun b o _ n2 e=>b1 b o n2 e;have aj:tb≠p:=fun z=>by obtain⟨_,_,_,v,_⟩:=A;rw[<- z,D] at v;cases v
   ext;have TJ1:TbB Y tb:=qbn TJ fun b s e x=>b1 b s (fun z=>by obtain⟨_,_,_,v,_⟩:=A;rw[z,v] at e;show x _ (ym e).symm) e;obtain⟨ap,G,_⟩:=id TJ1;have PJ1:=M.pl D A d PJ;show⟨p,l,ss,ts,tps,1000*(3-i)-180,rfl,W.mono (by lk),d,PJ1,R,fun o ai rs O b2 B2 an ad Po dr=>?_⟩;have N:Kp2 p tb Y O:=fun b s _ n2 e=>b2 b s n2 e;have TJ2:TbB O tb:=qbn TJ1 fun b s e x=>b2 b s (fun z=>by obtain⟨_,_,_,v,_⟩:=W;rw[z,v] at e;show x _ (ym e).symm) e;have k2:=(kJ.trans M).trans N;have W5:WebP (fun a=>a=p\/a=tb) cw O y ss ns:=W3.keep fun c s n e=>k2 c s (fun z=>n (.inr z)) (fun z=>n (.inl z)) e;have ae:O n=some (.lst (ss.map V.str)):=k2 _ _ (jd m I (by intro z;cases z)) (j.ne m) m;have Pr2:=N.pl G W C Pr;apply⟨y,n,r,o,p,ss,ns,ag,ai,tps,qs,rs,1000*(3-i)-200,rfl,⟨W5,ae,Po,ad,TJ2⟩,hA,hO,R,Pr2,C,dq,dr,B2.mono (by lk),fun J3 k3 Z X=>?_⟩;apply yq ?_;show⟨hi,k2.trans k3,Z,X.mono (by lk),_,_,rfl⟩
  .obtain⟨_,kJ,TJ,A,y5,y6,rfl⟩:=hp;apply q J
end
theorem all_mk{l:W.OpenLaw}{w:World}{h:Heap}{mg:Str->Option Value}{fa c cB bm:Addr}{g i j:Tok}(X:K.In h)(G:h.Ns mainGlobals mg)(q:mg "law"=some (.ref fa))
  (Cw_:W.nsIn K mainGlobals "Web"=some (some (.ref c)))
  (uy:FG K "are_pairs" j7)
  (uh:FG K "partners_in" jB)
  (uz:FG K "are_alike" j9)
  (uZ:FG K "is_row" qak)
  (K6:FG K "are_unlike_places" qJ)
  (uc:FG K "goes_by_turns" qF)
  (uF:FG K "can_turn" zy)
  (u3:FG K "turned" zT)
  (uN:FGC K "between" jL cB)
  (uf:FG K "near_between" q8)
  (u4:FG K "walked" zW)
  (uO:FG K "is_name" zn)
  (uP:FG K "has_bit" zP)
  (uG:FG K "is_place" zt)
  (K8:FG K "are_two_places" q9)
  (ur:FG K "numbers_of" jO)
  (uQ:FG K "near_of" zQ)
  (UZ:FG K "_law_at" qcA)
  (UT:FG K "_law_box" qbi)
  (u5:FG K "_law_take" qam)
  (uR:FG K "_law_names" jK)
  (UU:FG K "_law_web" qbj)
  (uk:FG K "_law_more_ties" jl)
  (uS:FG K "_law_pairs" zU)
  (uu:FG K "_law_partners" jS)
  (uH:FG K "_law_rising" zz)
  (uA:FG K "_law_flipped" j8)
  (u6:FG K "_law_gain" qan)
  (UV:FG K "_law_led" zK)
  (U2:FG K "law" qca)
  (vq:FM K c "__init__" "Web.__init__" zu)
  (uI:FM K c "places" "Web.places" jP)
  (u7:FM K c "ties" "Web.ties" zw)
  (ul:FM K c "has_place" "Web.has_place" jj)
  (uB:FM K c "has_tie" "Web.has_tie" jA)
  (um:FM K c "number_of" "Web.number_of" jk)
  (uJ:FM K c "beside" "Web.beside" jQ)
  (ud:FM K c "bits_beside" "Web.bits_beside" qS)
  (u8:FM K c "tied" "Web.tied" zv)
  (uv:FM K c "names_in" "Web.names_in" qZ)
  (w1:W.plainGet K c Str.empty=true)
  (w2:W.hasDictIn K c=true)
  (w3:W.plainOver K c=true)
  (w4:W.findIn K (.ref c) "__setattr__"=some (some (.builtin "object.__setattr__")))
  (w5:W.makesIn K c=true)
  (w6:W.keepIn K (.ref c)=true)
  (w7:W.findIn K (.ref c) "numbers"=some none)
  (w8:W.findIn K (.ref c) "order"=some none)
  (w9:W.findIn K (.ref c) "near"=some none)
  (z:W.nsIn K mainGlobals "zip"=some none)
  (y:W.nsIn K mainGlobals "sorted"=some none)
  (x:W.nsIn K mainGlobals "sum"=some none)
  (p:qeX K cB tb=true)
  (o:W.nsIn K mainGlobals "__builtins__"=some (some (.ref bm)))
  (n:bmB K bm tb=true)
  (z0:W.nsIn K mainGlobals "len"=some none)
  (z1:W.nsIn K mainGlobals "int"=some none)
  (z2:W.nsIn K mainGlobals "enumerate"=some none)
  (z3:W.nsIn K mainGlobals "all"=some none)
  (z4:W.nsIn K mainGlobals "max"=some none)
  (z5:W.nsIn K mainGlobals "min"=some none)
  (z6:W.nsIn K mainGlobals "isinstance"=some none)
  (z7:W.nsIn K mainGlobals "bool"=some none)
  (z8:W.nsIn K mainGlobals "str"=some none)
  (z9:W.nsIn K mainGlobals "range"=some none)
  (t:W.nsIn K mainGlobals "list"=some none)
  (u:W.nsIn K mainGlobals "tuple"=some none)
  (u0:W.nsIn K mainGlobals "LONGEST_NAME"=some (some (.int 6 g)))
  (u1:W.nsIn K mainGlobals "MOST_PLACES"=some (some (.int 14 i)))
  (u2:W.nsIn K mainGlobals "MOST_TIES"=some (some (.int 30 j))) :
  ∃ fd:FuncData,(∀(s:Shared) (v:Value),BindsTo s fd ⟨[v],[]⟩ [("_law_script",v)])/\∀ b:Heap,K.In b->b.Ns mainGlobals mg->FnOk l.prog w K mg b CX0 14 fa fd ["_law_script"] (spLawT K tb):=by
 obtain⟨_,_,uC,Ue⟩:=uy;obtain⟨_,_,uo,Uf⟩:=uh;obtain⟨_,_,uD,Ug⟩:=uz;obtain⟨_,_,u9,Uh⟩:=uZ;obtain⟨_,_,K7,Ui⟩:=K6;obtain⟨_,_,ue,Uj⟩:=uc;obtain⟨_,_,uK,Uk⟩:=uF;obtain⟨_,_,Ua,Ul⟩:=u3;obtain⟨_,_,uT,Um,r⟩:=uN;obtain⟨_,_,ug,Uo⟩:=uf;obtain⟨_,_,Ub,Up⟩:=u4;obtain⟨_,_,uU,Uq⟩:=uO;obtain⟨_,_,uV,Ur⟩:=uP;obtain⟨_,_,uL,Us⟩:=uG;obtain⟨_,_,K9,Ut⟩:=K8;obtain⟨_,_,uw,Uu⟩:=ur;obtain⟨_,_,uW,Uv⟩:=uQ;obtain⟨_,_,U0,Uw⟩:=UZ;obtain⟨_,_,UW,Ux⟩:=UT;obtain⟨_,_,Uc,Uy⟩:=u5;obtain⟨_,_,uX,Uz⟩:=uR;obtain⟨_,_,UX,B⟩:=UU;obtain⟨_,_,uq,C⟩:=uk;obtain⟨_,_,uY,D⟩:=uS;obtain⟨_,_,ux,E⟩:=uu;obtain⟨_,_,uM,F⟩:=uH;obtain⟨_,_,uE,H⟩:=uA;obtain⟨_,_,Ud,I⟩:=u6;obtain⟨_,_,UY,J⟩:=UV;obtain⟨_,_,U3,L⟩:=U2;obtain⟨_,_,vv,vw,A⟩:=vq;obtain⟨_,_,U4,U5,M⟩:=uI;obtain⟨_,_,U6,U7,N⟩:=u7;obtain⟨_,_,U8,U9,O⟩:=ul;obtain⟨_,_,vc,vd,P⟩:=uB;obtain⟨_,_,ve,vf,R⟩:=um;obtain⟨_,_,vg,vh,S⟩:=uJ;obtain⟨_,_,vi,vk,U⟩:=ud;obtain⟨_,_,vm,vn,Y⟩:=u8;obtain⟨_,_,vo,vp,Z⟩:=uv;have e:=q.symm.trans (W.mg_of X G U3);cases e;have d:Cls K c:=⟨w1,w2,w3,w4⟩;have T:Txt K mg (fun _=>c) c:=⟨Yu X G z0,
  Yu X G z1,
  Yu X G z2,
  Yu X G z3,
  Yu X G z4,
  Yu X G z5,
  Yu X G z6,
  Yu X G z7,
  Yu X G z8,
  Yu X G z9,
  Yu X G t,
  Yu X G u,
  ⟨g,W.mg_of X G u0⟩,
  ⟨i,W.mg_of X G u1⟩,
  ⟨j,W.mg_of X G u2⟩,
  d,
  w7,
  w8,
  w9,
  W.mg_of X G Cw_,
  Yu X G z,
  Yu X G y,
  Yu X G x⟩
 obtain⟨oc,od,kV,m,pm,an,cd,ct,sl,rfl,lk,hc⟩:=L.ex;show⟨W.fnOf "law" "law" (zI qca) (jU qca) (qg qca) .none kV m pm an cd ct,fun s v=>.of_eq rfl,fun b kb nb=>?_⟩;have a:=@fg_mk l.prog w K mg b h;have f:=@fm_mk l.prog w K mg b;have fw:=@fw_mk l.prog w K mg b h;have d_name:=a X G uU Uq (ok_name Uq T);have d_place:=a X G uL Us (ok_place Us d_name);have d_two:=a X G K9 Ut (ok_two Ut T d_place);have d_bit:=a X G uV Ur (ok_bit Ur);have d_nums:=a X G uw Uu (ok_nums Uu T d_name);have d_near:=a X G uW Uv (ok_near Uv T d_two d_bit);have q_web:MakeOk l.prog w K mg b CX0 5 c "Web" ["self","names","ties"] (spWeb c):=fw X G Cw_ w5 w6 vv vw A (ok_web A T d_nums d_near);have m_has:=f d U8 U9 O (ok_has O T d_place);have m_num:=f d ve vf R (ok_num R T m_has);have m_bb:=f d vi vk U (ok_bb U T m_num);have m_nin:=f d vo vp Z (ok_nin Z T d_bit);have m_bs:=f d vg vh S (ok_bs S T m_bb m_nin);have m_tied:=f d vm vn Y (ok_tied Y T m_bb m_num d_bit);have m_pls:=f d U4 U5 M (ok_pls M T);have m_ts:=f d U6 U7 N (ok_ts N T m_bs);have m_ht:=f d vc vd P (ok_ht P T d_two m_tied);have d_ap:=a X G uC Ue (ok_ap Ue T m_ht);have d_pn:=a X G uo Uf (ok_pn Uf T d_ap);have d_ul:=a X G K7 Ui (ok_ul Ui T m_has);have d_gt:=a X G ue Uj (ok_gt Uj T m_ht);have d_ir:=a X G u9 Uh (ok_ir Uh T d_pn d_ul d_gt);have d_ct:=a X G uK Uk (ok_ct Uk T d_pn d_ir);have d_tu:=a X G Ua Ul (ok_tu Ul T d_pn m_ts d_ct);have d_al:=a X G uD Ug (ok_alQ Ug T d_pn);have d_nb:=a X G ug Uo (ok_nb Uo T m_pls m_bs);have d_wk:=a X G Ub Up (ok_wkd Up T);have d_bt:=a X G uT Um (ok_bt Um T r (chd_of kb p) (bm_of kb (W.mg_of X G o) n) d_nb d_pn d_wk m_pls m_num);have d_tk:=a X G Uc Uy (ok_tkp Uy T);have d_at:=a X G U0 Uw (ok_ce Uw T);have d_bx:=a X G UW Ux (ok_pu Ux T);have d_pt:=a X G ux E (ok_ptA E T);have d_fp:=a X G uE H (ok_fp H T d_pt (a X G uM F (ok_rsG F T)));have d_ld:=a X G UY J (ok_ld J T d_bt (a X G Ud I (ok_gnQ I T d_pt)) d_tk d_ct d_fp d_tu d_al) (hb:=fun _ _ _ _ _ _=>lN5 fun _ _ _ _ _=>rfl);show ok_law25 L T (a X G UX B (ok_wbA B T d_at d_bx d_tk (a X G uX Uz (ok_nmA Uz T d_tk)) (a X G uq C (ok_mtA C T d_tk)))) q_web d_bx d_at (a X G uY D (ok_prA D T d_tk)) d_ld
theorem walk{l:PySem.W.OpenLaw}{q:Program}{loose:LS}{XP:(Str->Option Value)->Heap->Prop}{YP:World->Heap->Prop}{d:DefRec}{K:Params->yg}(o:l.most=some 63)(e:d.params.defaults=[])
  (m:∀(w:World) (h:Heap),YP w h->(K w.params).In h/\h.TableAt 232 228 #[]) (g:∀ w:World,(K w.params).lookup 228=none)
  (F:∀(w:World) (mg:Str->Option Value) (i:Addr) (h:Heap),(K w.params).In h->h.Ns mainGlobals mg->mg d.name=some (.ref i) ->
   ∃ fd:FuncData,(∀(s:Shared) (u:Value),BindsTo s fd ⟨[u],[]⟩ [("_law_script",u)])/\∀ b:Heap,(K w.params).In b->b.Ns mainGlobals mg->FnOk l.prog w (K w.params) mg b CX0 14 i fd ["_law_script"] (spLawT (K w.params) 228)) :
  PySem.W.WalkO q loose XP YP l.row.toRowW d [] (fun f vs=>PySem.call f vs):=
 L2.walk_ofT (c:=232) (p:=228) (ps:=#[]) (n:=63) (k:=14) (x:="_law_script") (CX:=fun _=>CX0) (sp:=fun w=>spLawT (K w.params) 228) o (by decide) e ⟨rfl,by decide,by decide,rfl⟩ m g F (fun _ _ a ns hl r j=>⟨a,ns,rfl,j,hl,⟨#[],r,trivial,.inl rfl⟩,fun _=>rfl⟩) fun _ _ _ _ _ z=>z
end K25
set_option maxRecDepth 100000 in
set_option maxHeartbeats 0 in
theorem PySem.Challenge.cw_onceroad_k25_whole_rows_lead_from_pairs_holds : PySem.Challenge.rw_onceroad_k25_whole_rows_lead_from_pairs.Holds := by
  w_on; o_law
  show PySem.W.holds_open (q := K25.Q) (loose := []) (Xt := K25.Xt) (XP := PySem.W.XL K25.Q []) (Yf := PySem.W.Hook.obs K25.Hk) (Ya := PySem.W.Hook.val K25.Hk) (YP := PySem.W.Hook.says (L2.hookT K25.Kf K25.ks K25.ks_eq 228 (PySem.W.tabObj #[]))) (N := K25.NN) K25.hl (PySem.W.Hook.of K25.Hk) (PySem.W.Hook.keeps K25.Hk) (fun s e => PySem.W.xl_of s (Bool.and_eq_true_iff.mp e).1) PySem.W.XL.keeps (by rfl) (by rfl) (by rfl) (fun s e => PySem.W.recFacts_of (Bool.and_eq_true_iff.mp e).2) (by rfl) (by first | assumption | room) (by room) ⟨rfl, rfl, rfl, rfl, rfl, by room⟩ ?hw ?hc
  (case hw => w_witness2)
  k_fill
  show K25.walk (l := PySem.Challenge.rw_onceroad_k25_whole_rows_lead_from_pairs) rfl rfl (fun w h Y => ⟨PySem.W.kIn_of Y.1, (L2.chd_of (K := K25.Kf w.params) (PySem.W.kIn_of Y.1) (by kernel_rfl)).tab Y.2⟩) (fun w => by kernel_rfl) ?F
  case F =>
    intro w mg fa h KX G hmg
    refine' K25.all_mk KX G hmg ?_ ?_ ?_ ?_ ?_ ?_ ?_ ?_ ?_ ?_ ?_ ?_ ?_ ?_ ?_ ?_ ?_ ?_ ?_ ?_ ?_ ?_ ?_ ?_ ?_ ?_ ?_ ?_ ?_ ?_ ?_ ?_ ?_ ?_ ?_ ?_ ?_ ?_ ?_ ?_ ?_ ?_ ?_ ?_ ?_ ?_ ?_ ?_ ?_ ?_ ?_ ?_ ?_ ?_ ?_ ?_ ?_ ?_ ?_ ?_ ?_ ?_ ?_ ?_ ?_ ?_ ?_ ?_ ?_ ?_ ?_
    any_goals first | k_is | decide
    any_goals first | k_is | decide | show⟨_, _, by k_is, L2.fun_mk (by k_is) (by k_is) (by k_is), rfl⟩ | show⟨_, _, by k_is, L2.fun_mk (by k_is) (by k_is) (by k_is)⟩ | show⟨_, _, by k_is, by k_is, L2.fun_mk (by k_is) (by k_is) (by k_is)⟩ | show⟨_, _, _, _, _, _, _, _, _, _, _, _, _, _, _, by k_is⟩ | show⟨by k_is, by k_is, by k_is, by k_is, by k_is, by k_is, by k_is, by k_is⟩ | kernel_rfl | fail
