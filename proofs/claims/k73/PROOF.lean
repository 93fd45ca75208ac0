import PyProof.Rows.All
import Wide.All
import OpenK.AllK
import Wide.FinOn
import PyProof.EqAt
import PyProof.EqKinds
import PyProof.TupleCall
import Lean
import PySem.Challenge.RW_onceroad_k73_free_sets_and_good_moves
set_option Elab.async false
set_option linter.all false
set_option maxRecDepth 100000
local macro_rules | `(tactic| show $e)=>`(tactic| refine $e)
abbrev LQ:=List Int
abbrev LI:=List PySem.Addr
abbrev LN:=List Nat
abbrev LS:=List PySem.Str
abbrev LP:=List (PySem.Str×PySem.Str)
local macro_rules | `(tactic| room)=>`(tactic| decide +kernel)
local macro_rules | `(tactic| lk)=>`(tactic| first | lia | omega)
set_option hygiene false
local macro_rules | `(wq7 $a $b $c $d)=>`(DefOk P w K mg base CX0 $a $b $c $d)
local macro_rules | `(wq8 $a $b $c $d $e)=>`(MethOk P w K mg base CX0 $a $b $c $d $e)
local macro_rules | `(wq9 $a $b $c $d $e)=>`(FnOk P w K mg base CX0 $a $b $c $d $e)
local macro_rules | `(wqqa $a $b $c $d $e)=>`(MakeOk P w K mg base CX0 $a $b $c $d $e)
set_option hygiene true
noncomputable section
abbrev wa:LS:=["_law_web_here","_law_names_here","_law_ties","_law_start","_law_cells","_law_near_here","_law_found","_law_numbers","_law_some","_law_places","_law_sums","_law_cell","_law_total","_law_chosen","_law_k","_law_kept"]
abbrev wh:LS:=["_law_names_here","_law_ties","_law_start","_law_cell","_law_keen","_law_webs","_law_roads","_law_here","_law_k","_law_at","_law_due","_law_place","_law_rest","_law_found"]
abbrev wqa:LS:=["self","place"]
abbrev wqb:LS:=["_law_ties","_law_start"]
abbrev wqc:LS:=["web","start"]
abbrev wqd:LS:=["_law_web_here","_law_names_here","_law_ties","_law_start","_law_due","_law_place","_law_rest","_law_turn","_law_found"]
abbrev wqe:LS:=["_law_numbers","_law_left","_law_many","_law_bit","_law_some","_law_rest"]
abbrev wqf:LS:=["self"]
abbrev wqg:LS:=["_law_cell","_law_apart","_law_box_here","_law_many","_law_names_here","_law_thick","_law_side","_law_ties","_law_i","_law_j","_law_there"]
abbrev wqh:LS:=["_law_ties","_law_here"]
abbrev wqi:LS:=["_law_i","_law_j","_law_names_here"]
abbrev wqj:LS:=["self","one","other"]
abbrev wqk:LS:=["_law_web_here","_law_names_here","_law_ties","_law_start","_law_cells"]
abbrev wql:LS:=["_law_box_here","_law_many"]
abbrev wqm:LS:=["_law_ties","_law_here","_law_places"]
abbrev wqn:LS:=["thing"]
abbrev wqo:LS:=["_law_web_here","_law_names_here","_law_ties","_law_start"]
abbrev wqp:LS:=["_law_ties","_law_start","_law_places","_law_near_here"]
abbrev wqq:LS:=["_law_names_here","_law_ties","_law_start","_law_cell"]
abbrev wqr:LS:=["_law_ties","_law_places"]
abbrev wqs:LS:=["self","names","ties"]
abbrev wqt:LS:=["bits","number"]
abbrev wqu:LS:=["numbers","thing"]
abbrev wqv:LS:=["_law_ties","_law_start","_law_side"]
abbrev wqw:LS:=["web","place"]
abbrev wqx:LS:=["web","start","near","others","picked","chosen"]
abbrev wqy:LS:=["self","thing"]
abbrev wqz:LS:=["web","start","near","numbers","free","bound"]
abbrev wqA:LS:=["_law_names_here","_law_ties","_law_handed"]
abbrev wqB:LS:=["names","numbers"]
abbrev wqC:LS:=["web","ways","one","other","ones","others"]
abbrev wqD:LS:=["_law_place","_law_names_here"]
abbrev wqE:LS:=["_law_names_here","_law_ties"]
abbrev wqF:LS:=["_law_ties","_law_start","_law_places"]
abbrev wqG:LS:=["_law_ties","_law_start","_law_near_here","_law_others"]
abbrev wqH:LS:=["web","places"]
abbrev wqI:LS:=["self","web","start"]
abbrev wqJ:LS:=["_law_place","_law_side"]
abbrev wqK:LS:=["_law_number","_law_bit"]
abbrev wqL:LS:=["numbers"]
abbrev wqM:LS:=["_law_script","_law_k"]
abbrev wqN:LS:=["_law_tie","_law_place","_law_here","_law_at"]
abbrev wqO:LS:=["_law_i","_law_j","_law_here"]
abbrev wqP:LS:=["self","bits"]
abbrev wqQ:LS:=["numbers","goal"]
abbrev wqR:LS:=["_law_tie","_law_due","_law_here","_law_at"]
abbrev wqS:LS:=["thing","low","high"]
abbrev wqT:LS:=["_law_some","_law_names_here","_law_start"]
abbrev wqU:LS:=["_law_far_here","_law_ties","_law_places"]
abbrev wqV:LS:=["_law_cell","_law_apart"]
abbrev wqW:LS:=["_law_tie","_law_place","_law_start"]
abbrev wqX:LS:=["web","start","ways"]
abbrev wqY:LS:=["one","other","self"]
abbrev wqZ:LS:=["place","ways"]
abbrev wq0:LS:=["step","steps"]
abbrev wq1:LS:=["_law_numbers"]
abbrev wq2:LS:=["names"]
abbrev wq3:LS:=["_law_places"]
abbrev wq4:LS:=["self","road"]
abbrev wq5:LS:=["_law_script"]
abbrev wq6:LS:=["numbers","ties"]
theorem wqqb:0<=PySem.sizeLine:=by decide
theorem wqqc:1<=PySem.sizeLine:=by decide
theorem wqqd:2<=PySem.sizeLine:=by decide
theorem ya{b c:Type}{a:List b}(f:b→c):(a.map f).length=a.length:=List.length_map f
theorem yb{a:Type}{l:List a}{i:Nat}(h:i<l.length):l[i]?=some l[i]:=List.getElem?_eq_getElem h
theorem yc{b:Type}{l:List b}{i:Nat}{a:b}:l[i]?=some a↔∃h:i<l.length,l[i]=a:=List.getElem?_eq_some_iff
theorem yd{a b:Type}{f:a→b}{l:List a}{i:Nat}:(l.map f)[i]?=l[i]?.map f:=List.getElem?_map
theorem ye{b:Type}{l:List b}{i:Nat}{a:b}(h:l[i]?=some a):a∈l:=List.mem_of_getElem? h
abbrev yf:=PySem.W.Frag
theorem yg(n:Nat):n≤n:=Nat.le_refl n
theorem yh{a b c:Nat}(h:a≤b)(k:b≤c):a≤c:=Nat.le_trans h k
theorem yi{a b c:Nat}(h:a<b)(k:b≤c):a<c:=Nat.lt_of_lt_of_le h k
theorem yj{p:Prop}[Decidable p](h:decide p=true):p:=of_decide_eq_true h
theorem yk{p:Prop}[Decidable p](h:¬p):decide p=false:=decide_eq_false h
theorem yl{c:Type}{a b:c}(h:some a=some b):a=b:=Option.some.inj h
theorem ym{c d:Type}{f:c→d}{x:Option c}{b:d}:x.map f=some b↔∃a,x=some a∧f a=b:=Option.map_eq_some_iff
theorem yn{b:Type}{a:b}{l:List b}:(a::l).Nodup↔a∉l∧l.Nodup:=List.nodup_cons
theorem yo{a:Type}{p:a→Bool}{b:List a}{x:a}:x∈b.filter p↔x∈b∧p x=true:=List.mem_filter
theorem yp{A B:Prop}(h:B):if false=true then A else B:=h
def yq:=@List.map_append
def yr:=@PySem.wpAny_bind
def yt:=@List.length_filter_le
def yu:=@List.length_append
def yv:=@List.take_length
def yw:=@decide_eq_true
def yx:=@List.mem_singleton
def yy:=@List.mem_cons_of_mem
def yz:=@PySem.Heap.get?_push_of_some
def yA:=@List.take_add_one
def yB:=@List.size_toArray
def yC:=@if_neg
def yD:=@decide_eq_true_iff
def yE:=@PySem.wpAny_pure
def yF:=@Or.inl
def yG:=@if_pos
def yH:=@List.length_take
def yI:=@Nat.le_of_lt
def yJ:=@List.mem_map
def yK:=@List.mem_cons_self
def yL:=@List.getD_eq_getElem?_getD
def yM:=@List.filter_cons
def yN:=@List.mem_cons
def yO:=@List.mem_append
def yP:=@PySem.F.plainAttrs_list
def yQ:=@List.filter_append
def yR:=@PySem.Heap.lt_size
def yS:=@PySem.PassesOwn.never
def yT:=@List.mem_append_right
def yU:=@PySem.F.slot_list_append
def yV:=@PySem.F.type_list_append
def yW:=@Bool.eq_iff_iff
def yX:=@List.getElem?_append_left
def yY:=@PySem.Heap.get?_push_size
def yZ:=@List.append_nil
def y1:=@Bool.and_eq_true
def y6:=@Int.toNat_natCast
def y7:=@List.mem_range
def Yb:=@Nat.testBit_xor
def Yc:=@List.length_range
def Yd:=@List.length_cons
def Ye:=@List.getElem?_append_right
def Yg:=@List.pairwise_iff_getElem
def Yh:=@List.idxOf_lt_length_of_mem
def Yi:=@decide_eq_decide
def Yj:=@Nat.ne_of_lt
def Yk:=@List.map_cons
def Yl:=@Nat.pow_le_pow_right
def Ym:=@Nat.zero_testBit
def Yn:=@decide_eq_false_iff_not
def Yo:=@beq_iff_eq
def Yp:=@Bool.xor_false
def Yq:=@List.not_mem_nil
def Yr:=@Nat.lt_irrefl
def Ys:=@Bool.false_ne_true
def Yt:=@Bool.and_false
def Yu:=@List.append_assoc
def Yv:=@List.mem_of_mem_take
def Yw:=@List.getElem_idxOf
def Yx:=@Nat.testBit_lt_two_pow
def Yy:=@List.all_eq_true
def Yz:=@List.getElem_mem
def YA:=@beq_eq_false_iff_ne
def YB:=@Ne.symm
def YC:=@List.map_map
def YD:=@List.filter_congr
def YE:=@PySem.boot_len
def YF:=@Bool.not_eq_true'
def YG:=@List.mem_append_left
def YH:=@Nat.eq_of_testBit_eq
def YI:=@List.take_of_length_le
def YJ:=@Nat.zero_xor
def YK:=@PySem.W.mg_none_of
def YL:=@True.intro
def YM:=@Nat.zero_le
def YN:=@PySem.wpAny_holding
def YO:=@PySem.F.slot_NoneType_eq
def YQ:=@Nat.xor_zero
def YR:=@List.range_succ
def YS:=@Nat.zero_add
def YT:=@PyProof.Rows.boot_isinstance
def YU:=@PySem.W.looks_findIn
def YV:=@PyProof.Rows.callWith_type1
def YW:=@PySem.wpAny_truthy_bool
def YX:=@Or.inr
def YY:=@List.length_nil
def YZ:=@Bool.or_eq_true
def Y0:=@PySem.wpAny_of_eq
def Y5:=@Int.emod_nonneg
def Y6:=@Classical.byContradiction
def Y7:=@List.length_replicate
def Y8:=@PySem.wpAny_mono
def Y9:=@List.getElem?_of_mem
def xi:=@List.find?_cons
def xj:=@List.filter_nil
def xk:=@List.replicate_succ
def xl:=@List.filter_sublist
def xm:=@Nat.le_succ
def xn:=@Bool.true_and
def xo:=@List.any_eq_true
def xp:=@List.lookup_append
def xq:=@Nat.mod_two_eq_zero_or_one
def xr:=@Int.emod_lt_of_pos
def xt:=@List.length_singleton
def xu:=@PySem.wpAny_passesOwn
def xv:=@List.getElem?_set_ne
def xy:=@PySem.codeAny_call_builtin
def xz:=@List.nodup_append
def xA:=@Int.zero_add
def xB:=@List.pairwise_map
def xC:=@PyProof.Rows.slot_tuple_getitem
def xD:=@PySem.mem_of_lookup
def xE:=@PySem.W.looks_mroIn
def xF:=@List.length_reverse
def xG:=@Nat.testBit_two_pow
def xH:=@List.map_congr_left
def xJ:=@Bool.false_and
def xK:=@PySem.W.any_some
def xL:=@PySem.Heap.size_push
def xM:=@List.lookup_cons
def xN:=@beq_self_eq_true
def xO:=@PySem.wpAny_getItem_str_slice
def xP:=@Nat.le_add_right
def xQ:=@Nat.testBit_or
def xR:=@PySem.sizeLine_eq
def xS:=@PySem.wpAny_Call_Name_kw
def xT:=@PySem.tupleKind_room_in1
def xU:=@Nat.lt_of_le_of_lt
def xV:=@List.pairwise_cons
def xW:=@PyProof.Rows.bitAnd_m1
def xX:=@or_false
def xY:=@Nat.min_eq_left
def xZ:=@Int.natCast_pow
def Xa:=@List.all_cons
def Xb:=@List.any_cons
def Xc:=@PyProof.Rows.boot_list
def Xd:=@PySem.wpAny_newObj_type
def Xe:=@List.flatten_cons
def Xf:=@List.length_dropLast
def Xg:=@List.pairwise_append
def Xh:=@Nat.pow_lt_pow_right
def Xi:=@Bool.false_xor
def Xj:=@List.perm_ext_iff_of_nodup
def Xk:=@Nat.ne_of_gt
def Xl:=@if_true
def Xm:=@Nat.lt_pow_two_of_testBit
def Xn:=@List.getLast?_eq_getElem?
def Xo:=@List.filterMap_cons
def Xp:=@Array.length_toList
def Xq:=@Bool.or_false
def Xr:=@List.getElem?_replicate
def Xs:=@List.take_sublist
def Xu:=@PySem.Calls.callWith_builtin
def Xv:=@Array.getElem?_eq_none
def Xw:=@List.take_zero
def Xx:=@Array.getElem?_toList
def Xy:=@PySem.F.slot_dict_get
def Xz:=@List.getElem?_eq_none
def XA:=@Nat.lt_succ_self
def XB:=@PySem.wpAny_call
def XC:=@List.length_drop
def XD:=@List.cons_append
def XE:=@Nat.le_of_not_lt
def XF:=@Prod.ext
def XG:=@List.dropLast_subset
def XH:=@PySem.wpAny_execs_nil
def XI:=@List.length_set
def XJ:=@PySem.SeqAt.EqAt.same
def XM:=@Option.map_some
def XR:=@PySem.post_val_or_str
def XS:=@List.filter_map
def XT:=@PySem.W.plainGet_of
def XU:=@PySem.W.looks_clsIn
def XV:=@PySem.Calls.spliced_cons
def XW:=@PySem.W.callWith_K
def XX:=@PySem.call_meets
def XY:=@Nat.xor_lt_two_pow
def XZ:=@List.getElem?_take
def X0:=@List.filter_filter
def X1:=@PySem.slot_list_getitem
def X2:=@Option.isSome_map
def X3:=@PySem.wpAny_pyIter_list
def X4:=@Nat.le_succ_of_le
def X5:=@Int.one_mul
def X6:=@Nat.or_lt_two_pow
def X7:=@PyProof.Rows.boot_sorted
def X8:=@PySem.W.mg_of
def X9:=@Prod.mk.injEq
def kc:=@Bool.xor_true
def ke:=@Bool.and_true
def kf:=@PySem.W.makes_of
def kg:=@Nat.min_le_right
def kh:=@PySem.wpAny_askSetting
def ki:=@Nat.min_eq_right
def kj:=@Nat.testBit_log2
def km:=@PySem.codeAny_mono
def ko:=@List.map_nil
def kq:=@PySem.Txt.slice_le
def kr:=@List.of_mem_zip
def kt:=@Nat.div_add_mod
def ku:=@List.Perm.of_eq
def kx:=@Sum.inr.inj
def ky:=@if_false
def kz:=@List.cons.inj
def kB:=@List.map_take
def kC:=@List.map_drop
def kD:=@List.all_map
def kE:=@decide_false
def kF:=@Iff.rfl
namespace L2
open PySem PySem.Spec PyProof.Rows
def jc(s:Stmt)(j:Nat):Stmt:=match s with
 | .ClassDef _ _ _ body _ _ _ _ _ _ _=>body.getD j (.Pass ⟨0,0,0,0⟩)
 | _=>.Pass ⟨0,0,0,0⟩
def qaN(s:Stmt):Arguments:=match s with
 | .FunctionDef _ a _ _ _ _ _ _ _ _=>a
 | _=>{ posonlyargs:=[],args:=[],vararg:=none,kwonlyargs:=[],kw_defaults:=[],kwarg:=none,defaults:=[] }
def zC(s:Stmt):List Stmt:=match s with
 | .FunctionDef _ _ b _ _ _ _ _ _ _=>b
 | _=>[]
def qf(s:Stmt):Scope:=match s with
 | .FunctionDef _ _ _ _ _ _ sc _ _ _=>sc
 | _=>{ kind:=.function,names:=[],isGenerator:=false,isCoroutine:=false }
end L2
namespace K73
open PySem L2 PyProof.Rows
def top(i:Nat):Stmt:=PySem.Challenge.pw_onceroad_k73_free_sets_and_good_moves.main.body.getD i (.Pass ⟨0,0,0,0⟩)
abbrev qaq:Stmt:=top 21
abbrev qa3:Stmt:=top 26
abbrev qay:Stmt:=top 27
abbrev jJ:Stmt:=top 28
abbrev zx:Stmt:=top 29
abbrev qaz:Stmt:=jc (top 25) 0
abbrev qa5:Stmt:=top 30
abbrev zy:Stmt:=jc (top 25) 1
abbrev jO:Stmt:=jc (top 25) 4
abbrev jP:Stmt:=jc (top 25) 6
abbrev zz:Stmt:=jc (top 25) 7
abbrev jB:Stmt:=jc (top 25) 8
abbrev qaA:Stmt:=jc (top 25) 9
abbrev jH:Stmt:=jc (top 25) 12
abbrev zA:Stmt:=jc (top 25) 10
abbrev jZ:Stmt:=top 31
abbrev qaB:Stmt:=jc (top 25) 2
abbrev jQ:Stmt:=top 13
abbrev zc:Stmt:=top 15
abbrev qa9:Stmt:=top 14
abbrev zf:Stmt:=top 12
abbrev qaC:Stmt:=top 19
abbrev zV:Stmt:=top 20
abbrev jq:Stmt:=top 37
abbrev zW:Stmt:=top 38
abbrev qaD:Stmt:=top 39
abbrev qaE:Stmt:=top 40
abbrev qcc:Stmt:=top 35
abbrev qar:Stmt:=top 36
abbrev qaa:Stmt:=top 62
abbrev qcX:Stmt:=top 63
abbrev qbJ:Stmt:=top 64
abbrev jg:Stmt:=top 65
abbrev qat:Stmt:=top 66
abbrev qbs:Stmt:=top 67
abbrev zL:Stmt:=top 68
abbrev qbc:Stmt:=top 69
abbrev qbd:Stmt:=top 70
abbrev qcm:Stmt:=top 71
abbrev zm:Stmt:=top 74
abbrev qau:Stmt:=top 72
abbrev qbL:Stmt:=top 73
abbrev zn:Stmt:=top 75
abbrev qbf:Stmt:=top 76
abbrev qaF:Stmt:=top 77
abbrev j5:Stmt:=top 44
abbrev zo:Stmt:=top 42
abbrev zM:Stmt:=top 43
abbrev q9:Stmt:=top 47
abbrev zN:Stmt:=top 48
abbrev qbM:Stmt:=top 49
abbrev zg:Stmt:=top 46
abbrev qaG:Stmt:=top 45
abbrev jh:Stmt:=jc (top 25) 16
abbrev zr:Stmt:=top 51
abbrev qaH:Stmt:=top 54
abbrev jN:Stmt:=top 50
abbrev qac:Stmt:=jc (top 56) 0
abbrev jK:Stmt:=jc (top 56) 2
abbrev jr:Stmt:=jc (top 58) 0
abbrev jv:Stmt:=jc (top 58) 3
abbrev j0:Stmt:=jc (top 56) 8
abbrev js:Stmt:=jc (top 58) 1
abbrev j6:Stmt:=jc (top 58) 2
abbrev qbj:Stmt:=jc (top 58) 4
abbrev jS:Stmt:=jc (top 58) 5
abbrev zd:Stmt:=jc (top 60) 0
abbrev qW:Stmt:=top 78
abbrev jt:Stmt:=top 79
abbrev qK:Stmt:=top 80
abbrev qef:Stmt:=top 81
end K73
namespace Hd
open PySem PySem.W PySem.Calls PyProof.Rows
variable{p:Program}{α:Type}
def qgW(c:String->Option Builtin)(p:Program)(w:World)(a:Nat)(b:Option Value):Nat->SharedT->Thread->Option SharedT
 | 0,_,_=>none
 | n+1,s,t=>match through t with
  | true=>some s
  | false=>match stepOk a b t with
   | false=>none
   | true=>match stepT (denote c) p w s t with
    | some (s',t')=>qgW c p w a b n s' t'
    | none=>none
theorem qgF{e:String->Option Builtin}{w:World}{a:Nat}{b:Option Value}:∀{n:Nat} {s d:SharedT} {t:Thread},qgW e p w a b n s t=some d->topRun e p w a b n s.abs t=some d.abs
 | 0,_,_,_,h=>by cases h
 | n+1,s,d,t,h=>by
  unfold qgW at h;unfold topRun
  cases f:through t with
  | true=>rw[f] at h;cases h;rfl
  | false =>
   rw[f] at h
   cases g:stepOk a b t with
   | false=>rw[g] at h;cases h
   | true =>
    rw[g] at h
    cases c:stepT (denote e) p w s t with
    | none=>rw[c] at h;cases h
    | some r=>obtain⟨i,j⟩:=r;rw[c] at h;rw[stepT_spec c];show qgF h
def qeh:List Obj->Nat->BT->BT
 | [],_,t=>t
 | o::r,n,t=>qeh r (n+1) (t.ins n o)
def qfY(P:Params)(a:OsState):SharedT:=⟨qeh (boot_heap P).objs.toList 0 .nil,(boot_heap P).objs.size,(boot_heap P).life,Array.mk [],boot_drawn,boot_toks,a⟩
theorem boot_abs(P:Params):absHeap (qeh (boot_heap P).objs.toList 0 .nil) (boot_heap P).objs.size (boot_heap P).life=boot_heap P:=by kernel_rfl
def qgc(p q:Program)(Xt:Shared->Bool){α:Type}(Yf:Shared->α)(N:Nat)(w:World)(a:OsState):=match (boot_heap w.params).isNs mainGlobals&&(Array.mk []:Array GenState).size==0 with
 | true=>(qgW treeTable p w (boot_heap w.params).objs.size ((boot_heap w.params).nsMap mainGlobals "__annotations__") N (qfY w.params a) (topStub p)).bind λs=>match staticsOk (importedModules p.main.body) (boot_heap w.params) s.abs.heap&&namesBound p s.abs.heap&&gensDone s.abs&&laidKept (boot_heap w.params) s.abs.heap with
   | true=>some (openSeen q [] (importedModules p.main.body) Xt true s.abs,Yf s.abs)
   | false=>none
 | false=>none
noncomputable def lookS(p:Program)(N:Nat)(w:World)(a:OsState):Option Shared:=match (boot_heap w.params).isNs mainGlobals&&(Array.mk []:Array GenState).size==0 with
 | true=>(qgW treeTable p w (boot_heap w.params).objs.size ((boot_heap w.params).nsMap mainGlobals "__annotations__") N (qfY w.params a) (topStub p)).bind λs=>match staticsOk (importedModules p.main.body) (boot_heap w.params) s.abs.heap&&namesBound p s.abs.heap&&gensDone s.abs&&laidKept (boot_heap w.params) s.abs.heap with
   | true=>some s.abs
   | false=>none
 | false=>none
theorem lookT_map(p q:Program)(Xt:Shared->Bool)(Yf:Shared->α)(N:Nat)(w:World)(a:OsState):qgc p q Xt Yf N w a=(lookS p N w a).map λs=>(openSeen q [] (importedModules p.main.body) Xt true s,Yf s):=by
 unfold qgc lookS
 cases (boot_heap w.params).isNs mainGlobals&&(Array.mk []:Array GenState).size==0 with
 | false=>rfl
 | true =>
  dsimp only
  cases qgW treeTable p w (boot_heap w.params).objs.size ((boot_heap w.params).nsMap mainGlobals "__annotations__") N (qfY w.params a) (topStub p) with
  | none=>rfl
  | some s =>
   show(match _ with | true=>_ | false=>_)=Option.map _ (match _ with | true=>_ | false=>_);cases staticsOk (importedModules p.main.body) (boot_heap w.params) s.abs.heap&&namesBound p s.abs.heap&&gensDone s.abs&&laidKept (boot_heap w.params) s.abs.heap<;>rfl
theorem packs{b A B C D E Y:Type}{o:Option b}{f:b->A×B×C×D×E}{g:b->Y}{x:A×B×C×D×E}{y:Y}(h1:o.map (λs=>(f s).1)=some x.1)(j:o.map (λs=>((f s).2.1,(f s).2.2.1,(f s).2.2.2.1))=some (x.2.1,x.2.2.1,x.2.2.2.1))(i:o.map (λs=>(f s).2.2.2.2)=some x.2.2.2.2)(c:o.map g=some y):o.map (λs=>(f s,g s))=some (x,y):=by
 cases o with
 | none=>cases c
 | some s =>
  have d:=yl h1;have e:=yl i;have h:=yl c;have a:=yl j;have l:(f s).1=x.1:=d;have m:(f s).2.1=x.2.1:=congrArg (λz=>z.1) a;have n:(f s).2.2.1=x.2.2.1:=congrArg (λz=>z.2.1) a;have p:(f s).2.2.2.1=x.2.2.2.1:=congrArg (λz=>z.2.2) a;show congrArg some (XF (XF l (XF m (XF n (XF p e)))) h)
theorem left_of{q:Program}{Xt:Shared->Bool}{Yf:Shared->α}{Ya:World->α}{N:Nat}(e:opening p=plainProg p.main.scope.names)(n:Nat.ble 600 N=true)(f:∀ s,fenceModules? p s=some s)
  (h:∀ w a,qgc p q Xt Yf N w a=some (openGood q [],Ya w)):LeftO p q [] Xt Yf Ya N:=λw=>by
 obtain⟨⟨m,l,d,k,a⟩,i,j⟩:=ym.mp (boot_open e n f w);obtain⟨rfl,rfl,rfl,rfl⟩:m=boot_heap w.params/\l=Array.mk []/\d=boot_drawn/\k=boot_toks:=by simpa using j
 have b:=h w a;unfold qgc at b;unfold openEnds;rw[i];show(topFrom treeTable p w N _).map _=_;unfold topFrom;dsimp only;split at b
 .rename_i z
  rw[z];obtain⟨s,o,c⟩:=Option.bind_eq_some_iff.mp b;have r:=qgF o
  have g:(qfY w.params a).abs=⟨boot_heap w.params,Array.mk [],boot_drawn,boot_toks,a⟩:=by
   unfold qfY SharedT.abs;dsimp only;rw[boot_abs]
  rw[g] at r;dsimp only;rw[r];split at c
  .rename_i z2
   show((match staticsOk (importedModules p.main.body) (boot_heap w.params) s.abs.heap&&namesBound p s.abs.heap&&gensDone s.abs&&laidKept (boot_heap w.params) s.abs.heap with | true=>some s.abs | false=>none):Option Shared).map _=_;rw[z2];show c
  .cases c
 .cases b
end Hd
namespace K73
open PySem L2 PyProof.Rows PySem.W
abbrev NN:Nat:=20000
def Q:Program:=view PySem.Challenge.pw_onceroad_k73_free_sets_and_good_moves [0,2,3,4,5,6,7,8,9,10,12,13,14,15,16,18,19,20,21,23,24,25,26,27,28,29,30,31,33,34,35,36,37,38,39,40,42,43,44,45,46,47,48,49,50,51,53,54,56,58,60,62,63,64,65,66,67,68,69,70,71,72,73,74,75,76,77,78,79,80,81]
noncomputable def en(P:Params)(t:Tok)(v:Value)(k:Str):DictEntry:=⟨PyData.keyHash P k,.str k t,v⟩
noncomputable def cO(t a b r:Nat)(x y z v:Value)(e u:Nat)(q n:Str):Obj:=⟨.type "code",none,.fields #[.str n t,.str q (t+1),.str "/claim/cut.py" (t+2),.int a 0,.int b 0,.int 0 0,.int 0 0,.int 3 0,.ref r,.bool true,.int 181 0,x,y,z,v,.ref e,.int u 0,.int a 0,.str "/claim/cut.py" (u+1)],#[]⟩
noncomputable def cE(t b a r:Nat)(x y z v:Value)(e u:Nat)(n:Str):Obj:=cO t b a r x y z v e u n n
noncomputable def fO(k c:Nat)(s:Stmt)(m q n:Str):Obj:=⟨.type "function",none,.func (fnOf n q (qaN s) (zC s) (qf s) .none .none .none (.str m k) none (.ref c) .none),#[]⟩
noncomputable def fE(k c:Nat)(s:Stmt)(m n:Str):Obj:=fO k c s m n n
noncomputable def Kf(P:Params):Frag:=
 (nat_lit 2,(⟨.none,none,.dict #[] 0,#[]⟩:Obj)) ::
 (nat_lit 3,(⟨(.type "dict"),none,.dict #[en P 165 (.str "law_onceroad_k73_free_sets_and_good_moves" 1062) "__name__",en P 166 .none "__doc__",en P 167 .none "__package__",en P 168 (.builtin "__main__.__loader__#opaque") "__loader__",en P 169 .none "__spec__",en P 170 (.ref 6) "__annotations__",en P 171 (.ref 4) "__builtins__",en P 173 (.str "/claim/cut.py" 172) "__file__",en P 174 .none "__cached__",en P 193 (.ref 21) "_wall",en P 221 (.ref 38) "OnceError",en P 246 (.ref 58) "NoName",en P 271 (.ref 77) "Twice",en P 296 (.ref 96) "NoPlace",en P 321 (.ref 115) "NoTie",en P 346 (.ref 134) "TooMany",en P 371 (.ref 153) "Odd",en P 396 (.ref 172) "NoMove",en P 421 (.ref 191) "NoNumbers",en P 429 (.ref 198) "sides_of",en P 436 (.ref 205) "on_first_side",en P 445 (.ref 212) "ways_in",en P 457 (.ref 219) "spread_from",en P 463 (.ref 224) "ring_of",en P 467 (.int 6 466) "LONGEST_NAME",en P 474 (.ref 231) "is_whole",en P 483 (.ref 238) "is_within",en P 489 (.ref 243) "is_name",en P 493 (.int 14 492) "MOST_PLACES",en P 495 (.int 30 494) "MOST_TIES",en P 656 (.ref 368) "Web",en P 664 (.ref 379) "has_bit",en P 672 (.ref 386) "is_place",en P 681 (.ref 393) "are_two_places",en P 690 (.ref 400) "numbers_of",en P 702 (.ref 407) "near_of",en P 714 (.ref 414) "piece_around",en P 718 (.int 40 717) "MOST_SUMMED",en P 720 (.int 1073741823 719) "HIGHEST_SUMMED",en P 726 (.ref 419) "picks",en P 732 (.ref 424) "free_of",en P 738 (.ref 429) "must_be_summed",en P 745 (.ref 436) "is_summed",en P 756 (.ref 443) "steps_of",en P 765 (.ref 450) "lessened",en P 773 (.ref 455) "near_side",en P 779 (.ref 460) "far_side",en P 785 (.ref 465) "piece_with",en P 795 (.ref 472) "told_set",en P 801 (.ref 477) "even_set",en P 807 (.ref 482) "bits_beside_each",en P 813 (.ref 487) "names_at",en P 821 (.ref 494) "bit_of",en P 827 (.ref 499) "free_evens",en P 833 (.ref 504) "good_ties",en P 863 (.ref 521) "Player",en P 870 (.ref 532) "first_of",en P 967 (.ref 612) "Walk",en P 1035 (.ref 669) "Road",en P 1061 (.ref 688) "Keen",en P 1071 (.ref 697) "_law_cell_at",en P 1081 (.ref 704) "_law_box",en P 1090 (.ref 711) "_law_take",en P 1106 (.ref 718) "_law_names",en P 1112 (.ref 723) "_law_drawn",en P 1118 (.ref 728) "_law_web",en P 1124 (.ref 733) "_law_beside",en P 1136 (.ref 740) "_law_sides",en P 1142 (.ref 745) "_law_near",en P 1148 (.ref 750) "_law_far",en P 1154 (.ref 755) "_law_often",en P 1163 (.ref 762) "_law_bits",en P 1169 (.ref 767) "_law_swept",en P 1175 (.ref 772) "_law_columns",en P 1181 (.ref 777) "_law_lost",en P 1187 (.ref 782) "_law_even",en P 1193 (.ref 787) "_law_free_right",en P 1199 (.ref 792) "_law_good_right",en P 1205 (.ref 797) "_law_keen_by_turns",en P 1216 (.ref 804) "law"] 80,#[]⟩:Obj)) ::
 (nat_lit 197,cE 424 50 1 194 (.ref 195) .none .none .none 196 427 "sides_of") ::
 (nat_lit 198,fE 422 197 zf "onceroad.sides" "sides_of") ::
 (nat_lit 204,cE 430 58 1 199 (.ref 200) .none (.ref 201) (.ref 202) 203 434 "on_first_side") ::
 (nat_lit 205,fE 422 204 jQ "onceroad.sides" "on_first_side") ::
 (nat_lit 211,cE 437 60 1 206 (.ref 207) .none (.ref 208) (.ref 209) 210 443 "ways_in") ::
 (nat_lit 212,fE 422 211 qa9 "onceroad.sides" "ways_in") ::
 (nat_lit 218,cE 446 67 3 213 (.ref 214) .none (.ref 215) (.ref 216) 217 455 "spread_from") ::
 (nat_lit 219,fE 422 218 zc "onceroad.sides" "spread_from") ::
 (nat_lit 230,cE 468 80 1 225 (.ref 226) .none (.ref 227) (.ref 228) 229 472 "is_whole") ::
 (nat_lit 231,fE 464 230 qaC "onceroad.names" "is_whole") ::
 (nat_lit 237,cE 475 82 3 232 (.ref 233) .none (.ref 234) (.ref 235) 236 481 "is_within") ::
 (nat_lit 238,fE 464 237 zV "onceroad.names" "is_within") ::
 (nat_lit 242,cE 484 84 1 239 (.ref 240) .none .none .none 241 487 "is_name") ::
 (nat_lit 243,fE 464 242 qaq "onceroad.names" "is_name") ::
 (nat_lit 256,cO 508 93 3 251 (.ref 252) .none (.ref 253) (.ref 254) 255 514 "Web.__init__" "__init__") ::
 (nat_lit 257,fO 490 256 qaz "onceroad.webs" "Web.__init__" "__init__") ::
 (nat_lit 263,cO 517 98 1 258 (.ref 259) .none (.ref 260) (.ref 261) 262 521 "Web.places" "places") ::
 (nat_lit 264,fO 490 263 zy "onceroad.webs" "Web.places" "places") ::
 (nat_lit 270,cO 524 101 1 265 (.ref 266) .none (.ref 267) (.ref 268) 269 531 "Web.ties" "ties") ::
 (nat_lit 271,fO 490 270 qaB "onceroad.webs" "Web.ties" "ties") ::
 (nat_lit 284,cO 541 112 2 279 (.ref 280) .none (.ref 281) (.ref 282) 283 546 "Web.has_place" "has_place") ::
 (nat_lit 285,fO 490 284 jO "onceroad.webs" "Web.has_place" "has_place") ::
 (nat_lit 298,cO 557 118 2 293 (.ref 294) .none (.ref 295) (.ref 296) 297 562 "Web.number_of" "number_of") ::
 (nat_lit 299,fO 490 298 jP "onceroad.webs" "Web.number_of" "number_of") ::
 (nat_lit 305,cO 565 123 2 300 (.ref 301) .none (.ref 302) (.ref 303) 304 570 "Web.beside" "beside") ::
 (nat_lit 306,fO 490 305 zz "onceroad.webs" "Web.beside" "beside") ::
 (nat_lit 312,cO 573 126 2 307 (.ref 308) .none (.ref 309) (.ref 310) 311 578 "Web.bits_beside" "bits_beside") ::
 (nat_lit 313,fO 490 312 jB "onceroad.webs" "Web.bits_beside" "bits_beside") ::
 (nat_lit 319,cO 581 129 3 314 (.ref 315) .none (.ref 316) (.ref 317) 318 588 "Web.tied" "tied") ::
 (nat_lit 320,fO 490 319 qaA "onceroad.webs" "Web.tied" "tied") ::
 (nat_lit 326,cO 591 133 1 321 (.ref 322) .none (.ref 323) (.ref 324) 325 599 "Web.pieces" "pieces") ::
 (nat_lit 327,fO 490 326 zA "onceroad.webs" "Web.pieces" "pieces") ::
 (nat_lit 338,cO 609 146 2 335 (.ref 336) .none .none .none 337 612 "Web.names_in" "names_in") ::
 (nat_lit 339,fO 490 338 jH "onceroad.webs" "Web.names_in" "names_in") ::
 (nat_lit 364,cO 640 158 3 361 (.ref 362) .none .none .none 363 643 "Web.without_tie" "without_tie") ::
 (nat_lit 365,fO 490 364 jh "onceroad.webs" "Web.without_tie" "without_tie") ::
 (nat_lit 367,(⟨(.type "dict"),none,.dict #[en P 503 (.str "onceroad.webs" 490) "__module__",en P 507 (.int 91 506) "__firstlineno__",en P 516 (.ref 257) "__init__",en P 523 (.ref 264) "places",en P 533 (.ref 271) "ties",en P 540 (.ref 278) "how_many",en P 548 (.ref 285) "has_place",en P 556 (.ref 292) "has_tie",en P 564 (.ref 299) "number_of",en P 572 (.ref 306) "beside",en P 580 (.ref 313) "bits_beside",en P 590 (.ref 320) "tied",en P 601 (.ref 327) "pieces",en P 608 (.ref 334) "told",en P 614 (.ref 339) "names_in",en P 622 (.ref 346) "without",en P 630 (.ref 353) "with_place",en P 639 (.ref 360) "with_tie",en P 645 (.ref 365) "without_tie",en P 649 (.ref 366) "__static_attributes__",en P 651 (.ref 369) "__dict__",en P 653 (.ref 370) "__weakref__",en P 654 .none "__doc__"] 4,#[]⟩:Obj)) ::
 (nat_lit 368,(⟨(.type "type"),none,.cls { name:="Web",bases:=[(.type "object")],mro:=[(.ref 368),(.type "object")],ns:=367,qualname:="Web",hasDict:=true,slotNames:=[],subclasses:=[],abstract:=false,collection:=none,hasDel:=false },#[none,none,(some (.str "Web" 496)),(some (.str "Web" 504)),(some (.builtin "object.__new__")),(some (.bool true))]⟩:Obj)) ::
 (nat_lit 378,cE 657 163 2 373 (.ref 374) .none (.ref 375) (.ref 376) 377 662 "has_bit") ::
 (nat_lit 379,fE 490 378 qa3 "onceroad.webs" "has_bit") ::
 (nat_lit 385,cE 665 165 2 380 (.ref 381) .none (.ref 382) (.ref 383) 384 670 "is_place") ::
 (nat_lit 386,fE 490 385 qay "onceroad.webs" "is_place") ::
 (nat_lit 392,cE 673 167 2 387 (.ref 388) .none (.ref 389) (.ref 390) 391 679 "are_two_places") ::
 (nat_lit 393,fE 490 392 jJ "onceroad.webs" "are_two_places") ::
 (nat_lit 399,cE 682 172 1 394 (.ref 395) .none (.ref 396) (.ref 397) 398 688 "numbers_of") ::
 (nat_lit 400,fE 490 399 zx "onceroad.webs" "numbers_of") ::
 (nat_lit 406,cE 691 185 2 401 (.ref 402) .none (.ref 403) (.ref 404) 405 700 "near_of") ::
 (nat_lit 407,fE 490 406 qa5 "onceroad.webs" "near_of") ::
 (nat_lit 413,cE 703 201 2 408 (.ref 409) .none (.ref 410) (.ref 411) 412 712 "piece_around") ::
 (nat_lit 414,fE 490 413 jZ "onceroad.webs" "piece_around") ::
 (nat_lit 418,cE 721 213 2 415 (.ref 416) .none .none .none 417 724 "picks") ::
 (nat_lit 419,fE 715 418 qcc "onceroad.sums" "picks") ::
 (nat_lit 423,cE 727 221 1 420 (.ref 421) .none .none .none 422 730 "free_of") ::
 (nat_lit 424,fE 715 423 qar "onceroad.sums" "free_of") ::
 (nat_lit 428,cE 733 224 1 425 (.ref 426) .none .none .none 427 736 "must_be_summed") ::
 (nat_lit 429,fE 715 428 jq "onceroad.sums" "must_be_summed") ::
 (nat_lit 435,cE 739 227 1 430 (.ref 431) .none (.ref 432) (.ref 433) 434 743 "is_summed") ::
 (nat_lit 436,fE 715 435 zW "onceroad.sums" "is_summed") ::
 (nat_lit 442,cE 746 229 1 437 (.ref 438) .none (.ref 439) (.ref 440) 441 754 "steps_of") ::
 (nat_lit 443,fE 715 442 qaD "onceroad.sums" "steps_of") ::
 (nat_lit 449,cE 757 236 2 444 (.ref 445) .none (.ref 446) (.ref 447) 448 763 "lessened") ::
 (nat_lit 450,fE 715 449 qaE "onceroad.sums" "lessened") ::
 (nat_lit 454,cE 768 242 2 451 (.ref 452) .none .none .none 453 771 "near_side") ::
 (nat_lit 455,fE 766 454 zo "onceroad.evens" "near_side") ::
 (nat_lit 459,cE 774 247 2 456 (.ref 457) .none .none .none 458 777 "far_side") ::
 (nat_lit 460,fE 766 459 zM "onceroad.evens" "far_side") ::
 (nat_lit 464,cE 780 250 2 461 (.ref 462) .none .none .none 463 783 "piece_with") ::
 (nat_lit 465,fE 766 464 j5 "onceroad.evens" "piece_with") ::
 (nat_lit 471,cE 786 252 2 466 (.ref 467) .none (.ref 468) (.ref 469) 470 793 "told_set") ::
 (nat_lit 472,fE 766 471 qaG "onceroad.evens" "told_set") ::
 (nat_lit 476,cE 796 258 2 473 (.ref 474) .none .none .none 475 799 "even_set") ::
 (nat_lit 477,fE 766 476 zg "onceroad.evens" "even_set") ::
 (nat_lit 481,cE 802 266 2 478 (.ref 479) .none .none .none 480 805 "bits_beside_each") ::
 (nat_lit 482,fE 766 481 q9 "onceroad.evens" "bits_beside_each") ::
 (nat_lit 486,cE 808 268 2 483 (.ref 484) .none .none .none 485 811 "names_at") ::
 (nat_lit 487,fE 766 486 zN "onceroad.evens" "names_at") ::
 (nat_lit 493,cE 814 270 2 488 (.ref 489) .none (.ref 490) (.ref 491) 492 819 "bit_of") ::
 (nat_lit 494,fE 766 493 qbM "onceroad.evens" "bit_of") ::
 (nat_lit 498,cE 822 272 2 495 (.ref 496) .none .none .none 497 825 "free_evens") ::
 (nat_lit 499,fE 766 498 jN "onceroad.evens" "free_evens") ::
 (nat_lit 503,cE 828 278 2 500 (.ref 501) .none .none .none 502 831 "good_ties") ::
 (nat_lit 504,fE 766 503 zr "onceroad.evens" "good_ties") ::
 (nat_lit 520,(⟨(.type "dict"),none,.dict #[en P 843 (.str "onceroad.players" 834) "__module__",en P 847 (.int 282 846) "__firstlineno__",en P 855 (.ref 518) "choose",en P 856 (.ref 519) "__static_attributes__",en P 858 (.ref 522) "__dict__",en P 860 (.ref 523) "__weakref__",en P 861 .none "__doc__"] 4,#[]⟩:Obj)) ::
 (nat_lit 521,(⟨(.type "type"),none,.cls { name:="Player",bases:=[(.type "object")],mro:=[(.ref 521),(.type "object")],ns:=520,qualname:="Player",hasDict:=true,slotNames:=[],subclasses:=[(.ref 688)],abstract:=false,collection:=none,hasDel:=false },#[none,none,(some (.str "Player" 836)),(some (.str "Player" 844)),(some (.builtin "object.__new__")),(some (.bool true))]⟩:Obj)) ::
 (nat_lit 531,cE 864 286 1 526 (.ref 527) .none (.ref 528) (.ref 529) 530 868 "first_of") ::
 (nat_lit 532,fE 834 531 qaH "onceroad.players" "first_of") ::
 (nat_lit 545,cO 885 291 3 540 (.ref 541) .none (.ref 542) (.ref 543) 544 891 "Walk.__init__" "__init__") ::
 (nat_lit 546,fO 871 545 qac "onceroad.walks" "Walk.__init__" "__init__") ::
 (nat_lit 559,cO 901 300 1 554 (.ref 555) .none (.ref 556) (.ref 557) 558 905 "Walk.stands_at" "stands_at") ::
 (nat_lit 560,fO 871 559 jK "onceroad.walks" "Walk.stands_at" "stands_at") ::
 (nat_lit 601,cO 943 318 2 596 (.ref 597) .none (.ref 598) (.ref 599) 600 948 "Walk.move_to" "move_to") ::
 (nat_lit 602,fO 871 601 j0 "onceroad.walks" "Walk.move_to" "move_to") ::
 (nat_lit 611,(⟨(.type "dict"),none,.dict #[en P 880 (.str "onceroad.walks" 871) "__module__",en P 884 (.int 289 883) "__firstlineno__",en P 893 (.ref 546) "__init__",en P 900 (.ref 553) "web",en P 907 (.ref 560) "stands_at",en P 914 (.ref 567) "gone",en P 921 (.ref 574) "moves",en P 928 (.ref 581) "hand",en P 935 (.ref 588) "ended",en P 942 (.ref 595) "loser",en P 950 (.ref 602) "move_to",en P 957 (.ref 609) "back",en P 960 (.ref 610) "__static_attributes__",en P 962 (.ref 613) "__dict__",en P 964 (.ref 614) "__weakref__",en P 965 .none "__doc__"] 4,#[]⟩:Obj)) ::
 (nat_lit 612,(⟨(.type "type"),none,.cls { name:="Walk",bases:=[(.type "object")],mro:=[(.ref 612),(.type "object")],ns:=611,qualname:="Walk",hasDict:=true,slotNames:=[],subclasses:=[(.ref 669)],abstract:=false,collection:=none,hasDel:=false },#[none,none,(some (.str "Walk" 873)),(some (.str "Walk" 881)),(some (.builtin "object.__new__")),(some (.bool true))]⟩:Obj)) ::
 (nat_lit 627,cO 982 328 1 624 (.ref 625) .none .none .none 626 985 "Road.ties_gone" "ties_gone") ::
 (nat_lit 628,fO 968 627 jr "onceroad.roads" "Road.ties_gone" "ties_gone") ::
 (nat_lit 632,cO 988 331 1 629 (.ref 630) .none .none .none 631 991 "Road.ties_left" "ties_left") ::
 (nat_lit 633,fO 968 632 js "onceroad.roads" "Road.ties_left" "ties_left") ::
 (nat_lit 637,cO 994 335 1 634 (.ref 635) .none .none .none 636 997 "Road.moves" "moves") ::
 (nat_lit 638,fO 968 637 j6 "onceroad.roads" "Road.moves" "moves") ::
 (nat_lit 644,cO 1000 340 3 639 (.ref 640) .none (.ref 641) (.ref 642) 643 1007 "Road.tie_between" "tie_between") ::
 (nat_lit 645,fO 968 644 jv "onceroad.roads" "Road.tie_between" "tie_between") ::
 (nat_lit 651,cO 1010 344 2 646 (.ref 647) .none (.ref 648) (.ref 649) 650 1015 "Road.go" "go") ::
 (nat_lit 652,fO 968 651 qbj "onceroad.roads" "Road.go" "go") ::
 (nat_lit 658,cO 1018 347 1 653 (.ref 654) .none (.ref 655) (.ref 656) 657 1022 "Road.web_left" "web_left") ::
 (nat_lit 659,fO 968 658 jS "onceroad.roads" "Road.web_left" "web_left") ::
 (nat_lit 668,(⟨(.type "dict"),none,.dict #[en P 977 (.str "onceroad.roads" 968) "__module__",en P 981 (.int 326 980) "__firstlineno__",en P 987 (.ref 628) "ties_gone",en P 993 (.ref 633) "ties_left",en P 999 (.ref 638) "moves",en P 1009 (.ref 645) "tie_between",en P 1017 (.ref 652) "go",en P 1024 (.ref 659) "web_left",en P 1031 (.ref 666) "twin",en P 1032 (.ref 667) "__static_attributes__",en P 1033 .none "__doc__"] 2,#[]⟩:Obj)) ::
 (nat_lit 669,(⟨(.type "type"),none,.cls { name:="Road",bases:=[(.ref 612)],mro:=[(.ref 669),(.ref 612),(.type "object")],ns:=668,qualname:="Road",hasDict:=true,slotNames:=[],subclasses:=[],abstract:=false,collection:=none,hasDel:=false },#[(some (.ref 617)),none,(some (.str "Road" 970)),(some (.str "Road" 978)),(some (.builtin "object.__new__")),(some (.bool true))]⟩:Obj)) ::
 (nat_lit 684,cO 1050 355 2 679 (.ref 680) .none (.ref 681) (.ref 682) 683 1055 "Keen.choose" "choose") ::
 (nat_lit 685,fO 1036 684 zd "onceroad.eveners" "Keen.choose" "choose") ::
 (nat_lit 687,(⟨(.type "dict"),none,.dict #[en P 1045 (.str "onceroad.eveners" 1036) "__module__",en P 1049 (.int 353 1048) "__firstlineno__",en P 1057 (.ref 685) "choose",en P 1058 (.ref 686) "__static_attributes__",en P 1059 .none "__doc__"] 2,#[]⟩:Obj)) ::
 (nat_lit 688,(⟨(.type "type"),none,.cls { name:="Keen",bases:=[(.ref 521)],mro:=[(.ref 688),(.ref 521),(.type "object")],ns:=687,qualname:="Keen",hasDict:=true,slotNames:=[],subclasses:=[],abstract:=false,collection:=none,hasDel:=false },#[(some (.ref 672)),none,(some (.str "Keen" 1038)),(some (.str "Keen" 1046)),(some (.builtin "object.__new__")),(some (.bool true))]⟩:Obj)) ::
 (nat_lit 696,cE 1064 358 2 691 (.ref 692) .none (.ref 693) (.ref 694) 695 1069 "_law_cell_at") ::
 (nat_lit 697,fE 1062 696 qaa "law_onceroad_k73_free_sets_and_good_moves" "_law_cell_at") ::
 (nat_lit 703,cE 1072 362 1 698 (.ref 699) .none (.ref 700) (.ref 701) 702 1079 "_law_box") ::
 (nat_lit 704,fE 1062 703 qcX "law_onceroad_k73_free_sets_and_good_moves" "_law_box") ::
 (nat_lit 710,cE 1082 371 2 705 (.ref 706) .none (.ref 707) (.ref 708) 709 1088 "_law_take") ::
 (nat_lit 711,fE 1062 710 qbJ "law_onceroad_k73_free_sets_and_good_moves" "_law_take") ::
 (nat_lit 717,cE 1091 375 2 712 (.ref 713) .none (.ref 714) (.ref 715) 716 1104 "_law_names") ::
 (nat_lit 718,fE 1062 717 jg "law_onceroad_k73_free_sets_and_good_moves" "_law_names") ::
 (nat_lit 722,cE 1107 393 2 719 (.ref 720) .none .none .none 721 1110 "_law_drawn") ::
 (nat_lit 723,fE 1062 722 qat "law_onceroad_k73_free_sets_and_good_moves" "_law_drawn") ::
 (nat_lit 727,cE 1113 408 2 724 (.ref 725) .none .none .none 726 1116 "_law_web") ::
 (nat_lit 728,fE 1062 727 qbs "law_onceroad_k73_free_sets_and_good_moves" "_law_web") ::
 (nat_lit 732,cE 1119 414 2 729 (.ref 730) .none .none .none 731 1122 "_law_beside") ::
 (nat_lit 733,fE 1062 732 zL "law_onceroad_k73_free_sets_and_good_moves" "_law_beside") ::
 (nat_lit 739,cE 1125 416 2 734 (.ref 735) .none (.ref 736) (.ref 737) 738 1134 "_law_sides") ::
 (nat_lit 740,fE 1062 739 qbc "law_onceroad_k73_free_sets_and_good_moves" "_law_sides") ::
 (nat_lit 744,cE 1137 426 2 741 (.ref 742) .none .none .none 743 1140 "_law_near") ::
 (nat_lit 745,fE 1062 744 qbd "law_onceroad_k73_free_sets_and_good_moves" "_law_near") ::
 (nat_lit 749,cE 1143 429 2 746 (.ref 747) .none .none .none 748 1146 "_law_far") ::
 (nat_lit 750,fE 1062 749 qcm "law_onceroad_k73_free_sets_and_good_moves" "_law_far") ::
 (nat_lit 754,cE 1149 432 3 751 (.ref 752) .none .none .none 753 1152 "_law_often") ::
 (nat_lit 755,fE 1062 754 qau "law_onceroad_k73_free_sets_and_good_moves" "_law_often") ::
 (nat_lit 761,cE 1155 434 1 756 (.ref 757) .none (.ref 758) (.ref 759) 760 1161 "_law_bits") ::
 (nat_lit 762,fE 1062 761 qbL "law_onceroad_k73_free_sets_and_good_moves" "_law_bits") ::
 (nat_lit 766,cE 1164 439 1 763 (.ref 764) .none .none .none 765 1167 "_law_swept") ::
 (nat_lit 767,fE 1062 766 zm "law_onceroad_k73_free_sets_and_good_moves" "_law_swept") ::
 (nat_lit 771,cE 1170 449 2 768 (.ref 769) .none .none .none 770 1173 "_law_columns") ::
 (nat_lit 772,fE 1062 771 zn "law_onceroad_k73_free_sets_and_good_moves" "_law_columns") ::
 (nat_lit 776,cE 1176 451 2 773 (.ref 774) .none .none .none 775 1179 "_law_lost") ::
 (nat_lit 777,fE 1062 776 qbf "law_onceroad_k73_free_sets_and_good_moves" "_law_lost") ::
 (nat_lit 781,cE 1182 455 3 778 (.ref 779) .none .none .none 780 1185 "_law_even") ::
 (nat_lit 782,fE 1062 781 qaF "law_onceroad_k73_free_sets_and_good_moves" "_law_even") ::
 (nat_lit 786,cE 1188 460 5 783 (.ref 784) .none .none .none 785 1191 "_law_free_right") ::
 (nat_lit 787,fE 1062 786 qW "law_onceroad_k73_free_sets_and_good_moves" "_law_free_right") ::
 (nat_lit 791,cE 1194 491 4 788 (.ref 789) .none .none .none 790 1197 "_law_good_right") ::
 (nat_lit 792,fE 1062 791 jt "law_onceroad_k73_free_sets_and_good_moves" "_law_good_right") ::
 (nat_lit 796,cE 1200 504 4 793 (.ref 794) .none .none .none 795 1203 "_law_keen_by_turns") ::
 (nat_lit 797,fE 1062 796 qK "law_onceroad_k73_free_sets_and_good_moves" "_law_keen_by_turns") ::
 (nat_lit 803,cE 1206 525 1 798 (.ref 799) .none (.ref 800) (.ref 801) 802 1214 "law") ::
 (nat_lit 804,fE 1062 803 qef "law_onceroad_k73_free_sets_and_good_moves" "law") ::
 []
noncomputable def ks:LI:=[2,3,197,198,204,205,211,212,218,219,230,231,237,238,242,243,256,257,263,264,270,271,284,285,298,299,305,306,312,313,319,320,326,327,338,339,364,365,367,368,378,379,385,386,392,393,399,400,406,407,413,414,418,419,423,424,428,429,435,436,442,443,449,450,454,455,459,460,464,465,471,472,476,477,481,482,486,487,493,494,498,499,503,504,520,521,531,532,545,546,559,560,601,602,611,612,627,628,632,633,637,638,644,645,651,652,658,659,668,669,684,685,687,688,696,697,703,704,710,711,717,718,722,723,727,728,732,733,739,740,744,745,749,750,754,755,761,762,766,767,771,772,776,777,781,782,786,787,791,792,796,797,803,804]
theorem ks_eq:∀ P,ks=(Kf P).map (·.1):=λP=>by kernel_rfl
abbrev Hk:Hook:=kHook Kf ks ks_eq
abbrev Xt(s:Shared):Bool:=xlAt Q [] s&&recOk [] s
abbrev sn(s:Shared):=openSeen Q [] (importedModules PySem.Challenge.pw_onceroad_k73_free_sets_and_good_moves.main.body) Xt true s
noncomputable def runA(w:World)(a:OsState):=(Hd.lookS PySem.Challenge.pw_onceroad_k73_free_sets_and_good_moves NN w a).map λs=>(sn s).1
noncomputable def runD(w:World)(a:OsState):=(Hd.lookS PySem.Challenge.pw_onceroad_k73_free_sets_and_good_moves NN w a).map λs=>((sn s).2.1,(sn s).2.2.1,(sn s).2.2.2.1)
noncomputable def runB(w:World)(a:OsState):=(Hd.lookS PySem.Challenge.pw_onceroad_k73_free_sets_and_good_moves NN w a).map λs=>(sn s).2.2.2.2
noncomputable def runC(w:World)(a:OsState):=(Hd.lookS PySem.Challenge.pw_onceroad_k73_free_sets_and_good_moves NN w a).map λs=>ks.map s.heap.get?
noncomputable def gdA(_:World)(_:OsState):=some (openGood Q []).1
noncomputable def gdD(_:World)(_:OsState):=some ((openGood Q []).2.1,(openGood Q []).2.2.1,(openGood Q []).2.2.2.1)
noncomputable def gdB(_:World)(_:OsState):=some (openGood Q []).2.2.2.2
noncomputable def gdC(w:World)(_:OsState):=some ((Kf w.params).map λp=>some p.2)
noncomputable def tag{a:Type}(f g:World->OsState->a):Bool:=true
theorem tag1:(tag runA gdA&&(tag runB gdB&&(tag runD gdD&&tag runC runC)))=true:=by k_qdec
theorem hA1(w:World)(a:OsState):runA w a=gdA w a:=by
 rw[PySem.W.Fast.te7964581777919439513,PySem.W.Fast.te1921403430817529943]
 kernel_rfl
theorem hB1(w:World)(a:OsState):runB w a=gdB w a:=by
 rw[PySem.W.Fast.te459659638530665362,PySem.W.Fast.te7958102469059604720]
 kernel_rfl
theorem hC1(w:World)(a:OsState):runC w a=gdC w a:=by
 rw[PySem.W.Fast.te238198274641808851]
 kernel_rfl
theorem hD1(w:World)(a:OsState):runD w a=gdD w a:=by
 rw[PySem.W.Fast.te11565597940776553826,PySem.W.Fast.te8335948698056519154]
 kernel_rfl
theorem hl:LeftO PySem.Challenge.pw_onceroad_k73_free_sets_and_good_moves Q [] Xt (Hook.obs Hk) (Hook.val Hk) NN:=Hd.left_of (by kernel_rfl) (by decide) (λs=>by kernel_rfl) λw a=>(Hd.lookT_map ..).trans (Hd.packs (hA1 w a) (hD1 w a) (hB1 w a) (hC1 w a))
end K73
namespace L2
open PySem PySem.Spec PyProof.Rows
variable{A:Around}{C a b dx it:Addr}{CX:CXT}{D:Ends}{E:Value->Shared->Prop}{H:Hp}{M:Model}{N ps:LS}{P:Program}{R:Result->Shared->Prop}{X:Cx}{base h:Heap}{body:List Stmt}{c e tg:Expr}{ch fp:LI}{d':Drawn}{es:List Expr}{f:Value->Value->Sem Value}{g:TG}{g':Array GenState}{i j n t':Nat}{kindOf:Str->Option NameKind}{kw:List (Str×Value)}{lo:Int}{mA mg:Str->Option Value}{o:HO}{op op':CmpOp}{outer:List Env}{p pos:Pos}{pins:List (Addr×Obj)}{pl:Sem Bool}{qual x:Str}{r r':R2}{s s':Shared}{sc scope:Scope}{t te:TE}{ta:TA}{tb:TS}{tc:TT}{u:Value}{us:List Value}{v y:V}{vs xs:List V}{w:World}{α:Type}{σ:St}
abbrev Key:=Sum Int Str
def qdR:Key->Value->Bool
 | .inl k,v=>Value.isInt k v
 | .inr x,v=>Value.isStrOf x v
def keyH(w:World):Key->Int
 | .inl k=>hashInt k
 | .inr x=>hashStr w x
theorem qX:∀{k:Key} {v:Value},qdR k v=true->(∃ i t,k=Sum.inl i/\v=Value.int i t)\/(∃ x t,k=Sum.inr x/\v=Value.str x t)
 | .inl i,v,h=>by
  obtain⟨t,e⟩:=Value.isInt_shape (k:=i) (v:=v) h;show .inl ⟨i,t,rfl,e⟩
 | .inr x,v,h=>by
  obtain⟨t,e⟩:=Value.isStrOf_shape (x:=x) (v:=v) h;show .inr ⟨x,t,rfl,e⟩
theorem keyIs_int(i:Int)(t:Tok):qdR (.inl i) (.int i t)=true:=by simp[qdR,Value.isInt]
theorem keyIs_str(x:Str)(t:Tok):qdR (.inr x) (.str x t)=true:=by simp[qdR,Value.isStrOf]
theorem key_ll(a b:Int):decide ((Sum.inl a:Key)=Sum.inl b)=(a==b):=by
 by_cases e:a=b
 .subst e;simp
 .have h:¬ (Sum.inl a:Key)=Sum.inl b:=λq=>e (Sum.inl.inj q);rw[yk h];show(YA.mpr e).symm
theorem key_rr(a b:Str):decide ((Sum.inr a:Key)=Sum.inr b)=decide (a=b):=by
 by_cases e:a=b
 .subst e;simp
 .have h:¬ (Sum.inr a:Key)=Sum.inr b:=λq=>e (kx q);rw[yk h,yk e]
theorem key_lr(a:Int)(b:Str):decide ((Sum.inl a:Key)=Sum.inr b)=false:=yk (λq=>nomatch q)
theorem key_rl(a:Str)(b:Int):decide ((Sum.inr a:Key)=Sum.inl b)=false:=yk (λq=>nomatch q)
def q8(prog:Program)(w:World):PySem.KeyKind prog w Key where
 is:=qdR
 hash:=keyH w
 inj:=λv a b c hb=>by
  rcases qX c with⟨i,t,rfl,rfl⟩ | ⟨x,t,rfl,rfl⟩
  .rcases qX hb with⟨j,u,rfl,e⟩ | ⟨y,u,rfl,e⟩
   .injection e with e1 _;rw[e1]
   .show nomatch e
  .rcases qX hb with⟨j,u,rfl,e⟩ | ⟨y,u,rfl,e⟩
   .show nomatch e
   .injection e with e1 _;rw[e1]
 byValue:=λk v h=>by
  rcases qX h with⟨i,t,rfl,rfl⟩ | ⟨x,t,rfl,rfl⟩<;>rfl
 pyHash:=λhv h=>by
  rcases qX hv with⟨i,t,rfl,rfl⟩ | ⟨x,t,rfl,rfl⟩
  .show wpAny_pyHash_int h
  .show wpAny_pyHash_str h
 eqBool:=λd hv h=>by
  rcases qX d with⟨i,t,rfl,rfl⟩ | ⟨x,t,rfl,rfl⟩
  .rcases qX hv with⟨j,u,rfl,rfl⟩ | ⟨y,u,rfl,rfl⟩
   .rw [key_ll] at h;show wpAny_eqBool_int h
   .rw [key_lr] at h;show SeqAt.EqAt.int_str i t y u _ _ _ _ h
  .rcases qX hv with⟨j,u,rfl,rfl⟩ | ⟨y,u,rfl,rfl⟩
   .rw [key_rl] at h;show SeqAt.EqAt.str_int x t j u _ _ _ _ h
   .rw [key_rr] at h;show wpAny_eqBool_str h
 «strs»:=λk x t v h=>by
  rcases qX h with⟨i,u,rfl,e⟩ | ⟨y,u,rfl,e⟩
  .show nomatch e
  .injection e with e1 _
   subst e1;cases v<;>rfl
theorem mixKind_int(prog:Program)(w:World)(i:Int)(t:Tok):(q8 prog w).is (.inl i) (.int i t)=true:=keyIs_int i t
theorem mixKind_str(prog:Program)(w:World)(x:Str)(t:Tok):(q8 prog w).is (.inr x) (.str x t)=true:=keyIs_str x t
inductive V where
 | non | bl (b:Bool) | int (i:Int) | str (x:Str) | byt (b:Array UInt8) | flt (b:UInt64) | ref (a:Addr) | ty (n:String)
 deriving DecidableEq
def RelV:V->Value->Prop
 | .non,u=>u=Value.none
 | .bl b,u=>u=Value.bool b
 | .int i,u=>∃ t,u=Value.int i t
 | .str x,u=>∃ t,u=Value.str x t
 | .byt b,u=>∃ t,u=Value.bytes b t
 | .flt b,u=>∃ t,u=Value.float b t
 | .ref a,u=>u=Value.ref a
 | .ty n,u=>u=Value.type n
abbrev Vals:List V->List Value->Prop:=Paired RelV
theorem Vals.length(r:Vals xs us):xs.length=us.length:=Paired.length r
theorem Vals.get:∀{xs:List V} {us:List Value} {i:Nat} {x:V},Vals xs us->xs[i]?=some x->∃ u,us[i]?=some u/\RelV x u
 | _,_,_,_,.nil,e=>by simp at e
 | _,_,0,_,.cons r _,e=>by simp at e;subst e;show⟨_,rfl,r⟩
 | _,_,i+1,x,.cons _ t,e=>by
  obtain⟨u,h1,a⟩:=Vals.get (i:=i) (x:=x) t (by simpa using e);show⟨u,by simpa using h1,a⟩
theorem Vals.set{x:V}(r:RelV x u):∀{xs:List V} {us:List Value} (i:Nat),Vals xs us->Vals (xs.set i x) (us.set i u)
 | _,_,_,.nil=>.nil
 | _,_,0,.cons _ t=>.cons r t
 | _,_,i+1,.cons q t=>.cons q (Vals.set r i t)
theorem Vals.append:∀{xs ys:List V} {us a:List Value},Vals xs us->Vals ys a->Vals (xs++ys) (us++a)
 | _,_,_,_,.nil,s=>s
 | _,_,_,_,.cons r t,s=>.cons r (Vals.append t s)
theorem Vals.take:∀{xs:List V} {us:List Value} (n:Nat),Vals xs us->Vals (xs.take n) (us.take n)
 | _,_,0,_=>.nil
 | _,_,_+1,.nil=>.nil
 | _,_,n+1,.cons r t=>.cons r (Vals.take n t)
theorem Vals.drop:∀{xs:List V} {us:List Value} (n:Nat),Vals xs us->Vals (xs.drop n) (us.drop n)
 | _,_,0,r=>r
 | _,_,_+1,.nil=>.nil
 | _,_,n+1,.cons _ t=>Vals.drop n t
def RelO:Option V->Option Value->Prop
 | some v,some u=>RelV v u
 | none,none=>True
 | _,_=>False
def KV{a:Type}:List (a×V)->List (a×Value)->Prop:=Paired λ(p:a×V) (q:a×Value)=>p.1=q.1/\RelV p.2 q.2
def kV:Key->V
 | .inl i=>.int i
 | .inr x=>.str x
inductive HO where
 /-- a list -/
 | lst (xs:List V)
 /-- a tuple (never changes) -/
 | tup (xs:List V)
 /-- a dict whose keys are ints and texts;one whose keys are tuples of ints and texts (the empty one is both) -/
 | dK (kvs:List (Key×V)) | dT (kvs:List (List Key×V))
 /-- a set of ints: its members,its size -/
 | set (S:Int->Bool) (n:Nat)
 /-- an instance of the class at C,its dict at dx,its attributes -/
 | ins (C dx:Addr) (fs:List (Str×V))
 /-- the dict of the instance at x -/
 | own (x:Addr)
 /-- the dict of an exception -/
 | xd (fs:List (Str×V))
 /-- a bound method,f of x -/
 | met (f x:Addr)
 /-- a range object lo,lo+1,.. below hi -/
 | rng (lo hi:Int)
 /-- a thing that is known to the object (the script;a dict while a loop walks it): read,never written while it is so -/
 | frz (o:Obj) (u:HO)
 /-- a code object's table -/
 | tbl (ps:Array Value)
 /-- any other thing,by what is true of its one object (a def of one's own: SetO a S n:=HO.ext λh=>..) -/
 | ext (φ:Heap->Prop)
abbrev Hp:=Addr->Option HO
def upd(H:Hp)(a:Addr)(o:HO):Hp:=λb=>if b=a then some o else H b
theorem qb:upd H a o a=some o:=by unfold upd;rw[yG rfl]
theorem qj(h:b≠a):upd H a o b=H b:=by unfold upd;rw[yC h]
theorem qbk{u:HO}(h:H a=some o)(h':H b=some u)(d:o≠u):a≠b:=by
 intro e;subst e;rw[h] at h';show d (yl h')
theorem qI(h:H a=some o)(h':H b=none):a≠b:=by
 intro e;subst e;rw[h] at h';cases h'
section
variable(P:Program)(w:World)
def ObjOk(H:Hp)(h:Heap)(a:Addr):HO->Prop
 | .lst xs=>xs.length<=sizeLine/\∃(b:List Value) (n:Nat),Vals xs b/\h.get? a=some { cls:=.type "list",data:=.seq b.toArray n }
 | .tup xs=>xs.length<=sizeLine/\∃ b:List Value,Vals xs b/\IsTup h a b.toArray
 | .dK kvs=>kvs.length<=sizeLine/\(a==sysModules)=false/\∃ vs,KV kvs vs/\h.DictOf (q8 P w) a vs
 | .dT kvs=>kvs.length<=sizeLine/\(a==sysModules)=false/\∃ xs:List (List Key×Addr×Value),
   Paired (λ(p:List Key×V) (q:List Key×Addr×Value)=>p.1=q.1/\H q.2.1=some (.tup (p.1.map kV))/\RelV p.2 q.2.2) kvs xs /\
   ∃ o es ep,h.get? a=some o/\o.ExactDict/\o.data=.dict es ep/\es.toList=xs.map (entryOfKey (tupleKind (q8 P w)))/\(xs.map (·.1)).Nodup
 | .set S n=>h.SetOf (intKind P w) a S n
 | .ins C dx fs=>H dx=some (.own a)/\fs.length<=1000/\dx≠a/\h.get? a=some (PySem.W.instObj C dx) /\
   ∃ mA,h.Ns1 dx mA/\(∀ f,RelO (fs.lookup f) (mA f))/\PySem.Within mA (fs.map (·.1))
 | .own _=>∃ o,h.get? a=some o
 | .xd fs=>∃ mA,h.Ns1 a mA/\∀ f,RelO (fs.lookup f) (mA f)
 | .rng lo hi=>∃ t u v,h.get? a=some { cls:=.type "range",data:=.fields #[.int lo t,.int hi u,.int 1 v] }
 | .frz o u=>h.get? a=some o/\ObjOk H h a u
 | .tbl ps=>h.get? a=some { cls:=.none,data:=.fields ps }
 | .met f x=>h.get? a=some (PySem.W.methodObj (.ref f) (.ref x))
 | .ext φ=>φ h/\(∃ o,h.get? a=some o)/\∀ h1 c:Heap,φ h1->(∀ o,h1.get? a=some o->c.get? a=some o)->φ c
def HOk(H:Hp)(h:Heap):Prop:=∀ a o,H a=some o->ObjOk P w H h a o
end
section
variable{P:Program}{w:World}{H H':Hp}{h h':Heap}{a:Addr}{o:HO}
theorem ObjOk.lt(x:ObjOk P w H h a o):a<h.objs.size:=by
 cases o with
 | lst xs=>obtain⟨_,_,_,_,e⟩:=x;show yR e
 | tup xs=>obtain⟨_,_,_,p⟩:=x;show p.lt
 | dK kvs=>obtain⟨_,_,_,_,o,_,_,e,_⟩:=x;show yR e
 | dT kvs=>obtain⟨_,_,_,_,o,_,_,e,_⟩:=x;show yR e
 | set S n=>obtain⟨o,_,_,_,e,_⟩:=x;show yR e
 | ins C dx fs=>obtain⟨_,_,_,e,_⟩:=x;show yR e
 | own y=>obtain⟨_,e⟩:=x;show yR e
 | xd fs=>obtain⟨_,⟨_,_,_,e,_⟩,_⟩:=x;show yR e
 | rng lo hi=>obtain⟨_,_,_,e⟩:=x;show yR e
 | frz ob u=>obtain⟨e,_⟩:=x;show yR e
 | tbl ps=>show yR (show h.get? a=some _ from x)
 | met f y=>show yR (show h.get? a=some _ from x)
 | ext φ=>obtain⟨_,⟨_,e⟩,_⟩:=x;show yR e
theorem Paired.mapP{d:Type}{F G:α->d->Prop}:∀{c:List α} {l₂:List d},Paired F c l₂->(∀ a b,F a b->G a b)->Paired G c l₂
 | _,_,.nil,_=>.nil
 | _,_,.cons r t,f=>.cons (f _ _ r) (Paired.mapP t f)
theorem ObjOk.stay(x:ObjOk P w H h a o)(k:∀ b u,(b=a\/H b=some (.own a))->h.get? b=some u->h'.get? b=some u)
  (l:∀ b,H b=some (.own a)->H' b=some (.own a)) (m:∀ b xs,H b=some (.tup xs)->H' b=some (.tup xs)):ObjOk P w H' h' a o:=by
 induction o with
 | lst xs=>obtain⟨z,i,n,r,e⟩:=x;show⟨z,i,n,r,k _ _ (.inl rfl) e⟩
 | tup xs=>obtain⟨z,i,r,g,e,c⟩:=x;show⟨z,i,r,g,k _ _ (.inl rfl) e,c⟩
 | dK kvs=>obtain⟨z,y,vs,r,g,es,ep,e,c⟩:=x;show⟨z,y,vs,r,g,es,ep,k _ _ (.inl rfl) e,c⟩
 | dT kvs =>
  obtain⟨z,y,xs,r,g,es,ep,e,c⟩:=x;show⟨z,y,xs,Paired.mapP r λp q z=>⟨z.1,m _ _ z.2.1,z.2.2⟩,g,es,ep,k _ _ (.inl rfl) e,c⟩
 | set S n=>obtain⟨g,es,ep,t,e,c⟩:=x;show⟨g,es,ep,t,k _ _ (.inl rfl) e,c⟩
 | ins C dx fs =>
  obtain⟨d,z,ne,e,mA,⟨od,es,ep,j,c⟩,r⟩:=x;show⟨l _ d,z,ne,k _ _ (.inl rfl) e,mA,⟨od,es,ep,k _ _ (.inr d) j,c⟩,r⟩
 | own y=>obtain⟨g,e⟩:=x;show⟨g,k _ _ (.inl rfl) e⟩
 | xd fs=>obtain⟨mA,⟨od,es,ep,e,c⟩,r⟩:=x;show⟨mA,⟨od,es,ep,k _ _ (.inl rfl) e,c⟩,r⟩
 | rng lo hi=>obtain⟨t,u,v,e⟩:=x;show⟨t,u,v,k _ _ (.inl rfl) e⟩
 | frz g u ih=>obtain⟨e,q⟩:=x;show⟨k _ _ (.inl rfl) e,ih q⟩
 | tbl ps =>
  have e:h.get? a=some { cls:=.none,data:=.fields ps }:=x;show h'.get? a=some { cls:=.none,data:=.fields ps };show k a _ (.inl rfl) e
 | met f y =>
  have e:h.get? a=some (PySem.W.methodObj (.ref f) (.ref y)):=x;show h'.get? a=some (PySem.W.methodObj (.ref f) (.ref y));show k a _ (.inl rfl) e
 | ext φ=>obtain⟨p,⟨o,e⟩,st⟩:=x;show⟨st _ _ p λo q=>k _ _ (.inl rfl) q,⟨o,k _ _ (.inl rfl) e⟩,st⟩
theorem HOk.lt(x:HOk P w H h)(e:H a=some o):a<h.objs.size:=(x a o e).lt
theorem HOk.fresh(x:HOk P w H h)(e:h.objs.size<=a):H a=none:=by
 cases q:H a with
 | none=>rfl
 | some u=>show absurd (yi (x.lt q) e) (Yr _)
theorem HOk.kept(x:HOk P w H h)(k:∀ b u,h.get? b=some u->h'.get? b=some u):HOk P w H h':=λa o e =>
 (x a o e).stay (λb u _ q=>k b u q) (λ_ q=>q) λ_ _ q=>q
theorem HOk.laid(x:HOk P w H h)(k:∀ b u,h.get? b=some u->h'.get? b=some u)(f:h.objs.size<=a)(new:ObjOk P w (upd H a o) h' a o):HOk P w (upd H a o) h':=λb u e=>by
 have d:=x.fresh f;by_cases hb:b=a
 .subst hb;rw[qb] at e;cases e;show new
 .rw [qj hb] at e;show(x b u e).stay (λc v _ q=>k c v q) (λc q=>by rw[qj (qI q d)];show q) λc xs q=>by rw[qj (qI q d)];show q
end
def Rd(H:Hp)(a:Addr)(u:HO):Prop:=H a=some u\/∃ o,H a=some (.frz o u)
theorem Rd.ok{u:HO}(r:Rd H a u)(x:HOk P w H h):ObjOk P w H h a u:=by
 rcases r with r | ⟨o,r⟩
 .show x a u r
 .obtain⟨_,q⟩:=x a _ r;show q
def Mut:Option HO->Prop
 | some (.lst _)=>True
 | some (.dK _)=>True
 | some (.dT _)=>True
 | some (.set _ _)=>True
 | some (.ins _ _ _)=>True
 | some (.ext _)=>True
 | _=>False
section
variable{P:Program}{w:World}{H:Hp}{h h':Heap}{x e:Addr}{o':HO}
theorem HOk.write(ok:HOk P w H h)(g:Mut (H x))(j:e=x\/H e=some (.own x))(k:∀ b u,b≠e->h.get? b=some u->h'.get? b=some u)(i:∃ u,h'.get? e=some u)
  (new:ObjOk P w (upd H x o') h' x o'):HOk P w (upd H x o') h':=λb u q=>by
 have d:∀ c y,H c=some (.own y)->c≠x:=λc y r z=>by subst z;rw[r] at g;show g
 have f:∀ c xs,H c=some (.tup xs)->c≠x:=λc xs r z=>by subst z;rw[r] at g;show g
 by_cases hb:b=x
 .subst hb;rw[qb] at q;cases q;show new
 .rw [qj hb] at q;by_cases a:b=e
  .have l:H b=some (.own x):=by
    rcases j with z | z
    .show absurd (a.trans z) hb
    .rw [a];show z
   rw[q] at l;cases l;obtain⟨v,hv⟩:=i;show⟨v,by rw[a];show hv⟩
  .show(ok b u q).stay (λc v hc r=>k c v ?_ r) (λc r=>by rw[qj (d c b r)];show r) λc xs r=>by rw[qj (f c xs r)];show r
   rcases hc with rfl | hc
   .show a
   .rintro rfl;rcases j with z | z
    .show d c b hc z
    .rw [hc] at z;cases z;show hb rfl
end
structure Un(fs ex:LI)(H H':Hp)(h h':Heap):Prop where
 keep:∀ b o,h.get? b=some o->H b=none->b∉fs->b∉ex->h'.get? b=some o
 slot:∀ b o,h.get? b=some o->H b=none->b∈fs->b∉ex->∃ sl,h'.get? b=some { o with slots:=sl }
 free:∀ b o,h.get? b=some o->H b=none->b∉ex->H' b=none
 there:∀ b o,h.get? b=some o->b∉ex->∃ o',h'.get? b=some o'
 tups:∀ b xs,H b=some (.tup xs)->H' b=some (.tup xs)
 frzs:∀ b o u,H b=some (.frz o u)->H' b=some (.frz o u)
 tbls:∀ b ps,H b=some (.tbl ps)->∃ more,H' b=some (.tbl (ps++more))
section
variable{fs fs' ex ex':LI}{H H1 H2:Hp}{h h1 h2 h':Heap}{a x e:Addr}{o:HO}
theorem Un.any(u:Un fs ex H H1 h h1){a:Obj}(q:h.get? b=some a)(n:H b=none)(c:b∉ex):∃ d,h1.get? b=some { a with slots:=d }:=by
 by_cases hb:b∈fs
 .show u.slot b a q n hb c
 .show⟨a.slots,u.keep b a q n hb c⟩
theorem Un.kept(k:∀ b u,h.get? b=some u->h'.get? b=some u):Un fs ex H H h h':=
 ⟨λb a q _ _ _=>k b a q,λb a q _ _ _=>⟨a.slots,k b a q⟩,λ_ _ _ n _=>n,λb a q _=>⟨a,k b a q⟩,λ_ _ q=>q,λ_ _ _ q=>q,λ_ ps q=>⟨#[],by rw[q];simp⟩⟩
theorem Un.refl:Un fs ex H H h h:=Un.kept λ_ _ q=>q
theorem Un.laid(k:∀ b u,h.get? b=some u->h'.get? b=some u)(d:h.objs.size<=a)(c:H a=none):Un fs ex H (upd H a o) h h' where
 keep:=λb u q _ _ _=>k b u q
 slot:=λb u q _ _ _=>⟨u.slots,k b u q⟩
 free:=λb u q n _=>by rw[qj (Yj (yi (yR q) d))];show n
 there:=λb u q _=>⟨u,k b u q⟩
 tups:=λb xs q=>by rw[qj (qI q c)];show q
 frzs:=λb u xs q=>by rw[qj (qI q c)];show q
 tbls:=λb ps q=>⟨#[],by rw[qj (qI q c),q];simp⟩
theorem Un.write(c:Mut (H x))(i:e=x\/H e=some (.own x))(k:∀ b u,b≠e->h.get? b=some u->h'.get? b=some u)(d:∃ u,h'.get? e=some u):Un fs ex H (upd H x o) h h':=by
 have g:∀ b,H b=none->b≠x:=λb n z=>by subst z;rw[n] at c;show c
 have hb:∀ b,H b=none->b≠e:=λb n z=>by
  subst z;rcases i with r | r
  .show g b n r
  .rw [n] at r;cases r
 have f:∀ b u,H b=some u->¬ Mut (some u)->b≠x:=λb u q nm z=>by subst z;rw[q] at c;show nm c
 show⟨λb u q n _ _=>k b u (hb b n) q,λb u q n _ _=>⟨u.slots,k b u (hb b n) q⟩,λb u q n _=>by rw[qj (g b n)];show n,λb u q _=>?_,
  λb xs q=>by rw[qj (f b _ q λz=>z)];show q,λb u xs q=>by rw[qj (f b _ q λz=>z)];show q,λb ps q=>⟨#[],by rw[qj (f b _ q λz=>z),q];simp⟩⟩
 by_cases a:b=e
 .subst a;show d
 .show⟨u,k b u a q⟩
end
def trk(h:Heap)(H:Hp):LI:=(List.range h.objs.size).filter λa=>(H a).isSome
def qfZ(h:Heap)(H:Hp):Heap:=PySem.W.hideAll h (trk h H)
theorem hidT_size(h:Heap)(H:Hp):(qfZ h H).objs.size=h.objs.size:=PySem.W.hideAll_size _ _
theorem hidT_get{o:Obj}(e:h.get? b=some o)(n:H b=none):(qfZ h H).get? b=some o:=
 PySem.W.hideAll_get _ e λa=>by
  have q:(H b).isSome=true:=(yo.mp a).2;rw[n] at q;simp at q
theorem of_hidT{o:Obj}(e:(qfZ h H).get? b=some o):h.get? b=some o/\H b=none:=by
 have a:h.get? b=some o:=PySem.W.of_hideAll (trk h H) e;show⟨a,?_⟩
 cases q:H b with
 | none=>rfl
 | some x =>
  have c:b∈trk h H:=yo.mpr ⟨y7.mpr (yR a),by simp[q]⟩;have z:(qfZ h H).get? b=none:=PySem.W.hideAll_none (trk h H) c;rw[z] at e;cases e
def allNews(g h:Heap)(L:Addr):List (Addr×Obj):=(List.range h.objs.size).filterMap λa=>if a=L\/(g.get? a).isSome=true then none else(h.get? a).map λo=>(a,o)
def qdM(g h:Heap)(L d:Addr):List (Addr×Obj):=(allNews g h L).filter λp=>decide (p.1≠d)
structure Mod(K:yf)(mg:Str->Option Value)(base:Heap):Prop where
 kin:K.In base
 glob:base.Ns mainGlobals mg
 blt:∃ mb,base.Ns builtinsNs mb/\∀ x:Str,x≠"__name__"->mb x=bootBuiltins x
 nolimit:base.NoLimit
structure Cx where
 prog:Program
 w:World
 K:yf
 mg:Str->Option Value
 base:Heap
 A:Around
 N:LS
 s₀:Shared
 H₀:Hp
 env:Env
 outer:List Env
 stack:List Env
 ex:LI
 fn:Str->Bool
 calm:Bool
 pn:List (Addr×Obj)
 xe:Value->Shared->Prop
def frs(l:List Env):LI:=l.filterMap (·.frame)
abbrev Cx.fs(X:Cx):LI:=frs X.outer
def Vis(sc:Scope)(x:Str):Prop:=sc.names.lookup x=some .local\/sc.names.lookup x=some .cell\/sc.names.lookup x=some .free
def Loc(sc:Scope)(x:Str):Prop:=sc.names.lookup x=some .local\/sc.names.lookup x=some .cell
def Look(env:Env)(h:Heap)(m:Str->Option Value)(x:Str)(u:Value):Prop:=
 (env.kindOf x=some .local/\m x=some u)\/((env.kindOf x=some .cell\/env.kindOf x=some .free)/\∃ c,env.cells.lookup x=some c/\h.IsCell c (some u))
structure Cx.Ok(X:Cx):Prop where
 mod:Mod X.K X.mg X.base
 kind:X.env.scope.kind=.function
 glob:X.env.globals=mainGlobals
 blt:X.env.builtins=builtinsNs
 above:X.s₀.heap.objs.size<=X.env.locals
 inj:∀ x y c,X.env.cells.lookup x=some c->X.env.cells.lookup y=some c->x=y
 has:∀ x,(X.env.kindOf x=some .cell\/X.env.kindOf x=some .free)->∃ c,X.env.cells.lookup x=some c
 cab:∀ x c,X.fn x=true->X.env.cells.lookup x=some c->X.s₀.heap.objs.size<=c
 hd:X.calm=true->X.A.handled=none
 frames:X.A.frames=some X.stack
 stk:X.stack=X.outer\/(X.stack=X.env::X.outer/\X.env.frame=some X.env.locals)
 exf:∀ b∈X.ex,b≠X.env.locals/\∀ x c,X.env.cells.lookup x=some c->c≠b
 bs:∀ b o,X.base.get? b=some o->X.s₀.heap.get? b=some o/\X.H₀ b=none
 bsz:X.base.objs.size<=X.s₀.heap.objs.size
 noex:∀ b o,X.base.get? b=some o->b∉X.ex
 exfs:∀ b∈X.ex,b∉X.fs
 funs:X.s₀.heap.FunFrames X.base X.outer
 frf:∀ b∈X.fs,X.H₀ b=none
structure Inv(X:Cx)(pins:List (Addr×Obj))(σ:List (Option V))(H:Hp)(s:Shared):Prop where
 ok:X.Ok
 os:s.os=X.s₀.os
 bare:AllBare s.gens
 base:Un X.fs X.ex X.H₀ H X.s₀.heap s.heap
 loc:∃ m,s.heap.Ns X.env.locals m/\∀(i:Nat) (x:Str) (v:V),X.N[i]?=some x->σ[i]?=some (some v)->Vis X.env.scope x->∃ u,RelV v u/\Look X.env s.heap m x u
 cell:∀ x c,X.env.cells.lookup x=some c->∃ v,s.heap.IsCell c v
 free:H X.env.locals=none
 freeC:∀ x c,X.env.cells.lookup x=some c->H c=none
 pin:∀ p∈X.pn++pins,s.heap.get? p.1=some p.2/\H p.1=none/\p.1≠X.env.locals/\p.1∉X.fs/\∀ v,p.2.data≠.cell v
 hok:HOk X.prog X.w H s.heap
 len:σ.length=X.N.length
section
variable{X:Cx}{pins:List (Addr×Obj)}{σ:List (Option V)}{H H':Hp}{s:Shared}{h':Heap}
theorem Cx.Ok.nofr(ok:X.Ok){o:Obj}(e:X.base.get? b=some o):b∉X.fs:=λhb=>by
 have:=(ok.funs.mem hb).1;rw[e] at this;cases this
theorem Inv.bs(I:Inv X pins σ H s):∀ b o,X.base.get? b=some o->s.heap.get? b=some o/\H b=none:=λb o e =>
 ⟨I.base.keep b o (I.ok.bs b o e).1 (I.ok.bs b o e).2 (I.ok.nofr e) (I.ok.noex b o e),I.base.free b o (I.ok.bs b o e).1 (I.ok.bs b o e).2 (I.ok.noex b o e)⟩
theorem Inv.bk(I:Inv X pins σ H s):∀ b o,X.base.get? b=some o->s.heap.get? b=some o:=λb o e=>(I.bs b o e).1
theorem Inv.mod(I:Inv X pins σ H s):Mod X.K X.mg X.base:=I.ok.mod
theorem Inv.kIn(I:Inv X pins σ H s):X.K.In s.heap:=I.ok.mod.kin.keeps I.bk
theorem Inv.lt(I:Inv X pins σ H s):X.env.locals<s.heap.objs.size:=let ⟨_,hn,_⟩:=I.loc;hn.lt
theorem Inv.sz(I:Inv X pins σ H s):X.s₀.heap.objs.size<=s.heap.objs.size:=yh I.ok.above (yI I.lt)
theorem Inv.nofs(I:Inv X pins σ H s)(h:s.heap.objs.size<=a):a∉X.fs:=λhb=>by
 obtain⟨_,o,b,_⟩:=I.ok.funs.mem hb;show absurd (yi (yR b) (yh I.sz h)) (Yr _)
theorem Inv.cne(I:Inv X pins σ H s):∀ x c,X.env.cells.lookup x=some c->c≠X.env.locals:=λx c e z=>by
 obtain⟨v,o,f,d⟩:=I.cell x c e;obtain⟨m,⟨g,es,ep,b,a,_⟩,_⟩:=I.loc;rw[z,b] at f;cases f;rw[a] at d;cases d
theorem Inv.funs(I:Inv X pins σ H s):s.heap.FunFrames X.base X.outer:=by
 have all:∀(l:List Env),(∀ b∈frs l,b∈X.fs)->X.s₀.heap.FunFrames X.base l->s.heap.FunFrames X.base l:=by
  intro l
  induction l with
  | nil=>intro _ _;trivial
  | cons env r ih =>
   intro d hl;obtain⟨g,⟨L,o,c,h,i,f⟩,j⟩:=hl;have a:L∈X.fs:=d L (by unfold frs;rw[Xo,c];show yK);obtain⟨m,e⟩:=I.base.slot L o i (I.ok.frf L a) a λz=>I.ok.exfs L z a;show⟨g,⟨L,_,c,h,e,f⟩,ih (λb hb=>d b (by unfold frs;rw[Xo,c];show yy _ hb)) j⟩
 show all X.outer (λ_ hb=>hb) I.ok.funs
theorem Inv.stack(I:Inv X pins σ H s):s.heap.FunFrames X.base X.stack:=by
 rcases I.ok.stk with e | ⟨e,hf⟩
 .rw [e];show I.funs
 .rw [e];obtain⟨m,a,_⟩:=I.loc;show .cons (by rw[I.ok.kind];decide) hf a ?_ I.funs;show Heap.get?_none_of_le (yh I.ok.bsz I.ok.above)
theorem Inv.stkSub(I:Inv X pins σ H s):∀ b∈frs X.stack,b∈X.env.locals::X.fs:=λb hb=>by
 rcases I.ok.stk with e | ⟨e,hf⟩
 .rw [e] at hb;show yy _ hb
 .rw [e] at hb;unfold frs at hb;rw[Xo,hf] at hb;show hb
theorem Inv.stkFree(I:Inv X pins σ H s):∀ b∈frs X.stack,H b=none:=λb hb=>by
 rcases yN.mp (I.stkSub b hb) with e | hb
 .rw [e];show I.free
 .obtain⟨_,o,a,_⟩:=I.ok.funs.mem hb;show I.base.free b o a (I.ok.frf b hb) λz=>I.ok.exfs b z hb
theorem Inv.step(I:Inv X pins σ H s)
  (f:∀ b∈ch,(b∈X.ex\/X.s₀.heap.objs.size<=b)/\b≠X.env.locals/\(∀ x c,X.env.cells.lookup x=some c->c≠b)/\∀ p∈X.pn++pins,p.1≠b)
  (keep:∀ b o,b≠X.env.locals->b∉X.fs->b∉ch->s.heap.get? b=some o->H b=none->h'.get? b=some o)
  (t:∀ b o,b≠X.env.locals->b∈X.fs->b∉ch->s.heap.get? b=some o->H b=none->∃ L,h'.get? b=some { o with slots:=L }) (free:∀ b o,b∉ch->s.heap.get? b=some o->H b=none->H' b=none)
  (y:∀ b o,b∉ch->s.heap.get? b=some o->∃ E,h'.get? b=some E)
  (G:∀ b xs,H b=some (.tup xs)->H' b=some (.tup xs)) (C:∀ b o u,H b=some (.frz o u)->H' b=some (.frz o u)) (F:∀ b ps,H b=some (.tbl ps)->∃ more,H' b=some (.tbl (ps++more)))
  (ns:∀ m,s.heap.Ns X.env.locals m->h'.Ns X.env.locals m) (K:HOk X.prog X.w H' h') (R:AllBare g') :
  Inv X pins σ H' { s with heap:=h',gens:=g',drawn:=d',toks:=t' }:=by
 have D:∀ b o,X.s₀.heap.get? b=some o->b≠X.env.locals:=λb o e=>Yj (yi (yR e) I.ok.above)
 have j:∀ b o,X.s₀.heap.get? b=some o->b∉X.ex->b∉ch:=λb o e a hb=>by
  rcases(f b hb).1 with z | z
  .show a z
  .show absurd (yi (yR e) z) (Yr _)
 have cellK:∀ x c,X.env.cells.lookup x=some c->∀ v,s.heap.IsCell c v->h'.IsCell c v:=λx c e v ⟨o,A,J⟩=>by
  have g:c∉ch:=λz=>(f c z).2.2.1 x c e rfl;by_cases hc:c∈X.fs
  .obtain⟨L,q⟩:=t c o (I.cne x c e) hc g A (I.freeC x c e);show⟨_,q,J⟩
  .show⟨o,keep c o (I.cne x c e) hc g A (I.freeC x c e),J⟩
 show⟨I.ok,I.os,R,⟨λb o e n hb a=>?_,λb o e n hb a=>?_,λb o e n a=>?_,λb o e a=>?_,λb xs e=>G b xs (I.base.tups b xs e),λb o xs e=>C b o xs (I.base.frzs b o xs e),λb ps e=>?_⟩,?_,λx c e=>?_,?_,λx c e=>?_,λp N=>?_,K,I.len⟩
 .show keep b o (D b o e) hb (j b o e a) (I.base.keep b o e n hb a) (I.base.free b o e n a)
 .obtain⟨L,h⟩:=I.base.slot b o e n hb a;obtain⟨M,B⟩:=t b _ (D b o e) hb (j b o e a) h (I.base.free b o e n a);show⟨M,B⟩
 .obtain⟨E,h⟩:=I.base.there b o e a;show free b E (j b o e a) h (I.base.free b o e n a)
 .obtain⟨E,h⟩:=I.base.there b o e a;show y b E (j b o e a) h
 .obtain⟨T,h⟩:=I.base.tbls b ps e;obtain⟨U,B⟩:=F b _ h;show⟨T++U,by rw[B,Array.append_assoc]⟩
 .obtain⟨m,S,hl⟩:=I.loc;show⟨m,ns m S,λi x v h B P=>?_⟩;obtain⟨u,r,l⟩:=hl i x v h B P;show⟨u,r,?_⟩;rcases l with l | ⟨k,c,e,z⟩
  .show .inl l
  .show .inr ⟨k,c,e,cellK x c e _ z⟩
 .obtain⟨v,z⟩:=I.cell x c e;show⟨v,cellK x c e v z⟩
 .obtain⟨m,⟨o,_,_,A,_⟩,_⟩:=I.loc;show free _ o (λz=>(f _ z).2.1 rfl) A I.free
 .obtain⟨v,o,A,J⟩:=I.cell x c e;show free c o (λz=>(f c z).2.2.1 x c e rfl) A (I.freeC x c e)
 .obtain⟨e,n,ne,O,d⟩:=I.pin p N;have g:p.1∉ch:=λz=>(f p.1 z).2.2.2 p N rfl;show⟨keep p.1 p.2 ne O g e n,free p.1 p.2 g e n,ne,O,d⟩
theorem Inv.un(I:Inv X pins σ H s)(u:Un X.fs [] H H' s.heap h')(f:HOk X.prog X.w H' h'):Inv X pins σ H' { s with heap:=h',toks:=t' }:=by
 obtain⟨m,⟨o,es,ep,g,r⟩,_⟩:=id I.loc;obtain⟨p,h⟩:=u.any g I.free (by simp)
 show I.step (g':=s.gens) (d':=s.drawn) (ch:=[]) (λ_ z=>nomatch z) (λb o _ hb _ e n=>u.keep b o e n hb (by simp)) (λb o _ hb _ e n=>u.slot b o e n hb (by simp)) (λb o _ e n=>u.free b o e n (by simp)) (λb o _ e=>u.there b o e (by simp)) u.tups u.frzs u.tbls (λj i=>by
  obtain⟨l,d,c,a,r'⟩:=i;rw[g] at a;cases a;show⟨_,d,c,h,r'⟩) f I.bare
theorem Inv.call(I:Inv X pins σ H s)(u:Un (frs X.stack) ch H H' s.heap h')(i:HOk X.prog X.w H' h')(l:AllBare g')
  (a:∀ b∈ch,(b∈X.ex\/X.s₀.heap.objs.size<=b)/\b≠X.env.locals/\(∀ x c,X.env.cells.lookup x=some c->c≠b)/\∀ p∈X.pn++pins,p.1≠b) :
  Inv X pins σ H' { s with heap:=h',gens:=g',drawn:=d',toks:=t' }:=by
 obtain⟨m,⟨o,es,ep,j,r⟩,_⟩:=id I.loc;obtain⟨y,h⟩:=u.any j I.free λz=>(a _ z).2.1 rfl
 show I.step (ch:=ch) a (λb o h hb hc e n=>u.keep b o e n (λz=>(yN.mp (I.stkSub b z)).elim h hb) hc) (λb o _ _ hc e n=>u.any e n hc) (λb o hc e n=>u.free b o e n hc) (λb o hc e=>u.there b o e hc) u.tups u.frzs u.tbls (λt q=>by
  obtain⟨v,g,f,d,r'⟩:=q;rw[j] at d;cases d;show⟨_,g,f,h,r'⟩) i l
theorem Inv.turned(I:Inv X pins σ H s)(k:∀ b o,b≠it->s.heap.get? b=some o->h'.get? b=some o)(i:H it=none)(d:it≠X.env.locals)
  (h1:it∈X.ex\/X.s₀.heap.objs.size<=it) (f:∀ x c,X.env.cells.lookup x=some c->c≠it) (g:∀ p∈X.pn++pins,p.1≠it):Inv X pins σ H { s with heap:=h',toks:=t' }:=by
 have a:∀ b u,H b=some u->b≠it:=λb u e z=>by rw[z,i] at e;cases e
 show I.step (g':=s.gens) (d':=s.drawn) (ch:=[it]) (λb hb=>?_) (λb o _ _ hc e _=>k b o (λz=>hc (by simp[z])) e) (λb o _ _ hc e _=>⟨o.slots,k b o (λz=>hc (by simp[z])) e⟩) (λ_ _ _ _ n=>n)
  (λb o hc e=>⟨o,k b o (λz=>hc (by simp[z])) e⟩) (λ_ _ e=>e) (λ_ _ _ e=>e) (λb ps e=>⟨#[],by rw[e];simp⟩) (λm h=>?_) (λb u e=>?_) I.bare
 .have e:b=it:=by simpa using hb
  subst e;show⟨h1,d,f,g⟩
 .obtain⟨o,es,ep,j,r⟩:=h;show⟨o,es,ep,k _ o (YB d) j,r⟩
 .show(I.hok b u e).stay (λc v hc q=>k c v ?_ q) (λ_ q=>q) λ_ _ q=>q;rcases hc with z | z
  .rw [z];show a b u e
  .show a c _ z
theorem Inv.tok(I:Inv X pins σ H s)(t:Nat):Inv X pins σ H { s with toks:=t }:=I.un (h':=s.heap) (t':=t) Un.refl I.hok
theorem Inv.kept(I:Inv X pins σ H s)(k:∀ b u,s.heap.get? b=some u->h'.get? b=some u):Inv X pins σ H { s with heap:=h',toks:=t' }:=I.un (Un.kept k) (I.hok.kept k)
theorem Inv.laid(I:Inv X pins σ H s)(k:∀ b u,s.heap.get? b=some u->h'.get? b=some u)(c:s.heap.objs.size<=a)(new:ObjOk X.prog X.w (upd H a o) h' a o) :
  Inv X pins σ (upd H a o) { s with heap:=h',toks:=t' }:=I.un (Un.laid k c (I.hok.fresh c)) (I.hok.laid k c new)
theorem Inv.write{x e:Addr}(I:Inv X pins σ H s)(d:Mut (H x))(c:e=x\/H e=some (.own x))(k:∀ b u,b≠e->s.heap.get? b=some u->h'.get? b=some u)(a:∃ u,h'.get? e=some u)
  (new:ObjOk X.prog X.w (upd H x o) h' x o):Inv X pins σ (upd H x o) { s with heap:=h',toks:=t' }:=I.un (Un.write d c k a) (I.hok.write d c k a new)
theorem Inv.weak{a:List (Option V)}(I:Inv X pins σ H s)(hl:a.length=σ.length)(w:∀(i:Nat) v,a[i]?=some (some v)->σ[i]?=some (some v)):Inv X pins a H s:=
 ⟨I.ok,I.os,I.bare,I.base,let ⟨m,hn,hl'⟩:=I.loc;⟨m,hn,λi x v b c d=>hl' i x v b (w i v c) d⟩,I.cell,I.free,I.freeC,I.pin,I.hok,hl.trans I.len⟩
theorem Inv.pins_of{pins':List (Addr×Obj)}(I:Inv X pins σ H s)(h:∀ p∈pins',s.heap.get? p.1=some p.2/\H p.1=none/\p.1≠X.env.locals/\p.1∉X.fs/\∀ v,p.2.data≠.cell v):Inv X pins' σ H s:=
 ⟨I.ok,I.os,I.bare,I.base,I.loc,I.cell,I.free,I.freeC,λp a=>(yO.mp a).elim (λz=>I.pin p (YG _ z)) (h p),I.hok,I.len⟩
theorem qei(e:N.Nodup)(a:N[i]?=some x)(b:N[j]?=some x):i=j:=by
 obtain⟨h1,c⟩:=yc.mp a;obtain⟨f,d⟩:=yc.mp b;show(List.getElem_inj e).mp (c.trans d.symm)
theorem qc7{Q:Unit->Shared->Prop}(I:Inv X pins σ H s)(hN:X.N.Nodup)(O:X.N[i]?=some x)(t:Loc X.env.scope x)(r:RelV v u)
  (h:∀ s',Inv X pins (σ.set i (some v)) H s'->(∃ a,Heap.SameBut a s.heap s'.heap/\(a=X.env.locals\/X.env.cells.lookup x=some a))->Q () s') (hf:X.fn x=true\/X.env.scope.names.lookup x=some .local:=by first | show .inl rfl | show .inr rfl | assumption):wpAny M A (storeName X.env x u) Q E s:=by
 obtain⟨m,W,hl⟩:=id I.loc;have L:(X.env.scope.kind==.class||(X.env.scope.kind==.module&&X.env.locals != X.env.globals))=false:=by rw[I.ok.kind];rfl
 have D:i<σ.length:=by rw[I.len];show(yc.mp O).1
 have cne:=I.cne
 have l:∀{a:Addr} {h':Heap},(∃ o,s.heap.get? a=some o/\H a=none)->Heap.SameBut a s.heap h'->HOk X.prog X.w H h':=λ{a h'} ha f b ob e=>by
  obtain⟨_,_,B⟩:=ha;show(I.hok b ob e).stay (λc T hc q=>(f.2 c ?_).trans q) (λ_ q=>q) λ_ _ q=>q;rintro rfl;rcases hc with rfl | hc
  .rw [B] at e;cases e
  .rw [B] at hc;cases hc
 rcases t with hk | hk
 .show wpAny_storeName_local hk W (λh' Y f=>?_) L;obtain⟨oL,_,_,Z,_⟩:=id W;show h _ ⟨I.ok,I.os,I.bare,⟨λb o e n hb t=>?_,λb o e n hb t=>?_,I.base.free,λb o e t=>?_,I.base.tups,I.base.frzs,I.base.tbls⟩,⟨_,Y,λj y v' g C U=>?_⟩,λy c e=>?_,I.free,I.freeC,λp hp=>?_,l ⟨oL,Z,I.free⟩ f,by simpa using I.len⟩ ⟨_,f,.inl rfl⟩
  .show(f.2 b (Yj (yi (yR e) I.ok.above))).trans (I.base.keep b o e n hb t)
  .obtain⟨sl,g⟩:=I.base.slot b o e n hb t;show⟨sl,(f.2 b (Yj (yi (yR e) I.ok.above))).trans g⟩
  .obtain⟨o',g⟩:=I.base.there b o e t;show⟨o',(f.2 b (Yj (yi (yR e) I.ok.above))).trans g⟩
  .by_cases G:j=i
   .subst G;rw[O] at g;cases g;rw[List.getElem?_set_self D] at C;cases C;show⟨u,r,.inl ⟨hk,by simp⟩⟩
   .rw [xv (YB G)] at C;obtain⟨u',r',q⟩:=hl j y v' g C U;show⟨u',r',?_⟩;rcases q with⟨k,e⟩ | ⟨k,c,e,z⟩
    .show .inl ⟨k,?_⟩;have:y≠x:=λe=>G (qei hN g (e ▸ O));simp[this,e]
    .show .inr ⟨k,c,e,z.sameBut f (cne y c e)⟩
  .obtain⟨T,z⟩:=I.cell y c e;show⟨T,z.sameBut f (cne y c e)⟩
  .obtain⟨e,n,ne,nf,d⟩:=I.pin p hp;show⟨(f.2 p.1 ne).trans e,n,ne,nf,d⟩
 .have F:X.fn x=true:=by
   rcases hf with z | z
   .show z
   .rw [z] at hk;cases hk
  obtain⟨c,hc⟩:=I.ok.has x (.inl hk);obtain⟨T,z⟩:=I.cell x c hc;show wpAny_storeName_cell I.ok.kind hk hc z (λh' J f=>?_);obtain⟨oc,P,R⟩:=id z;show h { s with heap:=h' } ⟨I.ok,I.os,I.bare,⟨λb o e n hb t=>?_,λb o e n hb t=>?_,I.base.free,λb o e t=>?_,I.base.tups,I.base.frzs,I.base.tbls⟩,⟨m,W.sameBut f (YB (cne x c hc)),λj y v' g C U=>?_⟩,λy S e=>?_,I.free,I.freeC,λp hp=>?_,l ⟨oc,P,I.freeC x c hc⟩ f,by simpa using I.len⟩ ⟨c,f,.inr hc⟩
  .show(f.2 b (Yj (yi (yR e) (I.ok.cab x c F hc)))).trans (I.base.keep b o e n hb t)
  .obtain⟨sl,g⟩:=I.base.slot b o e n hb t;show⟨sl,(f.2 b (Yj (yi (yR e) (I.ok.cab x c F hc)))).trans g⟩
  .obtain⟨o',g⟩:=I.base.there b o e t;show⟨o',(f.2 b (Yj (yi (yR e) (I.ok.cab x c F hc)))).trans g⟩
  .by_cases G:j=i
   .subst G;rw[O] at g;cases g;rw[List.getElem?_set_self D] at C;cases C;show⟨u,r,.inr ⟨.inl hk,c,hc,J⟩⟩
   .rw [xv (YB G)] at C;obtain⟨u',r',q⟩:=hl j y v' g C U;show⟨u',r',?_⟩;rcases q with q | ⟨k,S,e,z'⟩
    .show .inl q
    .show .inr ⟨k,S,e,z'.sameBut f ?_⟩;rintro rfl;show G (qei hN g (I.ok.inj _ _ _ e hc ▸ O))
  .by_cases K:S=c
   .subst K;show⟨_,J⟩
   .obtain⟨w2,z2⟩:=I.cell y S e;show⟨w2,z2.sameBut f K⟩
  .obtain⟨e,n,ne,nf,d⟩:=I.pin p hp;show⟨(f.2 p.1 ?_).trans e,n,ne,nf,d⟩;intro q;rw[q,P] at e;have q':oc=p.2:=yl e;show d T (by rw[<- q'];show R)
theorem qej{Q:Unit->Shared->Prop}(I:Inv X pins σ H s)(b:X.N.Nodup)(d:X.N[i]?=some x)(e:Loc X.env.scope x)(r:RelV v u)
  (h:∀ s',Inv X pins (σ.set i (some v)) H s'->Q () s') (c:X.fn x=true\/X.env.scope.names.lookup x=some .local:=by first | show .inl rfl | show .inr rfl | assumption):wpAny M A (storeName X.env x u) Q E s:=
 qc7 I b d e r (λs' a _=>h s' a) c
theorem Inv.call'(I:Inv X pins σ H s)(g:s'.os=s.os)(u:Un (frs X.stack) ch H H' s.heap s'.heap)(d:HOk X.prog X.w H' s'.heap)(f:AllBare s'.gens)
  (a:∀ b∈ch,(b∈X.ex\/X.s₀.heap.objs.size<=b)/\b≠X.env.locals/\(∀ x c,X.env.cells.lookup x=some c->c≠b)/\∀ p∈X.pn++pins,p.1≠b):Inv X pins σ H' s':=by
 obtain⟨h',g',d',t',h⟩:=s';have e:h=s.os:=g;subst e;show I.call (g':=g') (t':=t') (d':=d') u d f a
end
abbrev XK:=Value->Option Addr->Hp->Prop
abbrev St:=List (Option V)
abbrev VK:=V->Hp->Prop
abbrev TE:=St->Hp->VK->Prop
abbrev TT:=St->Hp->(Bool->Hp->Prop)->Prop
abbrev TA:=St->Hp->(List V->Hp->Prop)->Prop
structure Ends where
 nx:St->Hp->Prop
 rt:VK
 bk:St->Hp->Prop:=λ_ _=>False
 ct:St->Hp->Prop:=λ_ _=>False
abbrev TS:=Ends->St->Hp->Prop
def EP(X:Cx)(pins:List (Addr×Obj))(σ:St)(Q:VK)(u:Value)(s':Shared):Prop:=∃ v a,Inv X pins σ a s'/\RelV v u/\Q v a
def TP(X:Cx)(pins:List (Addr×Obj))(σ:St)(Q:Bool->Hp->Prop)(b:Bool)(s':Shared):Prop:=∃ a,Inv X pins σ a s'/\Q b a
def AP(X:Cx)(pins:List (Addr×Obj))(σ:St)(Q:List V->Hp->Prop)(us:List Value)(s':Shared):Prop:=∃ vs a,Inv X pins σ a s'/\Vals vs us/\Q vs a
def SP(X:Cx)(pins:List (Addr×Obj))(D:Ends)(f:Flow)(s':Shared):Prop:=
 match f with
 | .next=>∃ a b,Inv X pins a b s'/\D.nx a b
 | .brk=>∃ a b,Inv X pins a b s'/\D.bk a b
 | .cont=>∃ a b,Inv X pins a b s'/\D.ct a b
 | .ret u=>∃ v a b,Inv X pins a b s'/\RelV v u/\D.rt v b
def PE(X:Cx)(e:Expr)(t:TE):Prop:=
 ∀(pins:List (Addr×Obj)) (s:Shared) (σ:St) (H:Hp) (Q:VK),Inv X pins σ H s->t σ H Q->wpAny (model X.prog X.w) X.A (eval e X.env) (EP X pins σ Q) X.xe s
def PT(X:Cx)(e:Expr)(t:TT):Prop:=
 ∀(pins:List (Addr×Obj)) (s:Shared) (σ:St) (H:Hp) (Q:Bool->Hp->Prop),Inv X pins σ H s->t σ H Q->wpAny (model X.prog X.w) X.A (isTrue e X.env (eval e X.env)) (TP X pins σ Q) X.xe s
def PW(X:Cx)(e:Expr)(t:TT):Prop:=
 ∀(a:Sem Value) (pins:List (Addr×Obj)) (s:Shared) (σ:St) (H:Hp) (Q:Bool->Hp->Prop),Inv X pins σ H s->t σ H Q->wpAny (model X.prog X.w) X.A (isTrue e X.env a) (TP X pins σ Q) X.xe s
theorem PW.pt{t:TT}(h:PW X e t):PT X e t:=h _
def PA(X:Cx)(es:List Expr)(t:TA):Prop:=
 ∀(pos:Pos) (pins:List (Addr×Obj)) (s:Shared) (σ:St) (H:Hp) (Q:List V->Hp->Prop),Inv X pins σ H s->t σ H Q->wpAny (model X.prog X.w) X.A (spliced (backTo pos (starEach es X.env))) (AP X pins σ Q) X.xe s
def PS(X:Cx)(st:Stmt)(t:TS):Prop:=
 ∀(pins:List (Addr×Obj)) (s:Shared) (σ:St) (H:Hp) (D:Ends),Inv X pins σ H s->t D σ H->wpAny (model X.prog X.w) X.A (exec st X.env) (SP X pins D) X.xe s
def PSs(X:Cx)(st:List Stmt)(t:TS):Prop:=
 ∀(pins:List (Addr×Obj)) (s:Shared) (σ:St) (H:Hp) (D:Ends),Inv X pins σ H s->t D σ H->wpAny (model X.prog X.w) X.A (execs st X.env) (SP X pins D) X.xe s
theorem thn{t:Sem α}{Q b:α->Shared->Prop}(h:wpAny M A t Q E s)(c:∀ a s,Q a s->b a s):wpAny M A t b E s:=Y8 h c λ_ _ x=>x
section
variable{X:Cx}
def qgd(i:Nat):TE:=fun σ H Q=>∃ v,σ[i]?=some (some v)/\Q v H
def tC(v:V):TE:=λ_ H Q=>Q v H
theorem pe_var(g:X.N[i]?=some x)(hv:Vis X.env.scope x)(f:(x==("__debug__":Str))=false:=by decide)(d:(x==("__classdict__":Str))=false:=by decide):PE X (.Name x pos) (qgd i):=by
 intro pins s σ H Q I h;obtain⟨v,e,h⟩:=h;obtain⟨m,n,hl⟩:=I.loc;obtain⟨u,r,l⟩:=hl i x v g e hv;have b:EP X pins σ Q u s:=⟨v,H,I,r,h⟩;rcases l with⟨hk,j⟩ | ⟨hk,c,hc,a⟩
 .show wpAny_Name (wpAny_loadName_local I.ok.kind hk n j b) f
 .rcases hk with hk | hk
  .show wpAny_Name (wpAny_loadName_cell I.ok.kind hk hc a b) f
  .show wpAny_Name (wpAny_loadName_free I.ok.kind hk hc a b d) f
theorem qh{i j pos}:PE X (.Constant (.int i) j pos) (tC (.int i)):=λ_ _ _ H _ I h=>wpAny_Constant_int ⟨.int i,H,I.tok _,⟨_,rfl⟩,h⟩
theorem qah{b j pos}:PE X (.Constant (.bool b) j pos) (tC (.bl b)):=λ_ _ _ H _ I h=>Constant_bool ⟨.bl b,H,I,rfl,h⟩
theorem qbN{j pos}:PE X (.Constant .none j pos) (tC .non):=λ_ _ _ H _ I h=>Constant_none ⟨.non,H,I,rfl,h⟩
theorem qaI{x j pos}:PE X (.Constant (.str x) j pos) (tC (.str x)):=λ_ _ _ H _ I h=>Calls.Constant_str ⟨.str x,H,I.tok _,⟨_,rfl⟩,h⟩
def Gl(X:Cx)(x:Str):Prop:=X.env.kindOf x=some .globalImplicit
theorem qcJ{Q:Value->Shared->Prop}(I:Inv X pins σ H s)(b:Gl X x)(c:X.mg x=some u)(h:Q u s)
  (a:(x==("__debug__":Str))=false:=by decide):wpAny (model X.prog X.w) X.A (eval (.Name x pos) X.env) Q E s:=
 Calls.Name_function_global I.ok.kind b (Calls.loadGlobal_global (by rw[I.ok.glob];show I.mod.glob.keeps I.bk) c h) a
theorem qbO{Q:Value->Shared->Prop}(I:Inv X pins σ H s)(c:Gl X x)(d:X.mg x=none)(hv:bootBuiltins x=some u)(h:Q u s)
  (e:x≠"__name__":=by decide) (b:(x==("__debug__":Str))=false:=by decide):wpAny (model X.prog X.w) X.A (eval (.Name x pos) X.env) Q E s:=by
 obtain⟨f,h1,a⟩:=I.mod.blt;show Calls.Name_function_global I.ok.kind c (Calls.loadGlobal_builtin (by rw[I.ok.glob];show I.mod.glob.keeps I.bk) d (by rw[I.ok.blt];show h1.keeps I.bk) ((a x e).trans hv) h) b
theorem pe_glob(b:Gl X x)(c:X.mg x=some u)(r:RelV v u)(a:(x==("__debug__":Str))=false:=by decide):PE X (.Name x pos) (tC v):=
 λ_ _ _ H _ I h=>qcJ I b c ⟨v,H,I,r,h⟩ a
theorem j7(b:Gl X x)(c:X.mg x=none)(hv:bootBuiltins x=some u)(r:RelV v u)(d:x≠"__name__":=by decide)(a:(x==("__debug__":Str))=false:=by decide):PE X (.Name x pos) (tC v):=
 λ_ _ _ H _ I h=>qbO I b c hv ⟨v,H,I,r,h⟩ d a
variable{a b:Expr}{ta tb:TE}{pos:Pos}
def tB(t:TE):TT:=fun σ H Q=>t σ H λx a=>∃ c,x=.bl c/\Q c a
theorem qY(h:PE X e t)(f:∀ a,isTrue e X.env a=(do let v <- a;standAt e.pos;holding [v] (truthy v)):=by intro _;rfl):PT X e (tB t):=by
 intro pins s σ H Q I hw;show isTrue_plain (thn (h pins s σ H _ I hw) λv j ⟨x,b,c,i,g⟩=>?_) (f _);obtain⟨d,rfl,q⟩:=g;cases i;show YW ⟨b,c,q⟩
variable{tA tB':TT}{qdM:List Expr}
def qhE(t u:TT):TT:=fun σ H Q=>t σ H λc a=>if c=true then u σ a Q else Q false a
def tOr(t u:TT):TT:=fun σ H Q=>t σ H λc a=>if c=true then Q true a else u σ a Q
def qhF(t:TT):TT:=fun σ H Q=>t σ H λc a=>Q (!c) a
theorem qeZ(b:PT X a tA):PW X (.BoolOp .And [a] pos) tA:=by
 intro f pins s σ H Q I h;show isTrue_and (thn (b pins s σ H Q I h) λc d e=>?_)
 cases c with
 | true=>show isTrue_and_nil e
 | false=>show e
theorem qbw(b:PT X a tA):PW X (.BoolOp .Or [a] pos) tA:=by
 intro f pins s σ H Q I h;show isTrue_or (thn (b pins s σ H Q I h) λc d e=>?_)
 cases c with
 | false=>show isTrue_or_nil e
 | true=>show e
theorem qge(g:PT X a tA)(hb:PW X (.BoolOp .And (b::qdM) pos) tB'):PW X (.BoolOp .And (a::b::qdM) pos) (qhE tA tB'):=by
 intro j pins s σ H Q I h;show isTrue_and (thn (g pins s σ H _ I h) λc i ⟨d,e,f⟩=>?_)
 cases c with
 | true=>show hb j pins i σ d Q e f
 | false=>show⟨d,e,f⟩
theorem qcn(g:PT X a tA)(hb:PW X (.BoolOp .Or (b::qdM) pos) tB'):PW X (.BoolOp .Or (a::b::qdM) pos) (tOr tA tB'):=by
 intro j pins s σ H Q I h;show isTrue_or (thn (g pins s σ H _ I h) λc i ⟨d,e,f⟩=>?_)
 cases c with
 | true=>show⟨d,e,f⟩
 | false=>show hb j pins i σ d Q e f
theorem jw(d:PT X a tA):PT X (.UnaryOp .Not a pos) (qhF tA):=by
 intro pins s σ H Q I h;show isTrue_not (d pins s σ H (λc b=>Q (!c) b) I h)
def qgX(ta tb:TE):TE:=fun σ H Q=>ta σ H λx a=>∃ c,x=.bl c/\if c=true then tb σ a Q else Q (.bl false) a
def qhG(ta tb:TE):TE:=fun σ H Q=>ta σ H λx a=>∃ c,x=.bl c/\if c=true then Q (.bl true) a else tb σ a Q
def qgY(ta:TE):TE:=fun σ H Q=>ta σ H λx a=>∃ c,x=.bl c/\Q (.bl (!c)) a
theorem qbx{op}(h:PE X a t):PE X (.BoolOp op [a] pos) t:=λpins s σ H Q I hw=>BoolOp_one (h pins s σ H Q I hw)
theorem qbP(g:PE X a ta)(hb:PE X (.BoolOp .And (b::qdM) pos) tb):PE X (.BoolOp .And (a::b::qdM) pos) (qgX ta tb):=by
 intro pins s σ H Q I h;show BoolOp_and (thn (g pins s σ H _ I h) λv j ⟨x,e,f,i,d⟩=>?_);obtain⟨c,rfl,d⟩:=d;cases i;show YW ?_
 cases c with
 | true=>show hb pins j σ e Q f d
 | false=>show⟨.bl false,e,f,rfl,d⟩
theorem pe_or(g:PE X a ta)(hb:PE X (.BoolOp .Or (b::qdM) pos) tb):PE X (.BoolOp .Or (a::b::qdM) pos) (qhG ta tb):=by
 intro pins s σ H Q I h;show BoolOp_or (thn (g pins s σ H _ I h) λv j ⟨x,e,f,i,d⟩=>?_);obtain⟨c,rfl,d⟩:=d;cases i;show YW ?_
 cases c with
 | false=>show hb pins j σ e Q f d
 | true=>show⟨.bl true,e,f,rfl,d⟩
theorem qgf(f:PE X a ta):PE X (.UnaryOp .Not a pos) (qgY ta):=by
 intro pins s σ H Q I h;show UnaryOp_ (thn (f pins s σ H _ I h) λv i ⟨x,d,e,g,b⟩=>?_);obtain⟨c,rfl,b⟩:=b;cases g;show not_of (YW ⟨.bl (!c),d,e,rfl,b⟩)
def tIf(t:TT)(ta tb:TE):TE:=fun σ H Q=>t σ H λc a=>if c=true then ta σ a Q else tb σ a Q
theorem qcK(hc:PT X c tA)(j:PE X a ta)(hb:PE X b tb):PE X (.IfExp c a b pos) (tIf tA ta tb):=by
 intro pins s σ H Q I h;show wpAny_IfExp (thn (hc pins s σ H _ I h) λd i ⟨e,f,g⟩=>?_)
 cases d with
 | true=>show j pins i σ e Q f g
 | false=>show hb pins i σ e Q f g
end
def SqL(K:yf)(H:Hp)(a:Addr)(xs:List V):Prop:=
 Rd H a (.lst xs) \/
  ∃(o:Obj) (b:Array Value) (n:Nat),K.lookup a=some o/\o.cls=.type "list"/\o.dict=none/\o.data=.seq b n/\b.size<=sizeLine/\Vals xs b.toList
def SqT(K:yf)(H:Hp)(a:Addr)(xs:List V):Prop:=
 Rd H a (.tup xs) \/
  ∃(o:Obj) (b:Array Value) (n:Nat),K.lookup a=some o/\o.cls=.type "tuple"/\o.data=.seq b n/\b.size<=sizeLine/\Vals xs b.toList
def absV:Value->Option V
 | .none=>some .non
 | .bool b=>some (.bl b)
 | .int i _=>some (.int i)
 | .str x _=>some (.str x)
 | .bytes b _=>some (.byt b)
 | .float b _=>some (.flt b)
 | .ref a=>some (.ref a)
 | .type n=>some (.ty n)
 | _=>none
theorem RelV.abs{x:V}(r:RelV x u):absV u=some x:=by
 cases x with
 | non=>cases r;rfl
 | bl _=>cases r;rfl
 | int _=>obtain⟨t,rfl⟩:=r;rfl
 | str _=>obtain⟨t,rfl⟩:=r;rfl
 | byt _=>obtain⟨t,rfl⟩:=r;rfl
 | flt _=>obtain⟨t,rfl⟩:=r;rfl
 | ref _=>cases r;rfl
 | ty _=>cases r;rfl
theorem RelV.inj{x:V}(r:RelV x u)(q:RelV y u):x=y:=yl (r.abs.symm.trans q.abs)
theorem Vals.inj:∀{xs ys:List V} {us:List Value},Vals xs us->Vals ys us->xs=ys
 | _,_,_,.nil,.nil=>rfl
 | _,_,_,.cons r t,.cons r' t'=>by rw[r.inj r',Vals.inj t t']
section
variable{X:Cx}{pins:List (Addr×Obj)}{σ:St}{H:Hp}{s:Shared}{a:Addr}{xs ys:List V}
theorem SqL.of{K:yf}(h:H a=some (.lst xs)):SqL K H a xs:=.inl (.inl h)
theorem SqT.of{K:yf}(h:H a=some (.tup xs)):SqT K H a xs:=.inl (.inl h)
theorem Inv.list(I:Inv X pins σ H s)(h:SqL X.K H a xs):∃ b:List Value,Vals xs b/\PlainL s.heap a b.toArray/\xs.length<=sizeLine:=by
 rcases h with h | ⟨o,b,n,hk,hc,hd,hs,hz,r⟩
 .obtain⟨z,b,n,r,e⟩:=h.ok I.hok;show⟨b,r,⟨_,n,e,rfl,rfl,rfl⟩,z⟩
 .show⟨b.toList,r,⟨o,n,I.kIn a o hk,hc,hd,by simpa using hs⟩,?_⟩;have e:=r.length;simp only[Xp] at e;lk
theorem Inv.tuple(I:Inv X pins σ H s)(h:SqT X.K H a xs):∃ b:List Value,Vals xs b/\IsTup s.heap a b.toArray/\xs.length<=sizeLine:=by
 rcases h with h | ⟨o,b,n,hk,hc,hs,hz,r⟩
 .obtain⟨z,b,r,p⟩:=h.ok I.hok;show⟨b,r,p,z⟩
 .show⟨b.toList,r,⟨o,I.kIn a o hk,hc,n,by simpa using hs⟩,?_⟩;have e:=r.length;simp only[Xp] at e;lk
theorem Inv.list_inj(I:Inv X pins σ H s)(h:SqL X.K H a xs)(h':SqL X.K H a ys):xs=ys:=by
 obtain⟨b,r,⟨o,n,e,_,_,d⟩,_⟩:=I.list h;obtain⟨its',r',⟨g,f,c,_,_,d'⟩,_⟩:=I.list h';rw[e] at c;cases c;rw[d] at d'
 injection d' with d1 _
 have:b=its':=by simpa using congrArg Array.toList d1
 subst this;show r.inj r'
theorem Inv.tuple_inj(I:Inv X pins σ H s)(h:SqT X.K H a xs)(h':SqT X.K H a ys):xs=ys:=by
 obtain⟨b,r,⟨o,e,_,n,d⟩,_⟩:=I.tuple h;obtain⟨its',r',⟨g,c,_,f,d'⟩,_⟩:=I.tuple h';rw[e] at c;cases c;rw[d] at d'
 injection d' with d1 _
 have:b=its':=by simpa using congrArg Array.toList d1
 subst this;show r.inj r'
end
abbrev Cx.wish(X:Cx)(E:Value->Shared->Prop):Cx:={ X with xe:=E }
abbrev Cx.nox(X:Cx):Cx:=X.wish λ_ _=>False
theorem Cx.Ok.wish(ok:X.Ok)(E:Value->Shared->Prop):(X.wish E).Ok:=
 ⟨ok.mod,ok.kind,ok.glob,ok.blt,ok.above,ok.inj,ok.has,ok.cab,ok.hd,ok.frames,ok.stk,ok.exf,ok.bs,ok.bsz,ok.noex,ok.exfs,ok.funs,ok.frf⟩
theorem Cx.Ok.unwish(ok:(X.wish E).Ok):X.Ok:=
 ⟨ok.mod,ok.kind,ok.glob,ok.blt,ok.above,ok.inj,ok.has,ok.cab,ok.hd,ok.frames,ok.stk,ok.exf,ok.bs,ok.bsz,ok.noex,ok.exfs,ok.funs,ok.frf⟩
section
variable{X:Cx}{pins:List (Addr×Obj)}{σ:St}{H:Hp}{s:Shared}{E:Value->Shared->Prop}
theorem Inv.wish(I:Inv X pins σ H s)(E:Value->Shared->Prop):Inv (X.wish E) pins σ H s:=⟨I.ok.wish E,I.os,I.bare,I.base,I.loc,I.cell,I.free,I.freeC,I.pin,I.hok,I.len⟩
theorem Inv.unwish(I:Inv (X.wish E) pins σ H s):Inv X pins σ H s:=⟨I.ok.unwish,I.os,I.bare,I.base,I.loc,I.cell,I.free,I.freeC,I.pin,I.hok,I.len⟩
theorem SP.unwish{f:Flow}(h:SP (X.wish E) pins D f s'):SP X pins D f s':=by
 cases f with
 | next=>obtain⟨a,b,I,q⟩:=h;show⟨a,b,I.unwish,q⟩
 | brk=>obtain⟨a,b,I,q⟩:=h;show⟨a,b,I.unwish,q⟩
 | cont=>obtain⟨a,b,I,q⟩:=h;show⟨a,b,I.unwish,q⟩
 | ret u=>obtain⟨v,a,b,I,r,q⟩:=h;show⟨v,a,b,I.unwish,r,q⟩
theorem PSs.nox{st:List Stmt}{t:TS}(h:PSs X.nox st t):PSs X st t:=λpins s σ H D I hw =>
 Y8 (h pins s σ H D (I.wish _) hw) (λ_ _ q=>q.unwish) λ_ _ z=>False.elim z
end
section
variable{X:Cx}{st:Stmt}{qdM:List Stmt}{t u:TS}{e:Expr}{te:TE}{pos:Pos}
def qgZ:TS:=λD σ H=>D.nx σ H
def qf0(t u:TS):TS:=λD σ H=>t { D with nx:=u D } σ H
theorem qu:PSs X [] qgZ:=λ_ _ σ H _ I h=>XH ⟨σ,H,I,h⟩
theorem qc(h1:PS X st t)(d:PSs X qdM u):PSs X (st::qdM) (qf0 t u):=by
 intro pins s σ H D I h;show wpAny_execs_cons (thn (h1 pins s σ H { D with nx:=u D } I h) λf e q=>?_)
 cases f with
 | next =>
  obtain⟨a,b,c,q⟩:=q;show d pins e a b D c q
 | ret v=>show q
 | brk=>show q
 | cont=>show q
theorem qg(h1:PS X st t):PSs X [st] t:=by
 intro pins s σ H D I h;show wpAny_execs_cons (thn (h1 pins s σ H D I h) λf a q=>?_)
 cases f with
 | next=>show XH q
 | ret v=>show q
 | brk=>show q
 | cont=>show q
theorem Inv.quiet(I:Inv X pins σ H s):interactive X.env=false:=by simp[interactive,I.ok.kind]
def qg0(te:TE):TS:=λD σ H=>te σ H λ_ a=>D.nx σ a
theorem qU(c:PE X e te)(d:swapsWith e none pos.line X.env=pure false:=by rfl):PS X (.Expr e pos) (qg0 te):=by
 intro pins s σ H D I h;show wpAny_Expr_any (thn (c pins s σ H _ I h) λv i ⟨x,a,b,g,f⟩=>⟨σ,a,b,f⟩) I.quiet d
def qht(te:TE):TS:=λD σ H=>te σ H D.rt
theorem qp(c:PE X e te):PS X (.Return (some e) pos) (qht te):=by
 intro pins s σ H D I h;show wpAny_Return_some (thn (c pins s σ H _ I h) λv g ⟨x,a,b,f,d⟩=>⟨x,σ,a,b,f,d⟩)
def tRetN:TS:=λD _ H=>D.rt .non H
def qhH(c:TT)(t u:TS):TS:=λD σ H=>c σ H λb a=>if b=true then t D σ a else u D σ a
theorem qR{a b:List Stmt}(hc:PT X c tc)(j:PSs X a t)(hb:PSs X b u):PS X (.If c a b pos) (qhH tc t u):=by
 intro pins s σ H D I h;show wpAny_If (thn (hc pins s σ H _ I h) λd i ⟨e,f,g⟩=>?_)
 cases d with
 | true=>show j pins i σ e D f g
 | false=>show hb pins i σ e D f g
def tNever:TS:=λ_ _ _=>False
theorem ji:PS X st tNever:=λ_ _ _ _ _ _ h=>h.elim
end
abbrev TG:=V->St->Hp->(St->Hp->Prop)->Prop
abbrev TGs:=List V->St->Hp->(St->Hp->Prop)->Prop
def PG(X:Cx)(a:Expr)(t:TG):Prop:=
 ∀(pins:List (Addr×Obj)) (s:Shared) (σ:St) (H:Hp) (v:V) (u:Value) (Q:St->Hp->Prop),Inv X pins σ H s->RelV v u->t v σ H Q ->
  wpAny (model X.prog X.w) X.A (assign a X.env u) (λ_ s'=>∃ b c,Inv X pins b c s'/\Q b c) X.xe s
def PGs(X:Cx)(c:List Expr)(t:TGs):Prop:=
 ∀(pins:List (Addr×Obj)) (s:Shared) (σ:St) (H:Hp) (vs:List V) (us:List Value) (Q:St->Hp->Prop),Inv X pins σ H s->Vals vs us->t vs σ H Q ->
  wpAny (model X.prog X.w) X.A (assignInOrder ((assignEach c X.env).map (·.2)) us) (λ_ s'=>∃ a b,Inv X pins a b s'/\Q a b) X.xe s
abbrev qg1:=V->V->V->Hp->(Hp->Prop)->Prop
def qhu(X:Cx)(t:qg1):Prop:=
 ∀(pins:List (Addr×Obj)) (s:Shared) (σ:St) (H:Hp) (o i v:V) (b iv u:Value) (Q:Hp->Prop),Inv X pins σ H s->RelV o b->RelV i iv->RelV v u->t o i v H Q ->
  wpAny (model X.prog X.w) X.A (setItem b iv u) (λ_ s'=>∃ a,Inv X pins σ a s'/\Q a) X.xe s
section
variable{X:Cx}{pos:Pos}
def qco(i:Nat):TG:=λv σ H Q=>Q (σ.set i (some v)) H
theorem qi(b:X.N.Nodup)(d:X.N[i]?=some x)(e:Loc X.env.scope x)(c:X.fn x=true\/X.env.scope.names.lookup x=some .local:=by first | show .inl rfl | show .inr rfl | assumption):PG X (.Name x pos) (qco i):=by
 intro pins s σ H v u Q I r h;show wpAny_assign_Name (qej I b d e r (λs' a=>⟨_,H,a,h⟩) c)
def qhI:TGs:=λvs σ H Q=>vs=[]/\Q σ H
def qgG(t:TG)(u:TGs):TGs:=λvs σ H Q=>∃ v r,vs=v::r/\t v σ H λa b=>u r a b Q
theorem qai:PGs X [] qhI:=by
 intro pins s σ H vs us Q I r h;obtain⟨e,h⟩:=h;subst e;cases r;show assignInOrder_nil ⟨σ,H,I,h⟩
theorem jd{t:TG}{u:TGs}(h1:PG X e t)(f:PGs X es u)
  (g:(assignEach (e::es) X.env).map (·.2)=assign e X.env::(assignEach es X.env).map (·.2):=by rfl):PGs X (e::es) (qgG t u):=by
 intro pins s σ H vs us Q I r h;obtain⟨v,l,d,h⟩:=h;subst d
 cases r with
 | cons r rr =>
  rw[g];show assignInOrder_cons (thn (h1 pins s σ H _ _ _ I r h) λ_ j ⟨a,b,c,i⟩=>?_);show f pins j a b _ _ Q c rr i
def qho(K:yf)(n:Nat)(t:TGs):TG:=λv σ H Q=>∃ a xs,v=.ref a/\SqT K H a xs/\xs.length=n/\t xs σ H Q
theorem qby{k:Nat}{t:TGs}(hc:X.calm=true)(h:PGs X es t)
  (i:(assignEach es X.env).length=n:=by rfl) (c:(assignEach es X.env).findIdx? (·.1)=none:=by rfl):PG X (.Tuple es k pos) (qho X.K n t):=by
 intro pins s σ H v u Q I r hw;obtain⟨a,xs,g,j,hl,hw⟩:=hw;subst g;cases r;obtain⟨p,d,l,q⟩:=I.tuple j;show assign_Tuple_tuple (I.ok.hd hc) l (by simp[i,<- hl,d.length]) c λh' m=>?_;have f:Inv X pins σ H { s with heap:=h' }:=I.kept (t':=s.toks) λb o e=>m b o (Yj (yR e)) e;show h pins _ σ H xs _ Q f (by simpa using d) hw
def qhJ(to d:TE)(t:qg1):TG:=λv σ H Q=>to σ H λo a=>d σ a λi b=>t o i v b λc=>Q σ c
theorem qaJ{o i:Expr}{to b:TE}{t:qg1}(n:PE X o to)(m:PE X i b)(p:qhu X t)
  (l:∀ v,assign (.Subscript o i pos) X.env v=(do
   let a <- holding [v] (eval o X.env);let iv <- holding [v,a] (eval i X.env)
   standAt pos
   holding [v,a,iv] (setItem a iv v)
   release [v,a,iv] []):=by intro _;rfl):PG X (.Subscript o i pos) (qhJ to b t):=by
 intro pins s σ H v u Q I r h;rw[l];show yr (YN (thn (n pins s σ H _ I h) λa C ⟨x,c,f,A,q⟩=>?_));show yr (YN (thn (m pins C σ c _ f q) λiv D ⟨y,d,g,B,w⟩=>?_));show yr (wpAny_standAt (yr (YN (thn (p pins D σ d x y v a iv u _ g A B r w) λ_ E ⟨e,j,z⟩=>?_))));show wpAny_release ⟨σ,e,j,z⟩
def qgT(te:TE)(g:TG):TS:=λD σ H=>te σ H λx a=>g x σ a D.nx
theorem qaj(c:PE X e te)(d:PG X tg g)(f:swapsWithSole [tg] e pos.line X.env=pure false:=by rfl)(hw:swappedStores [tg] e X.env=pure none:=by rfl)
  (h1:(assignEach [tg] X.env).map (·.2)=[assign tg X.env]:=by rfl):PS X (.Assign [tg] e pos) (qgT te g):=by
 intro pins s σ H D I h;show wpAny_Assign_stores (thn (c pins s σ H _ I h) λv l ⟨x,a,b,j,i⟩=>?_) f hw;rw[h1];show thn (d pins l σ a x v _ b j i) λ_ m q=>q
theorem qo{a:Pos}(f:X.N.Nodup)(l:X.N[i]?=some x)(n:Loc X.env.scope x)(g:PE X e te)(m:swapsWith e (some (.Name x a)) pos.line X.env=pure false:=by rfl)(j:X.fn x=true\/X.env.scope.names.lookup x=some .local:=by first | show .inl rfl | show .inr rfl | assumption) :
  PS X (.Assign [.Name x a] e pos) (qgT te (qco i)):=by
 intro pins s σ H D I h;show wpAny_Assign_Name (thn (g pins s σ H _ I h) λv q ⟨y,b,c,p,o⟩=>?_) m;show qej c f l n p (λr d=>⟨_,b,d,o⟩) j
end
section
variable{X:Cx}{pos:Pos}
def tWhile(c:TT)(tb:TS):TS:=λD σ H=>∃ W:Nat->St->Hp->Prop,(∃ m,W m σ H)/\∀ m σ H,W m σ H ->
 c σ H λb e=>if b=true then ∃ N:St->Hp->Prop,(∀ a d,N a d->∃ f,f<m/\W f a d)/\tb { D with nx:=N,ct:=N,bk:=D.nx } σ e else D.nx σ e
theorem qcL(B:PassesOwn (model X.prog X.w) X.A X.env X.xe)(hc:PT X c tc)(hb:PSs X body tb):PS X (.While c body [] pos) (tWhile tc tb):=by
 intro pins s σ H D I h;obtain⟨W,⟨E,J⟩,g⟩:=h;show wpAny_While (codeAny_whileLoop (λn s'=>∃ i t,Inv X pins i t s'/\W n i t) ?_ E ⟨σ,H,I,J⟩);rintro n F ⟨d,u,C,K⟩;show xu B (thn (hc pins F d u _ C (g n d u K)) λb G ⟨x,y,j⟩=>?_)
 cases b with
 | true =>
  obtain⟨N,z,j⟩:=j;rw[yG rfl];show xu B (thn (hb pins G d x _ y j) λf L l=>?_)
  cases f with
  | next =>
   obtain⟨a,e,m,q⟩:=l;obtain⟨p,o,r⟩:=z a e q;show⟨p,o,a,e,m,r⟩
  | cont =>
   obtain⟨a,e,m,q⟩:=l;obtain⟨p,o,r⟩:=z a e q;show⟨p,o,a,e,m,r⟩
  | brk=>show l
  | ret v=>show l
 | false =>
  rw[yC Ys];show XH ⟨d,x,y,j⟩
end
structure It where
 go:Nat->Hp->Prop
 yld:Nat->Hp->V->Hp->Prop
 stop:Nat->Hp->Prop
def qdN(X:Cx)(pins:List (Addr×Obj))(H:Hp)(b:Addr):Prop:=
 H b=none/\b≠X.env.locals/\b∉X.fs/\(b∈X.ex\/X.s₀.heap.objs.size<=b)/\(∀ x c,X.env.cells.lookup x=some c->c≠b)/\∀ p∈X.pn++pins,p.1≠b
theorem Inv.fpOk{a:Hp}(I:Inv X pins σ H s)(hb:s.heap.objs.size<=b)(d:a b=none):qdN X pins a b:=by
 show⟨d,Xk (yi I.lt hb),I.nofs hb,.inr (yh I.sz hb),λx c e z=>?_,λp f z=>?_⟩
 .obtain⟨v,q⟩:=I.cell x c e;show absurd (yi q.lt (by rw[z];show hb)) (Yr _)
 .show absurd (yi (yR (I.pin p f).1) (by rw[z];show hb)) (Yr _)
structure Turn(P:Program)(w:World)(K:yf)(tg:Expr)(J:It)(fp:LI)(it:Addr)(tn:Nat->Heap->Prop):Prop where
 mem:it∈fp
 obj:∀ i h,tn i h->∀ b∈fp,∃ o,h.get? b=some o/\∀ v,o.data≠.cell v
 keep:∀ i h h',tn i h->(∀ b∈fp,∀ o,h.get? b=some o->h'.get? b=some o)->tn i h'
 item:∀(X:Cx),X.prog=P->X.w=w->X.K=K->X.calm=true->∀(i:Nat) (pins:List (Addr×Obj)) (s:Shared) (σ:St) (H:Hp) (E:Value->Shared->Prop),Inv X pins σ H s->(∀ b∈fp,qdN X pins H b)->tn i s.heap->J.go i H ->
  wpAny (model P w) X.A (pyNext (.ref it)) (λr s1=>∃ u,r=some u /\
   wpAny (model P w) X.A (letOwnedTupleGo tg (.ref it) u) (λ_ s2=>∃ x H',Inv X pins σ H' s2/\RelV x u/\J.yld i H x H'/\tn (i+1) s2.heap/\∀ b∈fp,H' b=none) E s1) E s
 done:∀(X:Cx),X.prog=P->X.w=w->X.K=K->X.calm=true->∀(i:Nat) (pins:List (Addr×Obj)) (s:Shared) (σ:St) (H:Hp) (E:Value->Shared->Prop),Inv X pins σ H s->(∀ b∈fp,qdN X pins H b)->tn i s.heap->J.stop i H ->
  wpAny (model P w) X.A (pyNext (.ref it)) (λr s1=>r=none/\Inv X pins σ H s1) E s
 self:∀(A:Around) (i:Nat) (s:Shared) (Q:Value->Shared->Prop) (E:Value->Shared->Prop),tn i s.heap->Q (.ref it) s->wpAny (model P w) A (pyIter (.ref it)) Q E s
abbrev TI:=St->Hp->(It->Hp->Prop)->Prop
def PIE(X:Cx)(pins:List (Addr×Obj))(σ:St)(tg:Expr)(R:It->Hp->Prop)(c:Value)(d:Shared):Prop:=
 ∃(it:Addr) (fp:LI) (tn:Nat->Heap->Prop) (J:It) (a:Hp),c=.ref it/\Inv X pins σ a d/\Turn X.prog X.w X.K tg J fp it tn/\tn 0 d.heap/\(∀ b∈fp,qdN X pins a b)/\R J a
def PI(X:Cx)(tg a:Expr)(c:TI):Prop:=
 ∀(pins:List (Addr×Obj)) (s:Shared) (σ:St) (H:Hp) (R:It->Hp->Prop),Inv X pins σ H s->c σ H R ->
  wpAny (model X.prog X.w) X.A (eval a X.env) (λv b=>wpAny (model X.prog X.w) X.A (pyIter v) (PIE X pins σ tg R) X.xe b) X.xe s
theorem qf1{o:Obj}{n:String}{vs:Array Value}{Q:Unit->Shared->Prop}(d:s.heap.get? it=some o)(hc:o.cls=.type n)(b:o.data=.fields vs)
    (c:["enumerate","zip","dict_itemiterator","dict_reverseitemiterator","odict_iterator","itertools.zip_longest","itertools.pairwise"].contains n=false) (a:Q () s):wpAny M A (letOwnedTupleGo tg (.ref it) u) Q E s:=by
  unfold letOwnedTupleGo;cases tg<;>first
    | show yE a
    | (cases u<;>first
        | show yE a
        | (show yr (wpAny_load d ?_)
           rw[hc,b];show wpAny M A (if (["enumerate","zip","dict_itemiterator","dict_reverseitemiterator","odict_iterator","itertools.zip_longest","itertools.pairwise"].contains n&&vs[0]?==some (rawInt _))=true then _ else _) Q E s;rw[yC (by intro h;rw[c,xJ] at h;cases h)];show yE a))
def Itl(K:yf)(a:Addr):It:=
 ⟨λi H=>∃ xs x,SqL K H a xs/\xs[i]?=some x,λi H x b=>b=H/\∀ xs,SqL K H a xs->xs[i]?=some x,λi H=>∃ xs,SqL K H a xs/\xs.length<=i⟩
def Itt(K:yf)(a:Addr):It:=
 ⟨λi H=>∃ xs x,SqT K H a xs/\xs[i]?=some x,λi H x b=>b=H/\∀ xs,SqT K H a xs->xs[i]?=some x,λi H=>∃ xs,SqT K H a xs/\xs.length<=i⟩
def Itr(lo:Int)(n:Nat):It:=⟨λi _=>i<n,λi H x a=>a=H/\x=.int (lo+i),λi _=>n<=i⟩
theorem qc8{K:yf}(a it:Addr):Turn P w K tg (Itl K a) [it] it (λi h=>h.IsListIter it a i) where
 mem:=by simp
 obj:=λi h st b hb=>by
  have e:b=it:=by simpa using hb
  subst e;obtain⟨o,e,c,d⟩:=st;show⟨o,e,λv z=>by rw[d] at z;cases z⟩
 keep:=λi h h' st k=>st.at λo e=>k it (by simp) o e
 item:=by
  intro X y hw t hc i pins s σ H E I g st A;subst y hw t;obtain⟨xs,x,j,B⟩:=A;obtain⟨C,D,p,N⟩:=I.list j;obtain⟨u,L,O⟩:=D.get B;obtain⟨l,m,J,n,q,r⟩:=g it (by simp);show wpAny_pyNext_list_item st p.isList (x:=u) (by simpa using L) λh' f R=>?_;have F:Inv X pins σ H { s with heap:=h' }:=I.turned (t':=s.toks) (λb o hb e=>(R.2 b hb).trans e) l m n q r;obtain⟨o,e,c,d⟩:=id f;show⟨u,rfl,qf1 (s:={ s with heap:=h' }) e c d (by decide) ⟨x,H,F,O,⟨rfl,λys M=>by rw[I.list_inj M j];show B⟩,f,λb hb=>(g b hb).1⟩⟩
 done:=by
  intro X y hw t hc i pins s σ H E I g st A;subst y hw t;obtain⟨xs,j,B⟩:=A;obtain⟨C,D,p,N⟩:=I.list j;obtain⟨l,m,J,n,q,r⟩:=g it (by simp);have hl:=D.length;show wpAny_pyNext_list_end (I.ok.hd hc) st p.isList (by simp;lk) λh' G=>⟨rfl,I.turned (t':=s.toks) (λb o hb e=>G b o hb e) l m n q r⟩
 self:=λ_ _ _ _ _ st h=>wpAny_pyIter_listiter st h
theorem turn_tuple{K:yf}(a it:Addr):Turn P w K tg (Itt K a) [it] it (λi h=>h.IsTupleIter it a i) where
 mem:=by simp
 obj:=λi h st b hb=>by
  have e:b=it:=by simpa using hb
  subst e;obtain⟨o,e,c,d⟩:=st;show⟨o,e,λv z=>by rw[d] at z;cases z⟩
 keep:=λi h h' st k=>st.at λo e=>k it (by simp) o e
 item:=by
  intro X A hw y hc i pins s σ H E I j st B;subst A hw y;obtain⟨xs,x,l,C⟩:=B;obtain⟨f,D,p,N⟩:=I.tuple l;obtain⟨u,L,O⟩:=D.get C;obtain⟨m,n,J,q,r,t⟩:=j it (by simp);show wpAny_pyNext_tuple_item st (show s.heap.IsTuple a f.toArray from p) (x:=u) (by simpa using L) λh' g R=>?_;have F:Inv X pins σ H { s with heap:=h' }:=I.turned (t':=s.toks) (λb o hb e=>(R.2 b hb).trans e) m n q r t;obtain⟨o,e,c,d⟩:=id g;show⟨u,rfl,qf1 (s:={ s with heap:=h' }) e c d (by decide) ⟨x,H,F,O,⟨rfl,λys M=>by rw[I.tuple_inj M l];show C⟩,g,λb hb=>(j b hb).1⟩⟩
 done:=by
  intro X A hw y hc i pins s σ H E I j st B;subst A hw y;obtain⟨xs,l,C⟩:=B;obtain⟨f,D,p,N⟩:=I.tuple l;obtain⟨m,n,J,q,r,t⟩:=j it (by simp);have hl:=D.length;show wpAny_pyNext_tuple_end (I.ok.hd hc) st (show s.heap.IsTuple a f.toArray from p) (by simp;lk) λh' G=>⟨rfl,I.turned (t':=s.toks) (λb o hb e=>G b o hb e) m n q r t⟩
 self:=λ_ _ _ _ _ st h=>wpAny_pyIter_tupleiter st h
theorem turn_range{K:yf}(it:Addr)(lo:Int)(n:Nat):Turn P w K tg (Itr lo n) [it] it (λi h=>IsRangeIter h it (lo+(i:Nat)*1) ((n:Int)-(i:Nat)) 1) where
 mem:=by simp
 obj:=λi h st b hb=>by
  have e:b=it:=by simpa using hb
  subst e
  show⟨_,st,λv z=>by
   have A:Data.fields _=Data.cell v:=z;cases A⟩
 keep:=λi h h' st k=>k it (by simp) _ st
 item:=by
  intro X p hw m hc i pins s σ H E I c st q;subst p hw m;obtain⟨d,f,x,g,j,l⟩:=c it (by simp);have W:=Walks.range (prog:=X.prog) (w:=X.w) (I.ok.hd hc) it lo 1 n;show W.item i s _ _ q st λv h' tk hv a y=>?_;obtain⟨t,rfl⟩:=hv;have r:Inv X pins σ H { s with heap:=h',toks:=tk }:=I.turned (λb o hb e=>y b o (by simpa using hb) e) d f g j l;show⟨_,rfl,qf1 (s:={ s with heap:=h',toks:=tk }) (n:="range_iterator") a rfl rfl (by decide) ⟨.int (lo+i),H,r,⟨t,?_⟩,⟨rfl,rfl⟩,a,λb hb=>(c b hb).1⟩⟩;rw[Int.mul_one]
 done:=by
  intro X p hw m hc i pins s σ H E I c st q;subst p hw m;obtain⟨d,f,x,g,j,l⟩:=c it (by simp);show wpAny_pyNext_range_end (I.ok.hd hc) st (by have:n<=i:=q;lk) λh' u=>⟨rfl,I.turned (t':=s.toks) (λb o hb e=>u b o hb e) d f g j l⟩
 self:=λ_ _ _ _ _ st h=>wpAny_pyIter_rangeiter st h
section
variable{X:Cx}{tg:Expr}
theorem qek{R:It->Hp->Prop}{a:Int}{t u v:Tok}{tk:Nat}(I:Inv X pins σ H s)(h1:-(2 ^ 62)<=lo)(g:lo<2 ^ 62)(h:-(2 ^ 62)<=a)(i:a<2 ^ 62)
  (q:R (Itr lo (a-lo).toNat) H):wpAny (model X.prog X.w) X.A (pyIter (.ref s.heap.objs.size)) (PIE X pins σ tg R) E { s with heap:=s.heap.push { cls:=.type "range",data:=.fields #[.int lo t,.int a u,.int 1 v] },toks:=tk }:=by
 show wpAny_pyIter_range (IsRange.new ..) (small_one h1 g h i) ?_;have c:Inv X pins σ H { s with heap:=s.heap.push { cls:=.type "range",data:=.fields #[.int lo t,.int a u,.int 1 v] },toks:=tk }:=I.kept λb o e=>yz _ e;show⟨(s.heap.push { cls:=.type "range",data:=.fields #[.int lo t,.int a u,.int 1 v] }).objs.size,[(s.heap.push { cls:=.type "range",data:=.fields #[.int lo t,.int a u,.int 1 v] }).objs.size],_,_,H,rfl,
  c.kept (t':=tk) λb o e=>yz _ e,turn_range _ lo (a-lo).toNat,?_,λb hb=>?_,q⟩
 .have d:lo+((0:Nat):Int)*1=lo:=by simp
  have f:(((a-lo).toNat:Nat):Int)-((0:Nat):Int)=Builtin.Range.rangeSize lo a 1:=by rw[rangeSize_one];split<;>lk
  show IsRangeIter _ _ (lo+((0:Nat):Int)*1) ((((a-lo).toNat:Nat):Int)-((0:Nat):Int)) 1;rw[d,f];show yY _ rfl
 .have e:b=(s.heap.push { cls:=.type "range",data:=.fields #[.int lo t,.int a u,.int 1 v] }).objs.size:=by simpa using hb
  subst e;show c.fpOk (yg _) (c.hok.fresh (yg _))
def qg2(ta:TA):TI:=fun σ H R=>ta σ H λvs a=>∃ j:Int,vs=[.int j]/\-(2 ^ 62)<=j/\j<2 ^ 62/\R (Itr 0 j.toNat) a
def qg3(ta:TA):TI:=fun σ H R=>ta σ H λvs a=>∃ i j:Int,vs=[.int i,.int j]/\(-(2 ^ 62)<=i/\i<2 ^ 62/\-(2 ^ 62)<=j/\j<2 ^ 62)/\R (Itr i (j-i).toNat) a
theorem jo{a:Expr}(f:Gl X "range")(g:X.mg "range"=none)(d:PA X [a] ta)(i:starEach [a] X.env=[(false,eval a X.env)]:=by rfl):PI X tg (.Call (.Name "range" p) [a] [] pos) (qg2 ta):=by
 intro pins s σ H R I h;show Call_ (qbO I f g boot_range (YV (thn (d pos pins s σ H _ I h) λus o ⟨vs,n,c,m,b⟩=>?_) i rfl));obtain⟨j,e,b,l,q⟩:=b;subst e
 cases m with
 | cons r rr =>
  cases rr;obtain⟨t,rfl⟩:=r;show call_range_1 (qek c (by lk) (by lk) b l (by simpa using q))
theorem pi_range2{a b:Expr}(l:Gl X "range")(m:X.mg "range"=none)(g:PA X [a,b] ta)(n:starEach [a,b] X.env=[(false,eval a X.env),(false,eval b X.env)]:=by rfl)(c:starEach [b] X.env=[(false,eval b X.env)]:=by rfl) :
  PI X tg (.Call (.Name "range" p) [a,b] [] pos) (qg3 ta):=by
 intro pins s σ H R I h;show Call_ (qbO I l m boot_range (YV (thn (g pos pins s σ H _ I h) λus y ⟨vs,x,f,w,d⟩=>?_) (by rw[n,c]) (by rw[c];rfl)));obtain⟨i,j,e,⟨d,o,u,v⟩,q⟩:=d;subst e
 cases w with
 | cons r rr =>
  cases rr with
  | cons r' rr =>
   cases rr;obtain⟨t,rfl⟩:=r;obtain⟨t',rfl⟩:=r';show call_range_2 (qek f d o u v q)
def qhK(h:TI)(g:TG)(tb:TS):TS:=λD σ H=>h σ H λJ e=>∃ W:Nat->Nat->St->Hp->Prop,(∃ m,W 0 m σ e)/\∀ i m σ H,W i m σ H ->
 (J.stop i H/\D.nx σ H)\/(J.go i H/\∃ N:St->Hp->Prop,(∀ b a,N b a->∃ d,d<m/\W (i+1) d b a)/\∀ x a,J.yld i H x a->g x σ a λc f=>tb { D with nx:=N,ct:=N,bk:=D.nx } c f)
def qc9(fp:LI)(h:Heap):List (Addr×Obj):=fp.filterMap λb=>(h.get? b).map λo=>(b,o)
theorem qav{o:Obj}(hb:b∈fp)(e:h.get? b=some o):(b,o)∈qc9 fp h:=List.mem_filterMap.mpr ⟨b,hb,by rw[e];rfl⟩
theorem of_pinsAt{p:Addr×Obj}(c:p∈qc9 fp h):p.1∈fp/\h.get? p.1=some p.2:=by
 obtain⟨b,hb,e⟩:=List.mem_filterMap.mp c
 cases q:h.get? b with
 | none=>rw[q] at e;cases e
 | some o =>
  rw[q] at e;have a:(b,o)=p:=yl e;subst a;show⟨hb,q⟩
theorem Inv.pinned(I:Inv X pins σ H s)(h:∀ b∈fp,qdN X pins H b)(i:∀ b∈fp,∃ o,s.heap.get? b=some o/\∀ v,o.data≠.cell v):Inv X (pins++qc9 fp s.heap) σ H s:=
 I.pins_of λp j=>(yO.mp j).elim (λz=>I.pin p (yT _ z)) λz=>by
  obtain⟨hb,e⟩:=of_pinsAt z;obtain⟨c,f,g,_⟩:=h p.1 hb;obtain⟨o,a,d⟩:=i p.1 hb;rw[e] at a;cases a;show⟨e,c,f,g,d⟩
theorem Inv.unpinned{pl:List (Addr×Obj)}(I:Inv X (pins++pl) σ H s):Inv X pins σ H s:=I.pins_of λp a=>I.pin p (yT _ (YG _ a))
theorem je{p:Expr}{wi:TI}(F:PassesOwn (model X.prog X.w) X.A X.env X.xe)(hc:X.calm=true)(hi:PI X tg p wi)(hg:PG X tg g)(hb:PSs X body tb)
  (hs:∀ x,foldedSetIterable p X.env x=pure x:=by intro _;rfl):PS X (.For tg p body [] pos) (qhK wi g tb):=by
 intro pins s σ H D I h;show wpAny_For (thn (hi pins s σ H _ I h) λv s1 h1=>thn h1 λaa s2 h2=>?_) hs;obtain⟨it,fp,tn,J,H2,e,I2,T,Y,f2,W,⟨m0,w0⟩,M⟩:=h2;subst e;have q:∀{z:Hp},(∀ b∈fp,z b=none)->∀ b∈fp,qdN X pins z b:=λhn b hb=>⟨hn b hb,(f2 b hb).2⟩;show codeAny_forLoop_any (λn s'=>∃ i t z,Inv X pins t z s'/\tn i s'.heap/\(∀ b∈fp,z b=none)/\W i n t z) ?_ m0 ⟨0,σ,H2,I2,Y,λb hb=>(f2 b hb).1,w0⟩;rintro n s3 ⟨i,y,O,I3,K,E,w3⟩;rcases M i n y O w3 with⟨L,qn⟩ | ⟨go,N,hN,step⟩
 .show xu F (thn (T.done X rfl rfl rfl hc i pins s3 y O X.xe I3 (q E) K L) λr s4 ⟨S,I4⟩=>?_);subst S;show XH ⟨y,O,I4,qn⟩
 .show xu F (thn (T.item X rfl rfl rfl hc i pins s3 y O X.xe I3 (q E) K go) λr s4 ⟨u,S,h4⟩=>?_);subst S;show xu F (thn h4 λ_ s5 ⟨x,H5,I5,r5,y5,C,R⟩=>?_);have P:=I5.pinned (q R) (T.obj _ _ C);show xu F (thn (hg _ s5 y H5 x u _ P r5 (step x H5 y5)) λ_ s6 ⟨Z,H6,I6,q6⟩=>?_);show xu F (thn (hb _ s6 Z H6 _ I6 q6) λf U B=>?_)
  have l:∀{a:St} {c:Hp},Inv X (pins++qc9 fp s5.heap) a c U->N a c->∃ m,m<n/\∃ i t z,Inv X pins t z U/\tn i U.heap/\(∀ b∈fp,z b=none)/\W i m t z:=λ{a c} j G=>by
   obtain⟨m',hm,w7⟩:=hN a c G;show⟨m',hm,i+1,a,c,j.unpinned,T.keep _ _ _ C λb hb o e=>(j.pin (b,o) (yT _ (yT _ (qav hb e)))).1,λb hb=>?_,w7⟩;obtain⟨o,e,d⟩:=T.obj _ _ C b hb;show(j.pin (b,o) (yT _ (yT _ (qav hb e)))).2.1
  cases f with
  | next=>obtain⟨a,c,j,G⟩:=B;show l j G
  | cont=>obtain⟨a,c,j,G⟩:=B;show l j G
  | brk=>obtain⟨a,c,j,B⟩:=B;show⟨a,c,j.unpinned,B⟩
  | ret v=>obtain⟨x7,a,c,j,r7,B⟩:=B;show⟨x7,a,c,j.unpinned,r7,B⟩
end
theorem ju{K:yf}(b:Nat->St->Hp->Prop)(n:b 0 σ H)(hl:∀ i σ H,i<=xs.length->b i σ H->SqL K H a xs)
  (s:∀ i x σ H,xs[i]?=some x->b i σ H->g x σ H λf j=>tb { D with nx:=b (i+1),ct:=b (i+1),bk:=D.nx } f j) (o:∀ σ H,b xs.length σ H->D.nx σ H) :
  ∃ W:Nat->Nat->St->Hp->Prop,(∃ m,W 0 m σ H)/\∀ i m σ H,W i m σ H ->
   ((Itl K a).stop i H/\D.nx σ H)\/((Itl K a).go i H/\∃ N:St->Hp->Prop,(∀ d c,N d c->∃ l,l<m/\W (i+1) l d c)/\∀ x c,(Itl K a).yld i H x c->g x σ c λf j=>tb { D with nx:=N,ct:=N,bk:=D.nx } f j):=by
 show⟨λi m σ H=>m=xs.length-i/\i<=xs.length/\b i σ H,⟨xs.length,by simp,YM _,n⟩,?_⟩;rintro i m σ H ⟨rfl,r,p⟩;have q:=hl i σ H r p;by_cases h:i<xs.length
 .show .inr ⟨⟨xs,xs[i],q,by simp[h]⟩,b (i+1),λd c t=>⟨xs.length-(i+1),by lk,rfl,h,t⟩,λx c y=>?_⟩;obtain⟨e,y⟩:=y;subst e;show s i x σ _ (y xs q) p
 .have e:i=xs.length:=by lk
  subst e;show .inl ⟨⟨xs,q,yg _⟩,o σ H p⟩
theorem for_tup{K:yf}(b:Nat->St->Hp->Prop)(n:b 0 σ H)(hl:∀ i σ H,i<=xs.length->b i σ H->SqT K H a xs)
  (s:∀ i x σ H,xs[i]?=some x->b i σ H->g x σ H λf j=>tb { D with nx:=b (i+1),ct:=b (i+1),bk:=D.nx } f j) (o:∀ σ H,b xs.length σ H->D.nx σ H) :
  ∃ W:Nat->Nat->St->Hp->Prop,(∃ m,W 0 m σ H)/\∀ i m σ H,W i m σ H ->
   ((Itt K a).stop i H/\D.nx σ H)\/((Itt K a).go i H/\∃ N:St->Hp->Prop,(∀ d c,N d c->∃ l,l<m/\W (i+1) l d c)/\∀ x c,(Itt K a).yld i H x c->g x σ c λf j=>tb { D with nx:=N,ct:=N,bk:=D.nx } f j):=by
 show⟨λi m σ H=>m=xs.length-i/\i<=xs.length/\b i σ H,⟨xs.length,by simp,YM _,n⟩,?_⟩;rintro i m σ H ⟨rfl,r,p⟩;have q:=hl i σ H r p;by_cases h:i<xs.length
 .show .inr ⟨⟨xs,xs[i],q,by simp[h]⟩,b (i+1),λd c t=>⟨xs.length-(i+1),by lk,rfl,h,t⟩,λx c y=>?_⟩;obtain⟨e,y⟩:=y;subst e;show s i x σ _ (y xs q) p
 .have e:i=xs.length:=by lk
  subst e;show .inl ⟨⟨xs,q,yg _⟩,o σ H p⟩
theorem jE(b:Nat->St->Hp->Prop)(l:b 0 σ H)
  (q:∀ i σ H,i<n->b i σ H->g (.int (lo+i)) σ H λf h=>tb { D with nx:=b (i+1),ct:=b (i+1),bk:=D.nx } f h) (o:∀ σ H,b n σ H->D.nx σ H) :
  ∃ W:Nat->Nat->St->Hp->Prop,(∃ m,W 0 m σ H)/\∀ i m σ H,W i m σ H ->
   ((Itr lo n).stop i H/\D.nx σ H)\/((Itr lo n).go i H/\∃ N:St->Hp->Prop,(∀ d a,N d a->∃ j,j<m/\W (i+1) j d a)/\∀ x a,(Itr lo n).yld i H x a->g x σ a λf h=>tb { D with nx:=N,ct:=N,bk:=D.nx } f h):=by
 show⟨λi m σ H=>m=n-i/\i<=n/\b i σ H,⟨n,by simp,YM _,l⟩,?_⟩;rintro i m σ H ⟨rfl,s,p⟩;by_cases c:i<n
 .show .inr ⟨c,b (i+1),λd a r=>⟨n-(i+1),by lk,rfl,c,r⟩,λx a y=>?_⟩;obtain⟨e,y⟩:=y;subst e y;show q i σ _ c p
 .have e:i=n:=by lk
  subst e;show .inl ⟨yg _,o σ H p⟩
abbrev R2:=V->V->Hp->VK->Prop
def OpR(X:Cx)(f:Value->Value->Sem Value)(r:R2):Prop:=
 ∀(pins:List (Addr×Obj)) (s:Shared) (σ:St) (H:Hp) (x y:V) (v u:Value) (Q:VK),Inv X pins σ H s->RelV x v->RelV y u->r x y H Q ->
  wpAny (model X.prog X.w) X.A (f v u) (EP X pins σ Q) X.xe s
def UnR(X:Cx)(f:Value->Sem Value)(r:V->Hp->VK->Prop):Prop:=
 ∀(pins:List (Addr×Obj)) (s:Shared) (σ:St) (H:Hp) (x:V) (v:Value) (Q:VK),Inv X pins σ H s->RelV x v->r x H Q ->
  wpAny (model X.prog X.w) X.A (f v) (EP X pins σ Q) X.xe s
def qag(X:Cx)(f:Value)(r:List V->Hp->VK->Prop):Prop:=
 ∀(pins:List (Addr×Obj)) (s:Shared) (σ:St) (H:Hp) (xs:List V) (us:List Value) (Q:VK),Inv X pins σ H s->Vals xs us->r xs H Q ->
  wpAny (model X.prog X.w) X.A (call f us) (EP X pins σ Q) X.xe s
def tOp(r:R2)(ta tb:TE):TE:=fun σ H Q=>ta σ H λx a=>tb σ a λy b=>r x y b Q
def tUn(r:V->Hp->VK->Prop)(ta:TE):TE:=fun σ H Q=>ta σ H λx a=>r x a Q
def rI(C:Int->Int->Prop)(g:Int->Int->V):R2:=λx y H Q=>∃ i j,x=.int i/\y=.int j/\C i j/\Q (g i j) H
def rI0(g:Int->Int->V):R2:=λx y H Q=>∃ i j,x=.int i/\y=.int j/\Q (g i j) H
def rU(g:Int->V):V->Hp->VK->Prop:=λx H Q=>∃ i,x=.int i/\Q (g i) H
section
variable{X:Cx}{a b c:Expr}{ta tb tc:TE}{pos:Pos}
theorem qhv(m:PE X a ta)(hb:PE X b tb){R:V->V->Hp->Prop}(I:Inv X pins σ H s)
  (h:ta σ H λx i=>tb σ i λy c=>R x y c) {Q:Value->Shared->Prop}
  (n:∀ v u g x y c,Inv X pins σ c g->RelV x v->RelV y u->R x y c->wpAny (model X.prog X.w) X.A (f v u) Q X.xe g) :
  wpAny (model X.prog X.w) X.A (eval a X.env) (λv d=>wpAny (model X.prog X.w) X.A (eval b X.env) (λu e=>wpAny (model X.prog X.w) X.A (f v u) Q X.xe e) X.xe d) X.xe s:=by
 show thn (m pins s σ H _ I h) λv t ⟨x,i,j,q,o⟩=>?_;show thn (hb pins t σ i _ j o) λu g ⟨y,c,l,r,p⟩=>?_;show n v u g x y c l q r p
theorem qC{op:Operator}(f:OpR X (binaryOp op) r)(e:PE X a ta)(hb:PE X b tb):PE X (.BinOp a op b pos) (tOp r ta tb):=by
 intro pins s σ H Q I h;show wpAny_BinOp (qhv e hb I h λv u j x y c d g i q=>f pins j σ c x y v u Q d g i q)
theorem qgH{op:UnaryOp}{r:V->Hp->VK->Prop}(e:UnR X (unaryOp op) r)(d:PE X a ta):PE X (.UnaryOp op a pos) (tUn r ta):=by
 intro pins s σ H Q I h;show UnaryOp_ (thn (d pins s σ H _ I h) λv i ⟨x,b,c,g,f⟩=>e pins i σ b x v Q c g f)
theorem opI{C:Int->Int->Prop}{g:Int->Int->Int}
  (a:∀(i j:Int) (t u:Tok) (s:Shared) (Q:Value->Shared->Prop) (E:Value->Shared->Prop),C i j->Q (.int (g i j) s.toks) { s with toks:=s.toks+1 }->wpAny (model X.prog X.w) X.A (f (.int i t) (.int j u)) Q E s) :
  OpR X f (rI C λi j=>.int (g i j)):=by
 intro pins s σ H x y v u Q I b c h;obtain⟨i,j,rfl,rfl,hc,q⟩:=h;obtain⟨t,rfl⟩:=b;obtain⟨t',rfl⟩:=c;show a i j t t' s _ _ hc ⟨.int (g i j),H,I.tok _,⟨_,rfl⟩,q⟩
theorem qg4{g:Int->Int->Int}
  (a:∀(i j:Int) (t u:Tok) (s:Shared) (Q:Value->Shared->Prop) (E:Value->Shared->Prop),Q (.int (g i j) s.toks) { s with toks:=s.toks+1 }->wpAny (model X.prog X.w) X.A (f (.int i t) (.int j u)) Q E s) :
  OpR X f (rI0 λi j=>.int (g i j)):=by
 intro pins s σ H x y v u Q I b c h;obtain⟨i,j,rfl,rfl,q⟩:=h;obtain⟨t,rfl⟩:=b;obtain⟨t',rfl⟩:=c;show a i j t t' s _ _ ⟨.int (g i j),H,I.tok _,⟨_,rfl⟩,q⟩
theorem qhp{g:Int->Int->Bool}
  (a:∀(i j:Int) (t u:Tok) (s:Shared) (Q:Value->Shared->Prop) (E:Value->Shared->Prop),Q (.bool (g i j)) s->wpAny (model X.prog X.w) X.A (f (.int i t) (.int j u)) Q E s) :
  OpR X f (rI0 λi j=>.bl (g i j)):=by
 intro pins s σ H x y v u Q I b c h;obtain⟨i,j,rfl,rfl,q⟩:=h;obtain⟨t,rfl⟩:=b;obtain⟨t',rfl⟩:=c;show a i j t t' s _ _ ⟨.bl (g i j),H,I,rfl,q⟩
def CDiv(i j:Int):Prop:=0<j/\j<1073741824
def qhL(i j:Int):Prop:=0<=j/\j<=1000000/\i.natAbs<2 ^ 64
def CMul(i j:Int):Prop:=(-(2 ^ 64)<i/\i<2 ^ 64)\/(-(2 ^ 64)<j/\j<2 ^ 64)
theorem CMul.ok{i j:Int}(h:CMul i j):IntMulOk i j:=by
 rcases h with⟨h1,a⟩ | ⟨h1,a⟩
 .show .of_left (intBits_le_64 h1 a)
 .show .of_right (intBits_le_64 h1 a)
theorem two_pow_nn(k:Nat):(0:Int)<=2 ^ k:=by
 rw[two_pow_cast];show Int.natCast_nonneg _
theorem op_add:OpR X (binaryOp .Add) (rI0 λi j=>.int (i+j)):=qg4 λ_ _ _ _ _ _ _ q=>add_int q
theorem qel:OpR X (binaryOp .Sub) (rI0 λi j=>.int (i-j)):=qg4 λ_ _ _ _ _ _ _ q=>sub_int q
theorem op_mul:OpR X (binaryOp .Mult) (rI CMul λi j=>.int (i*j)):=opI λ_ _ _ _ _ _ _ hc q=>mul_int q hc.ok
theorem op_fdiv:OpR X (binaryOp .FloorDiv) (rI CDiv λi j=>.int (i / j)):=opI λi j _ _ _ _ _ hc q=>by
 have h1:(0:Int)<j:=hc.1;have a:j<1073741824:=hc.2;show floordiv_int (by lk) (by rw[Int.fdiv_eq_ediv_of_nonneg i (by lk)];show q) (.inl (PyProof.noPylong_small (by lk)))
theorem zh:OpR X (binaryOp .Mod) (rI (λ_ j=>0<j) λi j=>.int (i % j)):=opI λi j _ _ _ _ _ hc q=>by
 have h1:(0:Int)<j:=hc;show mod_int' (by lk) (by rw[Int.fmod_eq_emod_of_nonneg i (by lk)];show q)
theorem op_pow:OpR X (binaryOp .Pow) (rI qhL λi j=>.int (i ^ j.toNat)):=opI λ_ _ _ _ _ _ _ hc q=>pow_int_small hc.1 hc.2.1 hc.2.2 q
theorem qbQ:OpR X (binaryOp .LShift) (rI qhL λi j=>.int (i*2 ^ j.toNat)):=opI λ_ _ _ _ _ _ _ hc q=>lshift_int_small hc.1 hc.2.1 hc.2.2 q
theorem qda:OpR X (binaryOp .RShift) (rI (λ_ j=>0<=j) λi j=>.int (i / 2 ^ j.toNat)):=opI λi j _ _ _ _ _ hc q =>
 rshift_int hc (by rw[Int.fdiv_eq_ediv_of_nonneg i (two_pow_nn _)];show q)
theorem qdb:OpR X (binaryOp .BitAnd) (rI0 λi j=>.int (Builtin.bitAnd i j)):=qg4 λ_ _ _ _ _ _ _ q=>and_int q
theorem qf2:OpR X (binaryOp .BitOr) (rI0 λi j=>.int (Builtin.bitOr i j)):=qg4 λ_ _ _ _ _ _ _ q=>or_int q
theorem qdc:OpR X (binaryOp .BitXor) (rI0 λi j=>.int (Builtin.bitXor i j)):=qg4 λ_ _ _ _ _ _ _ q=>xor_int q
theorem unI{f:Value->Sem Value}{g:Int->Int}
  (a:∀(i:Int) (t:Tok) (s:Shared) (Q:Value->Shared->Prop) (E:Value->Shared->Prop),Q (.int (g i) s.toks) { s with toks:=s.toks+1 }->wpAny (model X.prog X.w) X.A (f (.int i t)) Q E s) :
  UnR X f (rU λi=>.int (g i)):=by
 intro pins s σ H x v Q I b h;obtain⟨i,rfl,q⟩:=h;obtain⟨t,rfl⟩:=b;show a i t s _ _ ⟨.int (g i),H,I.tok _,⟨_,rfl⟩,q⟩
theorem qe0:UnR X (unaryOp .USub) (rU λi=>.int (-i)):=unI λ_ _ _ _ _ q=>neg_int q
end
def scal:V->V->Bool
 | .non,.non=>true | .non,.int _=>true | .int _,.non=>true | .non,.bl _=>true | .bl _,.non=>true | .non,.str _=>true | .str _,.non=>true
 | .int _,.int _=>true | .bl _,.bl _=>true | .str _,.str _=>true | .byt _,.byt _=>true
 | .int _,.str _=>true | .str _,.int _=>true | .bl _,.str _=>true | .str _,.bl _=>true
 | _,_=>false
def rEq:R2:=λx y H Q=>scal x y=true/\Q (.bl (decide (x=y))) H
theorem dec_bl{i j:Bool}:decide (V.bl i=V.bl j)=(i==j):=by
 rw[yW];simp
section
variable{X:Cx}{a b c:Expr}{ta tb tc:TE}{pos:Pos}
theorem qem{Q:VK}{k k':Bool}(I:Inv X pins σ H s)(q:Q (.bl k) H)(e:k=k'):EP X pins σ Q (.bool k') s:=by
 subst e;show⟨.bl k,H,I,rfl,q⟩
theorem qdS:OpR X (compareOp .Lt) (rI0 λi j=>.bl (decide (i<j))):=qhp λ_ _ _ _ _ _ _ q=>lt_int q
theorem op_le:OpR X (compareOp .LtE) (rI0 λi j=>.bl (decide (i<=j))):=qhp λ_ _ _ _ _ _ _ q=>le_int q
theorem qe1:OpR X (compareOp .Gt) (rI0 λi j=>.bl (decide (j<i))):=qhp λ_ _ _ _ _ _ _ q=>gt_int q
theorem op_ge:OpR X (compareOp .GtE) (rI0 λi j=>.bl (decide (j<=i))):=qhp λ_ _ _ _ _ _ _ q=>ge_int q
theorem op_isN:OpR X (compareOp .Is) (λx y H Q=>y=.non/\Q (.bl (decide (x=.non))) H):=by
 intro pins s σ H x y v u Q I a b h;obtain⟨rfl,q⟩:=h;cases b;show is_none_gen (qem I q ?_);cases x<;>first
  | (cases a;rfl)
  | (obtain⟨t,rfl⟩:=a;rfl)
theorem qe2:OpR X (compareOp .IsNot) (λx y H Q=>y=.non/\Q (.bl (!decide (x=.non))) H):=by
 intro pins s σ H x y v u Q I a b h;obtain⟨rfl,q⟩:=h;cases b;show isnot_none_gen (qem I q ?_);cases x<;>first
  | (cases a;rfl)
  | (obtain⟨t,rfl⟩:=a;rfl)
theorem qv(b:Expr)(h:op≠.In:=by decide)(d:op≠.NotIn:=by decide):behindInMarks op b=false:=by
 have a:(op==CmpOp.In)=false:=by cases op<;>first | rfl | show absurd rfl h
 have c:(op==CmpOp.NotIn)=false:=by cases op<;>first | rfl | show absurd rfl d
 cases b<;>simp[behindInMarks,a,c]
theorem jL(g:OpR X (compareOp op) r)(e:PE X a ta)(hb:PE X b tb)(f:behindInMarks op b=false):PE X (.Compare a [op] [b] pos) (tOp r ta tb):=by
 intro pins s σ H Q I h;show wpAny_Compare1 (qhv e hb I h λv u l x y c d i j q=>g pins l σ c x y v u Q d i j q) f
def qf3(t:TE):TT:=fun σ H Q=>t σ H λx a=>∃ k,x=.bl k/\Q k a
theorem qm(o:OpR X (compareOp op) r)(m:PE X a ta)(hb:PE X b tb)(n:behindInMarks op b=false):PT X (.Compare a [op] [b] pos) (qf3 (tOp r ta tb)):=by
 intro pins s σ H Q I h
 show wpAny_isTrue_Compare1 (thn (m pins s σ H _ I h) λv C ⟨x,d,i,w,p⟩=>thn (hb pins C σ d _ i p) λu D ⟨y,f,j,A,q⟩ =>
  thn (o pins D σ f x y v u _ j w A q) λc E ⟨z,g,l,B,k,e,t⟩=>?_) n
 subst e;cases B;show YW ⟨g,l,t⟩
def qe3(r r':R2)(ta tb tc:TE):TE:=fun σ H Q=>ta σ H λx b=>tb σ b λy c=>r x y c λz a=>∃ k,z=.bl k /\
 (if k=true then tc σ a λe d=>r' y e d Q else Q (.bl false) a)
theorem qen(B:OpR X (compareOp op) r)(f:OpR X (compareOp op') r')(w:PE X a ta)(hb:PE X b tb)(hc:PE X c tc)
  (A:lastMarks [op,op'] [b,c]=false:=by with_unfolding_all rfl):PE X (.Compare a [op,op'] [b,c] pos) (qe3 r r' ta tb tc):=by
 intro pins s σ H Q I h
 show Compare_chain (thn (w pins s σ H _ I h) λv K ⟨x,m,p,F,C⟩=>chain_link (thn (hb pins K σ m _ p C) λu L ⟨y,n,q,l,D⟩ =>
  thn (B pins L σ n x y v u _ q F l D) λd M ⟨z,g,i,G,k,e,j⟩=>?_)) A
 subst e;cases G;show YW ?_
 cases k with
 | false=>show ite_ff ⟨.bl false,g,i,rfl,j⟩
 | true=>show ite_tt (chain_last (thn (hc pins M σ g _ i j) λO N ⟨P,o,t,J,E⟩=>f pins N σ o y P u O Q t l J E))
theorem pt_chain(F:OpR X (compareOp op) r)(f:OpR X (compareOp op') r')(D:PE X a ta)(hb:PE X b tb)(hc:PE X c tc)
  (E:lastMarks [op,op'] [b,c]=false:=by with_unfolding_all rfl):PT X (.Compare a [op,op'] [b,c] pos) (qf3 (qe3 r r' ta tb tc)):=by
 intro pins s σ H Q I h
 show isTrue_chain (thn (D pins s σ H _ I h) λv S ⟨x,m,q,N,J⟩=>test_link (thn (hb pins S σ m _ q J) λu T ⟨y,n,t,l,K⟩ =>
  thn (F pins T σ n x y v u _ t N l K) λd U ⟨z,g,i,O,k,e,j⟩=>?_)) E
 subst e;cases O;show YW ?_
 cases k with
 | false =>
  obtain⟨k',B,G⟩:=j;cases B;show ite_ff ⟨g,i,G⟩
 | true =>
  show ite_tt (test_last (thn (hc pins U σ g _ i j) λY W ⟨Z,o,w,P,L⟩=>thn (f pins W σ o y Z u Y _ w l P L) λd' s5 ⟨z2,p,A,R,k2,C,M⟩=>?_));subst C;cases R;show YW ⟨p,A,M⟩
theorem qct:(sizeLine:Nat)<2 ^ 63:=by rw[xR];decide
theorem op_add_str:OpR X (binaryOp .Add) (λx y H Q=>∃ i j,x=.str i/\y=.str j/\i.length+j.length<=sizeLine/\Q (.str (i++j)) H):=by
 intro pins s σ H x y v u Q I b c h;obtain⟨i,j,rfl,rfl,a,q⟩:=h;obtain⟨t,rfl⟩:=b;obtain⟨t',rfl⟩:=c;show add_str (λt' tk=>⟨.str (i++j),H,I.tok _,⟨_,rfl⟩,q⟩) a
theorem qcM{x:V}(r:Vals [x] us):∃ u,us=[u]/\RelV x u:=by
 cases r with
 | cons r1 r2=>cases r2;show⟨_,rfl,r1⟩
theorem qf4{x:V}(r:Vals [x,y] us):∃ u a,us=[u,a]/\RelV x u/\RelV y a:=by
 cases r with
 | cons r1 r2 =>
  cases r2 with
  | cons r3 r4=>cases r4;show⟨_,_,rfl,r1,r3⟩
theorem qbR(hc:X.calm=true):qag X (.builtin "max") (λxs H Q=>∃ i j,xs=[.int i,.int j]/\Q (.int (if j>i then j else i)) H):=by
 intro pins s σ H xs us Q I r h;obtain⟨i,j,rfl,q⟩:=h;obtain⟨u,b,rfl,⟨t,rfl⟩,⟨t',rfl⟩⟩:=qf4 r;show max_two_ints (I.ok.hd hc) λh' tk k=>⟨_,H,I.kept k,?_,q⟩;by_cases a:j>i
 .rw [yG a,yG a];show⟨_,rfl⟩
 .rw [yC a,yC a];show⟨_,rfl⟩
theorem qbS(hc:X.calm=true):qag X (.builtin "min") (λxs H Q=>∃ i j,xs=[.int i,.int j]/\Q (.int (if j<i then j else i)) H):=by
 intro pins s σ H xs us Q I r h;obtain⟨i,j,rfl,q⟩:=h;obtain⟨u,b,rfl,⟨t,rfl⟩,⟨t',rfl⟩⟩:=qf4 r;show min_two_ints (I.ok.hd hc) λh' tk k=>⟨_,H,I.kept k,?_,q⟩;by_cases a:j<i
 .rw [yG a,yG a];show⟨_,rfl⟩
 .rw [yC a,yC a];show⟨_,rfl⟩
end
structure ObjM(h:Heap)(x dx C:Addr)(mA:Str->Option Value):Prop where
 obj:h.get? x=some (PySem.W.instObj C dx)
 ns:h.Ns1 dx mA
 ne:dx≠x
theorem qdd(n:h.Ns1 dx mA):∃ od,h.get? dx=some od/\∀ name,PySem.W.lookIn name od=some (mA name):=by
 obtain⟨o,es,ep,i,d,f,_,g⟩:=n;show⟨o,i,λname=>?_⟩;have e:=g name;unfold nsFind findBy at e;rw[<- Array.find?_toList] at e;unfold PySem.W.lookIn;rw[d];dsimp only;split
 .rename_i y q
  rw[q] at e;show congrArg some e
 .rename_i q
  rw[q] at e
  have a:es.toList.any (·.refKey)=false:=by
   rw[List.any_eq_false];intro y j;obtain⟨z,t,b⟩:=f y (Array.mem_toList_iff.mp j);simp[DictEntry.refKey,b]
  have c:¬ es.toList.any (·.refKey)=true:=by rw[a];show Ys
  rw[yC c];show congrArg some e
theorem ObjM.look{x:Addr}(I:ObjM h x dx C mA):∃ od,PySem.W.InstAt h x (PySem.W.instObj C dx) C (some od)/\∀ name,PySem.W.lookIn name od=some (mA name):=
 let ⟨od,ho,hl⟩:=qdd I.ns
 ⟨od,⟨I.obj,rfl,rfl,ho⟩,hl⟩
section
variable{prog:Program}{w:World}{A:Around}{E:Value->Shared->Prop}{s:Shared}{K:yf}{x dx C f:Addr}{mA:Str->Option Value}{name:Str}{v:Value}
theorem get_map{a:Bool}{Q:Value->Shared->Prop}(X:K.In s.heap)(I:ObjM s.heap x dx C mA)(d:PySem.W.plainGet K C name=true)(e:PySem.W.hasDictIn K C=true)
  (c:PySem.W.findIn K (.ref C) name=some none) (hv:mA name=some v) (b:PySem.W.handedIn v=true) (h:Q v { s with toks:=s.toks+1 }) :
  wpAny (model prog w) A (getAttr (.ref x) name a) Q E s:=by
 obtain⟨od,J,hl⟩:=I.look;show PySem.W.get_value X J (XT d).1 (PySem.W.findObj_own e c rfl (by rw[hl,hv])) b h
theorem get_meth{Q:Value×List Value->Shared->Prop}(X:K.In s.heap)(I:ObjM s.heap x dx C mA)(a:PySem.W.plainGet K C name=true)
  (b:PySem.W.findIn K (.ref C) name=some (some (.ref f))) (c:PySem.W.isFn K (.ref f)=true) (hv:mA name=none) (h:Q (.ref f,[.ref x]) s) :
  wpAny (model prog w) A (getMethod (.ref x) name pl) Q E s:=by
 obtain⟨od,J,hl⟩:=I.look;show PySem.W.method_fn X J (XT a).1 (XT a).2 b (Yo.mp c) (by show(PySem.W.lookIn name od).map (·.isSome)=some false;rw[hl,hv];rfl) h
theorem set_map{ns:LS}{Q:Unit->Shared->Prop}(X:K.In s.heap)(I:ObjM s.heap x dx C mA)
  (o:PySem.W.findIn K (.ref C) "__setattr__"=some (some (.builtin "object.__setattr__"))) (n:PySem.W.plainOver K C=true) (p:PySem.W.takerIn K C name=some none) (m:PySem.W.hasDictIn K C=true)
  (hw:PySem.Within mA ns) (hsz:ns.length<=sizeLine)
  (h:∀ h',ObjM h' x dx C (λy=>if y=name then some v else mA y)->Heap.SameBut dx s.heap h'->Q () { s with heap:=h',toks:=s.toks+2 }) :
  wpAny (model prog w) A (setAttr (.ref x) name v) Q E s:=by
 obtain⟨od,J,hl⟩:=I.look;show PySem.W.set_plain X J o (PySem.W.osa_open (s:={ s with toks:=s.toks+1 }) (r:=none) X J n p λb=>?_);obtain⟨t,hc,f⟩:=xK m;have q:s.heap.get? x=some ⟨.ref C,some dx,.plain,#[]⟩:=I.obj;show yr (yE (yr (yr (wpAny_loadPart q (yr (PySem.W.Looks.here (s:={ s with toks:=s.toks+1 }) (XU X hc) ?_))))));rw[f];show yE (a:=some dx) (yr (yE (yr ?_)));show wpAny_nsSet1 (s:={ s with toks:=s.toks+1 }) I.ns λh' c d=>?_;obtain⟨u,l,j,i,g,e⟩:=c.count (PySem.Within.cons name v hw);show yr (wpAny_lookBehind i (by rw[g];show pastItsLine_dict (yh e (by rw[Yd];lk))) ?_);show yE (h _ ⟨(d.2 _ (YB I.ne)).trans I.obj,c,I.ne⟩ d)
theorem make_map{vs:List Value}(X:K.In s.heap)(c:PySem.W.makesIn K C=true)
  (b:PySem.W.findIn K (.ref C) "__init__"=some (some (.ref f))) (a:PySem.W.typeIn K (.ref f)=some (.type "function"))
  (h:codeAny (model prog w) (A.under (.builtin "type.__call__" ⟨.ref C::vs,kw⟩)) (.call (.ref f) ⟨.ref (s.heap.objs.size+1)::vs,kw⟩) (PySem.W.InitBack (s.heap.objs.size+1) R)
   { s with heap:=(s.heap.push PySem.W.emptyDict).push (PySem.W.instObj C s.heap.objs.size) }) :
  codeAny (model prog w) A (.call (.ref C) ⟨vs,kw⟩) R s:=by
 obtain⟨e,g,d,t,i⟩:=s;show PySem.W.make_core (kf X c) (YU X b) (λself=>PySem.W.bind_fn X self a) (.inl rfl) h
theorem make_map0(X:K.In s.heap)(b:PySem.W.makesIn K C=true)
  (a:PySem.W.findIn K (.ref C) "__init__"=some (some (.builtin "object.__init__")))
  (hb:∀ self,PySem.W.Looks (model prog w) s.heap (bindSpecial (.builtin "object.__init__") self) (.builtin "object.__init__",[self]))
  (h:codeAny (model prog w) (A.under (.builtin "type.__call__" ⟨[.ref C],[]⟩)) (.call (.builtin "object.__init__") ⟨[.ref (s.heap.objs.size+1)],[]⟩) (PySem.W.InitBack (s.heap.objs.size+1) R)
   { s with heap:=(s.heap.push PySem.W.emptyDict).push (PySem.W.instObj C s.heap.objs.size) }) :
  codeAny (model prog w) A (.call (.ref C) ⟨[],[]⟩) R s:=by
 obtain⟨c,g,d,t,e⟩:=s;show PySem.W.make_core (kf X b) (YU X a) hb (.inr ⟨rfl,rfl⟩) h
end
def jC(f:Str)(v:V):List (Str×V)->List (Str×V)
 | []=>[(f,v)]
 | (g,x)::r=>if g=f then(g,v)::r else(g,x)::jC f v r
theorem qD(f g:Str)(v:V):∀ fs:List (Str×V),(jC f v fs).lookup g=if g=f then some v else fs.lookup g
 | []=>by
  show List.lookup g [(f,v)]=_;by_cases h:g=f
  .have hb:(g==f)=true:=Yo.mpr h;simp only[List.lookup,hb,yG h]
  .have hb:(g==f)=false:=YA.mpr h;simp only[List.lookup,hb,yC h]
 | (k,x)::r=>by
  have b:=qD f g v r;rw[show jC f v ((k,x)::r)=(if k=f then(k,v)::r else(k,x)::jC f v r) from rfl];by_cases a:k=f
  .rw [yG a];by_cases h:g=k
   .have hb:(g==k)=true:=Yo.mpr h;simp only[List.lookup,hb,yG (h.trans a)]
   .have hb:(g==k)=false:=YA.mpr h;simp only[List.lookup,hb,yC (λe:g=f=>h (e.trans a.symm))]
  .rw [yC a];by_cases h:g=k
   .have hb:(g==k)=true:=Yo.mpr h;simp only[List.lookup,hb,yC (λe:g=f=>a (h.symm.trans e))]
   .have hb:(g==k)=false:=YA.mpr h;simp only[List.lookup,hb];show b
theorem qbT(f:Str)(v:V):∀ fs:List (Str×V),f∈(jC f v fs).map (·.1)/\∀ g,g∈fs.map (·.1)->g∈(jC f v fs).map (·.1)
 | []=>⟨by simp[jC],λg h=>by simp at h⟩
 | (k,x)::r=>by
  obtain⟨b,c⟩:=qbT f v r;rw[show jC f v ((k,x)::r)=(if k=f then(k,v)::r else(k,x)::jC f v r) from rfl];by_cases a:k=f
  .rw [yG a];subst a;show⟨by simp,λg h=>by simpa using h⟩
  .rw [yC a];show⟨?_,λg h=>?_⟩
   .rw [Yk];show yy _ b
   .rw [Yk] at h ⊢;rcases yN.mp h with e | e
    .show yN.mpr (.inl e)
    .show yy _ (c g e)
theorem jW(f:Str)(v:V):∀ fs:List (Str×V),(jC f v fs).length<=fs.length+1
 | []=>by simp[jC]
 | (k,x)::r=>by
  have b:=jW f v r;rw[show jC f v ((k,x)::r)=(if k=f then(k,v)::r else(k,x)::jC f v r) from rfl];by_cases a:k=f
  .rw [yG a,Yd,Yd];lk
  .rw [yC a,Yd,Yd];lk
theorem RelO.some_of{o:Option Value}(r:RelO (some v) o):∃ u,o=some u/\RelV v u:=by
 cases o with
 | none=>show(show False from r).elim
 | some u=>show⟨u,rfl,r⟩
theorem RelO.none_of{o:Option Value}(r:RelO none o):o=none:=by
 cases o with
 | none=>rfl
 | some u=>show(show False from r).elim
theorem qde(r:RelV v u):PySem.W.handedIn u=true:=by
 cases v with
 | non=>cases (show u=Value.none from r);rfl
 | bl b=>cases (show u=Value.bool b from r);rfl
 | int i=>obtain⟨t,e⟩:=(show ∃ t,u=Value.int i t from r);cases e;rfl
 | str x=>obtain⟨t,e⟩:=(show ∃ t,u=Value.str x t from r);cases e;rfl
 | byt b=>obtain⟨t,e⟩:=(show ∃ t,u=Value.bytes b t from r);cases e;rfl
 | flt b=>obtain⟨t,e⟩:=(show ∃ t,u=Value.float b t from r);cases e;rfl
 | ref a=>cases (show u=Value.ref a from r);rfl
 | ty n=>cases (show u=Value.type n from r);rfl
section
variable{P:Program}{w:World}{H H':Hp}{h h':Heap}{a C dx:Addr}{fs fs':List (Str×V)}
theorem qbl(b:HOk P w H h)(e:H a=some (.ins C dx fs)):∃ mA,ObjM h a dx C mA/\(∀ f,RelO (fs.lookup f) (mA f))/\PySem.Within mA (fs.map (·.1))/\fs.length<=1000/\H dx=some (.own a):=by
 obtain⟨d,z,ne,c,mA,n,r,q⟩:=(show ObjOk P w H h a (.ins C dx fs) from b a _ e);show⟨mA,⟨c,n,ne⟩,r,q,z,d⟩
end
structure Cls(K:yf)(C:Addr):Prop where
 pg:PySem.W.plainGet K C Str.empty=true
 hd:PySem.W.hasDictIn K C=true
 po:PySem.W.plainOver K C=true
 sa:PySem.W.findIn K (.ref C) "__setattr__"=some (some (.builtin "object.__setattr__"))
theorem Cls.get{K:yf}(c:Cls K C)(f:Str):PySem.W.plainGet K C f=true:=c.pg
def NoAttr(K:yf)(C:Addr)(f:Str):Prop:=PySem.W.findIn K (.ref C) f=some none
theorem NoAttr.taker{K:yf}{f:Str}(n:NoAttr K C f):PySem.W.takerIn K C f=some none:=by
 unfold PySem.W.takerIn;rw[show PySem.W.findIn K (.ref C) f=some none from n];rfl
structure Con(K:yf)(C:Addr)(f:Str)(v:V)(u:Value):Prop where
 at_:PySem.W.findIn K (.ref C) f=some (some u)
 rel:RelV v u
 get:PySem.W.specialIn K u "__get__"=some none
 cp:PySem.W.copiedNames.contains f=false
structure Meth(K:yf)(C:Addr)(m:Str)(f:Addr):Prop where
 at_:PySem.W.findIn K (.ref C) m=some (some (.ref f))
 fn:PySem.W.isFn K (.ref f)=true
 kp:PySem.W.keepIn K (.ref f)=true
section
variable{X:Cx}{pins:List (Addr×Obj)}{σ:St}{H:Hp}{s:Shared}{a C dx:Addr}{fs:List (Str×V)}{f:Str}{v:V}{A:Around}{E:Value->Shared->Prop}
theorem getattr_ok{b:Bool}{Q:Value->Shared->Prop}(I:Inv X pins σ H s)(e:H a=some (.ins C dx fs))(c:Cls X.K C)(n:NoAttr X.K C f)(l:fs.lookup f=some v)
  (h:∀ u s',Inv X pins σ H s'->RelV v u->Q u s'):wpAny (model X.prog X.w) A (getAttr (.ref a) f b) Q E s:=by
 obtain⟨mA,O,r,_,_,_⟩:=qbl I.hok e;obtain⟨u,g,d⟩:=RelO.some_of (v:=v) (o:=mA f) (by rw[<- l];show r f);show get_map I.kIn O (c.get f) c.hd n g (qde d) (h u _ (I.tok _) d)
theorem qcu{m:Str}{g:Addr}{Q:Value×List Value->Shared->Prop}(I:Inv X pins σ H s)(e:H a=some (.ins C dx fs))(c:Cls X.K C)(k:Meth X.K C m g)(l:fs.lookup m=none)
  (h:Q (.ref g,[.ref a]) s):wpAny (model X.prog X.w) A (getMethod (.ref a) m pl) Q E s:=by
 obtain⟨mA,O,r,_,_,_⟩:=qbl I.hok e;have b:mA m=none:=RelO.none_of (by rw[<- l];show r m);show get_meth I.kIn O (c.get m) k.at_ k.fn b h
theorem setattr_ok{Q:Unit->Shared->Prop}(I:Inv X pins σ H s)(e:H a=some (.ins C dx fs))(c:Cls X.K C)(n:NoAttr X.K C f)(hl:fs.length<1000)(t:RelV y u)
  (h:∀ s',Inv X pins σ (upd H a (.ins C dx (jC f y fs))) s'->Q () s'):wpAny (model X.prog X.w) A (setAttr (.ref a) f u) Q E s:=by
 obtain⟨mA,O,r,j,_,i⟩:=qbl I.hok e;have p:(fs.map (·.1)).length<=sizeLine:=by rw[ya,xR];lk
 show set_map I.kIn O c.sa c.po n.taker c.hd j p λh' d v=>h _ ?_;have l:∃ o,h'.get? dx=some o:=let ⟨o,_,_,e',_⟩:=d.ns;⟨o,e'⟩;show I.write (x:=a) (e:=dx) (by rw[e];show YL) (.inr i) (λb q hb z=>(v.2 b hb).trans z) l ?_;show⟨by rw[qj O.ne];show i,?_,O.ne,d.obj,_,d.ns,λg=>?_,λg m=>?_⟩
 .have:=jW f y fs;lk
 .show RelO ((jC f y fs).lookup g) (if g=f then some u else mA g);rw[qD];by_cases q:g=f
  .rw [yG q,yG q];show t
  .rw [yC q,yC q];show r g
 .by_cases q:g=f
  .rw [q];show(qbT f y fs).1
  .show(qbT f y fs).2 g (j g λz=>m ?_);show(if g=f then some u else mA g)=none;rw[yC q];show z
theorem Inv.made(I:Inv X pins σ H s):Inv X pins σ (upd (upd H s.heap.objs.size (.own (s.heap.objs.size+1))) (s.heap.objs.size+1) (.ins C s.heap.objs.size []))
  { s with heap:=(s.heap.push PySem.W.emptyDict).push (PySem.W.instObj C s.heap.objs.size) }:=by
 have c:(s.heap.push PySem.W.emptyDict).get? s.heap.objs.size=some PySem.W.emptyDict:=yY s.heap rfl
 have f:((s.heap.push PySem.W.emptyDict).push (PySem.W.instObj C s.heap.objs.size)).get? (s.heap.objs.size+1)=some (PySem.W.instObj C s.heap.objs.size):=by
  have:=yY (s.heap.push PySem.W.emptyDict) (o:=PySem.W.instObj C s.heap.objs.size) rfl
  rwa[xL] at this
 have g:(s.heap.push PySem.W.emptyDict).Ns s.heap.objs.size (λ_=>none):=⟨PySem.W.emptyDict,#[],_,c,rfl,(λe h=>absurd h (by simp)),λ_=>rfl⟩;have d:=I.laid (a:=s.heap.objs.size) (o:=.own (s.heap.objs.size+1)) (h':=s.heap.push PySem.W.emptyDict) (t':=s.toks) (λb u q=>yz _ q) (yg _) ⟨_,c⟩;show d.laid (a:=s.heap.objs.size+1) (o:=.ins C s.heap.objs.size []) (t':=s.toks) (λb u q=>yz _ q) (Nat.le_of_eq (xL _ _)) ?_;have ne:s.heap.objs.size≠s.heap.objs.size+1:=Yj (XA _);show⟨by rw[qj ne,qb],YM _,ne,f,λ_=>none,(Heap.Ns1.of_empty g).at λo q=>yz _ q,λ_=>YL,λy i=>absurd rfl i⟩
theorem attr_of{prog:Program}{env:Env}{f:Str}{Q:Value->Shared->Prop}(hb:attributeBase e f env (eval e env)=eval e env)
  (h:wpAny (model prog w) A (eval e env) (λo a=>wpAny (model prog w) A (getAttr o f true) Q E a) E s):wpAny (model prog w) A (eval (.Attribute e f pos) env) Q E s:=
 Attribute_any_ h (by rw[arm_eval_Attribute,hb])
end
section
variable{X:Cx}{o e value:Expr}{f:Str}{pos pos' tpos:Pos}{ta tv:TE}
end
section
variable{X:Cx}{pins:List (Addr×Obj)}{σ:St}{H:Hp}{s:Shared}{A:Around}{E:Value->Shared->Prop}{Q:Value->Shared->Prop}{c:Value}{b:Bool}
inductive TyOf(K:yf)(H:Hp):V->Value->Prop where
 | non:TyOf K H .non (.type "NoneType")
 | bl (x:Bool):TyOf K H (.bl x) (.type "bool")
 | int (i:Int):TyOf K H (.int i) (.type "int")
 | str (x:Str):TyOf K H (.str x) (.type "str")
 | flt (x:UInt64):TyOf K H (.flt x) (.type "float")
 | lst {a:Addr} {xs:List V} (e:H a=some (.lst xs)):TyOf K H (.ref a) (.type "list")
 | frz {a:Addr} {o:Obj} {xs:List V} (e:H a=some (.frz o (.lst xs))):TyOf K H (.ref a) (.type "list")
 | tup {a:Addr} {xs:List V} (e:H a=some (.tup xs)):TyOf K H (.ref a) (.type "tuple")
 | dK {a:Addr} {kvs:List (Key×V)} (e:H a=some (.dK kvs)):TyOf K H (.ref a) (.type "dict")
 | dT {a:Addr} {kvs:List (List Key×V)} (e:H a=some (.dT kvs)):TyOf K H (.ref a) (.type "dict")
 | ins {a C dx:Addr} {fs:List (Str×V)} (e:H a=some (.ins C dx fs)) (cl:Cls K C) (ha:PySem.W.findIn K (.ref C) "__class__"=some (some (.builtin "object.__class__")))
   (hn:PySem.W.specialIn K (.builtin "object.__class__") "__get__"=some (some (.builtin "getset_descriptor.__get__"))) (htk:PySem.W.takesIn K (.builtin "object.__class__")=some true)
   (hm:PySem.W.mroIn K C (.type "object")=some true):TyOf K H (.ref a) (.ref C)
end
structure Room(k:Nat)(A:Around):Prop where
 hd:A.handled=none
 dp:A.depth+3*k+5<recursionLimit
 un:A.units+16*k+200<cLine
 gd:A.guards=some []
theorem Room.mono{k:Nat}(r:Room k A)(h:j<=k):Room j A:=⟨r.hd,by have:=r.dp;lk,by have:=r.un;lk,r.gd⟩
theorem Room.deeper{k:Nat}(r:Room (k+1) A)(env:Env):Room k (A.deeper env):=
 ⟨r.hd,by have:=r.dp;show A.depth+1+3*k+5<_;lk,by have:=r.un;show A.units+3+16*k+200<_;lk,r.gd⟩
theorem make_depth:(A.under (.builtin "type.__call__" ⟨.ref C::us,kw⟩)).depth=A.depth+1:=by
 first | rfl | simp[Around.under,Code.weight,Code.isCreation,Code.isGuard,Code.isCaller,Code.frames,Code.isFrame,guardIds]
theorem make_units:(A.under (.builtin "type.__call__" ⟨.ref C::us,kw⟩)).units=A.units+1:=by
 first | rfl | simp[Around.under,Code.cUnits,Code.frames,Code.isFrame]
theorem make_guards:(A.under (.builtin "type.__call__" ⟨.ref C::us,kw⟩)).guards=A.guards:=by
 first | rfl | simp[Around.under,Code.guards,Code.isGuard,guardIds,pushGuards]
theorem Room.make{k:Nat}(r:Room (k+1) A)(C:Addr)(us:List Value)(kw:List (Str×Value)):Room k (A.under (.builtin "type.__call__" ⟨.ref C::us,kw⟩)):=
 ⟨r.hd,by have:=r.dp;rw[make_depth];lk,by have:=r.un;rw[make_units];lk,by rw[make_guards];show r.gd⟩
theorem Room.depth{k:Nat}(r:Room k A):A.depth<recursionLimit:=by have:=r.dp;lk
def qgI:TA:=λ_ H Q=>Q [] H
def qak(ta:TE)(c:TA):TA:=fun σ H Q=>ta σ H λx a=>c σ a λxs b=>Q (x::xs) b
section
variable{X:Cx}{e:Expr}{es:List Expr}{te:TE}{t:TA}{pos:Pos}
theorem qd:PA X [] qgI:=λ_ _ _ _ H Q I h=>Calls.spliced_nil ⟨[],H,I,.nil,h⟩
theorem qa(f:PE X e te)(g:PA X es t)(i:starEach (e::es) X.env=(false,eval e X.env)::starEach es X.env:=by rfl):PA X (e::es) (qak te t):=by
 intro pos pins s σ H Q I h;rw[i];show wpAny _ _ (spliced ((false,eval e X.env)::backTo pos (starEach es X.env))) _ _ s;show XV (thn (f pins s σ H _ I h) λu o ⟨x,a,c,m,j⟩=>?_);show thn (g pos pins o σ a _ c j) λus p ⟨xs,b,d,n,l⟩=>⟨x::xs,b,d,.cons m n,l⟩
inductive NewT(xs:List V)(H:Hp)(Q:VK):Prop|mk (_:xs.length<=sizeLine) (_:∀ p,H p=none->Q (.ref p) (upd H p (.tup xs)))
inductive NewL(xs:List V)(H:Hp)(Q:VK):Prop|mk (_:xs.length<=sizeLine) (_:∀ p,H p=none->Q (.ref p) (upd H p (.lst xs)))
def qhM(t:TA):TE:=fun σ H Q=>t σ H λxs a=>NewT xs a Q
def qhN(t:TA):TE:=fun σ H Q=>t σ H λxs a=>NewL xs a Q
theorem jD{x1}(h:PA X es t):PE X (.Tuple es x1 pos) (qhM t):=by
 intro pins s σ H Q I g;show wpAny_Tuple_spliced (thn (h pos pins s σ H _ I g) λus a ⟨xs,c,d,r,z,q⟩=>⟨by rw[<- r.length];show z,?_⟩);have f:c a.heap.objs.size=none:=d.hok.fresh (yg _);show⟨.ref a.heap.objs.size,upd c a.heap.objs.size (.tup xs),d.laid (t':=a.toks) (λb u e=>yz _ e) (yg _) ?_,rfl,q _ f⟩;show⟨z,us,r,⟨_,yY _ rfl,rfl,_,rfl⟩⟩
theorem qZ(h:PA X es t):PE X (.List es pos) (qhN t):=by
 intro pins s σ H Q I g;show wpAny_List_spliced (thn (h pos pins s σ H _ I g) λus a ⟨xs,c,d,r,z,q⟩=>⟨by rw[<- r.length];show z,?_⟩);have f:c a.heap.objs.size=none:=d.hok.fresh (yg _);show⟨.ref a.heap.objs.size,upd c a.heap.objs.size (.lst xs),d.laid (t':=a.toks) (λb u e=>yz _ e) (yg _) ?_,rfl,q _ f⟩;show⟨z,us,0,r,yY _ rfl⟩
end
abbrev Sp:=List V->Hp->VK->XK->Prop
abbrev CXT:=List Env->Hp->Shared->XK->Value->Shared->Prop
structure Env0(P:Program)(w:World)(K:yf)(mg:Str->Option Value)(base:Heap)(A:Around)(outer:List Env)(s:Shared)(H:Hp):Prop where
 frames:A.frames=some outer
 mod:Mod K mg base
 bs:∀ b o,base.get? b=some o->s.heap.get? b=some o/\H b=none
 bsz:base.objs.size<=s.heap.objs.size
 funs:s.heap.FunFrames base outer
 frf:∀ b∈frs outer,H b=none
 hok:HOk P w H s.heap
 bare:AllBare s.gens
def CE(outer:List Env)(P:Program)(w:World)(H:Hp)(s:Shared)(Q:VK)(u:Value)(s':Shared):Prop:=
 ∃ v a,s'.os=s.os/\AllBare s'.gens/\Un (frs outer) [] H a s.heap s'.heap/\HOk P w a s'.heap/\RelV v u/\Q v a
def CR(CX:CXT)(outer:List Env)(P:Program)(w:World)(H:Hp)(s:Shared)(Q:VK)(E:XK)(r:Result)(s':Shared):Prop:=
 match r with
 | .ok (.ret u)=>CE outer P w H s Q u s'
 | .ok _=>False
 | .error e=>CX outer H s E e s'
structure FnOk(P:Program)(w:World)(K:yf)(mg:Str->Option Value)(base:Heap)(CX:CXT)(k:Nat)(f:Addr)(fd:FuncData)(ps:LS)(sp:Sp):Prop where
 len:∀ vs H Q E,sp vs H Q E->vs.length=ps.length
 run:∀(A:Around) (outer:List Env) (s:Shared) (H:Hp) (args:Args) (us:List Value) (vs:List V) (Q:VK) (E:XK),Room k A->Env0 P w K mg base A outer s H->BindsTo s fd args (ps.zip us)->Vals vs us->sp vs H Q E ->
  codeAny (model P w) A (.call (.ref f) args) (CR CX outer P w H s Q E) s
theorem Env0.make{K:yf}(e:Env0 P w K mg base A outer s H)(C:Addr)(us:List Value)(kw:List (Str×Value)) :
  Env0 P w K mg base (A.under (.builtin "type.__call__" ⟨.ref C::us,kw⟩)) outer s H:=⟨by first | show e.frames | (simpa [Around.under,Code.envs,Code.isFrame,pushEnvs] using e.frames),e.mod,e.bs,e.bsz,e.funs,e.frf,e.hok,e.bare⟩
section
variable{X:Cx}{pins:List (Addr×Obj)}{σ:St}{H:Hp}{s s':Shared}
theorem Inv.env0(I:Inv X pins σ H s):Env0 X.prog X.w X.K X.mg X.base X.A X.stack s H:=
 ⟨I.ok.frames,I.ok.mod,I.bs,yh I.ok.bsz I.sz,I.stack,I.stkFree,I.hok,I.bare⟩
theorem Inv.after{Q:VK}(I:Inv X pins σ H s)(h:CE X.stack X.prog X.w H s Q u s'):EP X pins σ Q u s':=by
 obtain⟨v,f,j,a,un,c,r,q⟩:=h;obtain⟨i,g,d,t,e⟩:=s';obtain rfl:e=s.os:=j;show⟨v,f,I.call (h':=i) (g':=g) (d':=d) (t':=t) (ch:=[]) un c a (λb z=>absurd z (by simp)),r,q⟩
end
def qf5(sp:Sp)(a:List V)(E:XK)(t:TA):TE:=fun σ H Q=>t σ H λvs b=>sp (vs++a) b Q E
inductive MeR(C:Addr)(m:Str)(x:V)(H:Hp)(k:Prop):Prop|mk (a dx:Addr) (fs:List (Str×V)) (_:x=.ref a) (_:H a=some (.ins C dx fs)) (_:fs.lookup m=none) (_:k)
def qe4(C:Addr)(m:Str)(sp:Sp)(a:List V)(E:XK)(ta:TE)(t:TA):TE:=fun σ H Q=>ta σ H λx b=>MeR C m x b (t σ b λvs c=>sp (x::(vs++a)) c Q E)
def qgJ(C:Addr)(sp:Sp)(b:List V)(E:XK)(t:TA):TE:=fun σ H Q=>t σ H λvs a=>∀ x dx,a x=none->a dx=none->dx≠x ->
 sp (.ref x::(vs++b)) (upd (upd a dx (.own x)) x (.ins C dx [])) (λv c=>v=.non/\Q (.ref x) c) E
def Binds(K:yf)(b:FuncData)(ps:LS)(a:List Value):Prop:=
 ∀(s:Shared) (us:List Value),K.In s.heap->(us++a).length=ps.length->BindsTo s b ⟨us,[]⟩ (ps.zip (us++a))
theorem Binds.all{K:yf}{a:FuncData}(h:∀ us:List Value,us.length=ps.length->bindArgs a ⟨us,[]⟩=pure (ps.zip us)):Binds K a ps []:=λs us _ hl=>by
 rw[yZ] at hl ⊢;show .of_eq (h us hl)
def qbz(CX:CXT)(X:Cx)(E:XK):Prop:=∀(pins:List (Addr×Obj)) (σ:St) (H:Hp) (s:Shared) (e:Value) (s':Shared),Inv X pins σ H s->CX X.stack H s E e s'->X.xe e s'
section
variable{X:Cx}{CX:CXT}{k:Nat}{f C:Addr}{fd:FuncData}{ps:LS}{sp:Sp}{dvs:List V}{ds:List Value}{E:XK}{x m:Str}{p pos apos:Pos}{e o:Expr}{es:List Expr}{ta:TE}{t:TA}
theorem qe5{Q:VK}(F:FnOk X.prog X.w X.K X.mg X.base CX k f fd ps sp)(d:Room k X.A)(hb:Binds X.K fd ps ds)(c:Vals dvs ds)(g:qbz CX X E)
  (I:Inv X pins σ H s) (r:Vals vs us) (h:sp (vs++dvs) H Q E):wpAny (model X.prog X.w) X.A (call (.ref f) us) (EP X pins σ Q) X.xe s:=by
 have b:Vals (vs++dvs) (us++ds):=r.append c;have hl:(us++ds).length=ps.length:=by rw[<- b.length];show F.len _ _ _ _ h
 show XB (km (F.run X.A X.stack s H ⟨us,[]⟩ (us++ds) (vs++dvs) Q E d I.env0 (hb s us I.kIn hl) b h) λr s' a=>?_)
 cases r with
 | error e=>show g pins σ H s e s' I a
 | ok fl =>
  cases fl with
  | ret u=>show I.after a
  | next=>show False.elim a
  | brk=>show False.elim a
  | cont=>show False.elim a
theorem pe_call(F:FnOk X.prog X.w X.K X.mg X.base CX k f fd ps sp)(n:Room k X.A)(j:Gl X x)(m:X.mg x=some (.ref f))(l:PySem.W.keepIn X.K (.ref f)=true)(hb:Binds X.K fd ps ds)(g:Vals dvs ds)(o:qbz CX X E)
  (d:PA X (e::es) t) (a:(x==("__debug__":Str))=false:=by decide) (i:starEach (e::es) X.env=(false,eval e X.env)::starEach es X.env:=by rfl) (b:(backTo pos (starEach es X.env)).any (·.1)=false:=by rfl) :
  PE X (.Call (.Name x p) (e::es) [] pos) (qf5 sp dvs E t):=by
 intro pins s σ H Q I h;show xS (qcJ I j m ?_ a);show XW (h₀:=X.base) I.ok.mod.kin l (thn (d pos pins s σ H _ I h) λus v ⟨vs,u,c,r,q⟩=>⟨c.kIn,?_⟩) i b;show qe5 F n hb g o c r q
theorem pe_meth(B:PE X o ta)(c:Cls X.K C)(j:Meth X.K C m f)(F:FnOk X.prog X.w X.K X.mg X.base CX k f fd ps sp)(D:Room k X.A)(hb:Binds X.K fd ps ds)(z:Vals dvs ds)(J:qbz CX X E)(y:PA X (e::es) t)
  (d:starEach (e::es) X.env=(false,eval e X.env)::starEach es X.env:=by rfl) (b:(backTo pos (starEach es X.env)).any (·.1)=false:=by rfl)
  (G:eval (.Call (.Attribute o m apos) (e::es) [] pos) X.env=(do
   let ov <- eval o X.env
   standAt apos.atName
   let (f,first) <- holding [ov] (getMethod ov m pl)
   callWith pos f first (backTo pos (starEach (e::es) X.env)) (backToKw pos (keywordEach [] X.env))):=by rfl) :
  PE X (.Call (.Attribute o m apos) (e::es) [] pos) (qe4 C m sp dvs E ta t):=by
 intro pins s σ H Q I h;show PySem.W.methodCall_KW (pl:=pl) (thn (B pins s σ H _ I h) λu N ⟨x,n,g,M,a,dx,fs,v,p,l,q⟩=>?_) G;subst v;obtain rfl:u=Value.ref a:=M;show qcu g p c j l ?_;show XW (first:=[.ref a]) (h₀:=X.base) I.ok.mod.kin j.kp (thn (y pos pins N σ n _ g q) λus P ⟨vs,O,i,r,L⟩=>⟨i.kIn,?_⟩) d b;show qe5 (us:=.ref a::us) (vs:=.ref a::vs) F D hb z J i (.cons rfl r) L
theorem pe_meth0(j:PE X o ta)(c:Cls X.K C)(d:Meth X.K C m f)(F:FnOk X.prog X.w X.K X.mg X.base CX k f fd ps sp)(n:Room k X.A)(hb:Binds X.K fd ps ds)(i:Vals dvs ds)(r:qbz CX X E)
  (p:eval (.Call (.Attribute o m apos) [] [] pos) X.env=(do
   let ov <- eval o X.env
   standAt apos.atName
   let (f,first) <- holding [ov] (getMethod ov m pl)
   callWith pos f first (backTo pos (starEach [] X.env)) (backToKw pos (keywordEach [] X.env))):=by rfl) :
  PE X (.Call (.Attribute o m apos) [] [] pos) (qe4 C m sp dvs E ta qgI):=by
 intro pins s σ H Q I h;show PySem.W.methodCall_KW (pl:=pl) (thn (j pins s σ H _ I h) λu y ⟨x,v,b,t,a,dx,fs,g,e,l,q⟩=>?_) p;subst g;obtain rfl:u=Value.ref a:=t;show qcu b e c d l ?_;show PySem.W.callWith_K0 (first:=[.ref a]) b.kIn d.kp (qe5 (us:=[.ref a]) (vs:=[.ref a]) F n hb i r b (.cons rfl .nil) q)
structure Mk(K:yf)(C f:Addr):Prop where
 makes:PySem.W.makesIn K C=true
 init:PySem.W.findIn K (.ref C) "__init__"=some (some (.ref f))
 fn:PySem.W.isFn K (.ref f)=true
 kp:PySem.W.keepIn K (.ref C)=true
theorem run_make{Q:VK}(M:Mk X.K C f)(F:FnOk X.prog X.w X.K X.mg X.base CX k f fd ps sp)(n:Room (k+1) X.A)(hb:Binds X.K fd ps ds)(m:Vals dvs ds)
  (o:qbz CX X E) (I:Inv X pins σ H s) (r:Vals vs us)
  (h:∀ x dx,H x=none->H dx=none->dx≠x->sp (.ref x::(vs++dvs)) (upd (upd H dx (.own x)) x (.ins C dx [])) (λv i=>v=.non/\Q (.ref x) i) E) :
  wpAny (model X.prog X.w) X.A (call (.ref C) us) (EP X pins σ Q) X.xe s:=by
 have c:=h (s.heap.objs.size+1) s.heap.objs.size (I.hok.fresh (xm _)) (I.hok.fresh (yg _)) (Yj (XA _));have b:=Inv.made (C:=C) I;have d:Vals (V.ref (s.heap.objs.size+1)::(vs++dvs)) (Value.ref (s.heap.objs.size+1)::(us++ds)):=.cons rfl (r.append m)
 have hl:(Value.ref (s.heap.objs.size+1)::us++ds).length=ps.length:=by
  have e:=d.length;rw[F.len _ _ _ _ c] at e;show e.symm
 show XB (make_map (f:=f) I.kIn M.makes M.init (Yo.mp M.fn) (km (F.run _ X.stack _ _ ⟨Value.ref (s.heap.objs.size+1)::us,[]⟩ (Value.ref (s.heap.objs.size+1)::(us++ds)) _ _ E (n.make C us [])
  (b.env0.make C us []) (hb _ (Value.ref (s.heap.objs.size+1)::us) b.kIn hl) d c) λr s' a=>?_))
 cases r with
 | error e=>show o pins σ _ _ e s' b a
 | ok fl =>
  cases fl with
  | ret u =>
   obtain⟨v,g,j,q,l,p⟩:=b.after a;subst l;show⟨q,⟨V.ref (s.heap.objs.size+1),g,j,rfl,p⟩⟩
  | next=>show False.elim a
  | brk=>show False.elim a
  | cont=>show False.elim a
theorem pe_make(M:Mk X.K C f)(F:FnOk X.prog X.w X.K X.mg X.base CX k f fd ps sp)(m:Room (k+1) X.A)(j:Gl X x)(l:X.mg x=some (.ref C))(hb:Binds X.K fd ps ds)(g:Vals dvs ds)(n:qbz CX X E)
  (d:PA X (e::es) t) (a:(x==("__debug__":Str))=false:=by decide) (i:starEach (e::es) X.env=(false,eval e X.env)::starEach es X.env:=by rfl) (b:(backTo pos (starEach es X.env)).any (·.1)=false:=by rfl) :
  PE X (.Call (.Name x p) (e::es) [] pos) (qgJ C sp dvs E t):=by
 intro pins s σ H Q I h;show xS (qcJ I j l ?_ a);show XW (h₀:=X.base) I.ok.mod.kin M.kp (thn (d pos pins s σ H _ I h) λus u ⟨vs,o,c,r,q⟩=>⟨c.kIn,?_⟩) i b;show run_make M F m hb g n c r q
end
section
variable{X:Cx}{CX:CXT}{k:Nat}{f C:Addr}{fd:FuncData}{ps ks:LS}{sp:Sp}{E:XK}{x m:Str}{p pos apos kpos:Pos}{e o:Expr}{es:List Expr}{kws:List Keyword}{te ta:TE}{t tk:TA}{nm:Option Str}
structure KBinds(K:yf)(fd:FuncData)(ps ks:LS)(g:List Value->List Value->List Value)(gV:List V->List V->List V):Prop where
 to:∀(s:Shared) (us ws:List Value),K.In s.heap->(g us ws).length=ps.length->BindsTo s fd ⟨us,ks.zip ws⟩ (ps.zip (g us ws))
 rel:∀{vs:List V} {us:List Value} {zs:List V} {ws:List Value},Vals vs us->Vals zs ws->Vals (gV vs zs) (g us ws)
variable{g:List Value->List Value->List Value}{gV:List V->List V->List V}
end
structure FnScope(N P:LS)(sc:Scope):Prop where
 kind:sc.kind=.function
 co:sc.isCoroutine=false
 gen:sc.isGenerator=false
 nd:N.Nodup
 pre:N.take P.length=P
 par:∀ x∈P,sc.names.lookup x=some .local\/sc.names.lookup x=some .cell
 nofree:∀ y∈sc.names,y.2≠.free
theorem fS{P:LS}(a:sc.kind=.function:=by rfl)(b:sc.isCoroutine=false:=by rfl)(c:sc.isGenerator=false:=by rfl)(d:N.Nodup:=by room)(e:N.take P.length=P:=by rfl)(f:∀ x∈P,sc.names.lookup x=some .local\/sc.names.lookup x=some .cell:=by room)(g:∀ y∈sc.names,y.2≠.free:=by room):FnScope N P sc:=⟨a,b,c,d,e,f,g⟩
theorem qdf:∀{binds:List (Str×Value)} {m:Str->Option Value},(∀ v,(x,v)∉binds)->bindL kindOf binds m x=m x
 | [],_,_=>rfl
 | (n,v)::r,m,h=>by
  unfold bindL;rw[qdf λw hw=>h w (yy _ hw)];split
  .have:x≠n:=by rintro rfl;show h v yK
   simp[this]
  .rfl
theorem qdg:∀{binds:List (Str×Value)} {m:Str->Option Value},(∀ v,(x,v)∉binds)->bindC kindOf binds m x=m x
 | [],_,_=>rfl
 | (n,v)::r,m,h=>by
  unfold bindC;rw[qdg λw hw=>h w (yy _ hw)];split
  .rfl
  .have:x≠n:=by rintro rfl;show h v yK
   simp[this]
theorem qdh{v:Value}:∀{P:LS} {vs:List Value} {i:Nat} {m:Str->Option Value},P.Nodup->P[i]?=some x->vs[i]?=some v->kindOf x=some .local ->
  bindL kindOf (P.zip vs) m x=some v
 | [],_,_,_,_,h,_,_=>by simp at h
 | _::_,[],_,_,_,_,h,_=>by simp at h
 | p::P,w::vs,0,m,nd,h1,h2,hk=>by
  simp at h1 h2;subst h1;subst h2;show bindL kindOf ((p,w)::P.zip vs) m p=_;unfold bindL;rw[qdf λv hv=>(yn.mp nd).1 (kr hv).1,yG hk];simp
 | p::P,w::vs,i+1,m,nd,h1,h2,hk=>by
  show bindL kindOf ((p,w)::P.zip vs) m x=_;unfold bindL;show qdh (i:=i) (yn.mp nd).2 (by simpa using h1) (by simpa using h2) hk
theorem qdi{v:Value}:∀{P:LS} {vs:List Value} {i:Nat} {m:Str->Option Value},P.Nodup->P[i]?=some x->vs[i]?=some v->kindOf x≠some .local ->
  bindC kindOf (P.zip vs) m x=some v
 | [],_,_,_,_,h,_,_=>by simp at h
 | _::_,[],_,_,_,_,h,_=>by simp at h
 | p::P,w::vs,0,m,nd,h1,h2,hk=>by
  simp at h1 h2;subst h1;subst h2;show bindC kindOf ((p,w)::P.zip vs) m p=_;unfold bindC;rw[qdg λv hv=>(yn.mp nd).1 (kr hv).1,yC hk];simp
 | p::P,w::vs,i+1,m,nd,h1,h2,hk=>by
  show bindC kindOf ((p,w)::P.zip vs) m x=_;unfold bindC;show qdi (i:=i) (yn.mp nd).2 (by simpa using h1) (by simpa using h2) hk
def start(N:LS)(vs:List V):St:=vs.map some++List.replicate (N.length-vs.length) none
def qgU(CX:CXT)(P:Program)(w:World)(K:yf)(mg:Str->Option Value)(base:Heap)(N:LS)(qual:Str)(scope:Scope)(f:Addr)(b:Value)(A:Around)(outer:List Env)(s:Shared)(H:Hp)(E:XK):Cx where
 prog:=P
 w:=w
 K:=K
 mg:=mg
 base:=base
 A:=A.deeper (envOfC qual scope s.heap.objs.size f b)
 N:=N
 s₀:=s
 H₀:=H
 env:=envOfC qual scope s.heap.objs.size f b
 outer:=outer
 stack:=envOfC qual scope s.heap.objs.size f b::outer
 ex:=[]
 calm:=true
 fn:=λ_=>true
 pn:=[]
 xe:=λe s'=>wpAny (model P w) (A.deeper (envOfC qual scope s.heap.objs.size f b)) (leaving (envOfC qual scope s.heap.objs.size f b) e) (λ_ a=>CX outer H s E e a) (λc a=>CX outer H s E c a) s'
theorem qeo(h:sc.names.lookup x=some .cell):∃ c,(cellsFrom n sc.names []).lookup x=some c:=by
 have q:=PySem.W.cellsFrom_some sc.names n [] (.inl h);show Option.isSome_iff_exists.mp q
theorem inv_start{K:yf}{f:Addr}{o:Value}{D:Shared}{E:XK}
  (S:FnScope N ps scope) (G:A.handled=none) (g:Env0 P w K mg base A outer s H) (hl:vs.length=ps.length) (r:Vals vs us)
  (x:InCallC s s.heap.objs.size (bindL (envOfC qual scope s.heap.objs.size f o).kindOf (ps.zip us) λ_=>none) (cellsFrom (s.heap.objs.size+1) scope.names []) (bindC (envOfC qual scope s.heap.objs.size f o).kindOf (ps.zip us) λ_=>none) D) :
  Inv (qgU CX P w K mg base N qual scope f o A outer s H E) [] (start N vs) H D:=by
 have I:ps.length<=N.length:=by have:=congrArg List.length S.pre;rw[yH] at this;lk
 obtain⟨h1,tk,rfl,B⟩:=x.done;have j:∀ b:Addr,b∉(qgU CX P w K mg base N qual scope f o A outer s H E).ex:=λb z=>absurd (show b∈([]:LI) from z) (by simp);show⟨⟨g.mod,S.kind,rfl,rfl,yg _,λy z c h1 d=>?_,λy hy=>?_,λy c _ h=>?_,λ_=>G,Around.frames_deeper g.frames,.inr ⟨rfl,rfl⟩,λb z=>absurd z (j b),g.bs,g.bsz,λb _ _=>j b,λb z=>absurd z (j b),g.funs,g.frf⟩,
  rfl,g.bare,Un.kept B,⟨_,x.toInCall.ns,λi y v h1 d L=>?_⟩,λy c h=>⟨_,x.cell y c h⟩,g.hok.fresh (yg _),λy c h=>?_,λp l=>absurd (show p∈([]:List (Addr×Obj)) from l) (by simp),g.hok.kept B,?_⟩
 .show name_of_addr x.apart (xD h1) (xD d)
 .have hy:scope.names.lookup y=some .cell\/scope.names.lookup y=some .free:=hy;rcases hy with hy | hy
  .show qeo hy
  .show absurd rfl (S.nofree _ (xD hy))
 .show yI (x.above y c (xD h))
 .have t:i<vs.length:=by
   unfold start at d;by_cases t:i<vs.length
   .show t
   .rw [Ye (by simpa using t)] at d;rw[Xr] at d;split at d<;>cases d
  have F:vs[i]?=some v:=by
   unfold start at d;rw[yX (by simpa using t),yd] at d
   cases e:vs[i]? with
   | none=>rw[e] at d;cases d
   | some a=>rw[e] at d;cases d;rfl
  obtain⟨u,C,J⟩:=r.get F
  have l:ps[i]?=some y:=by
   rw[<- S.pre,List.getElem?_take_of_lt (by lk)];show h1
  have m:ps.Nodup:=by rw[<- S.pre];show S.nd.sublist (Xs _ _)
  show⟨u,J,?_⟩;rcases S.par y (ye l) with k | k
  .show .inl ⟨k,qdh m l C k⟩
  .obtain⟨c,e⟩:=qeo (n:=s.heap.objs.size+1) k;show .inr ⟨.inl k,c,e,?_⟩;have q:=x.cell y c e;rw[qdi m l C (by show scope.names.lookup y≠_;rw[k];decide)] at q;show q
 .show g.hok.fresh (yI (x.above y c (xD h)))
 .unfold start;show _=N.length;rw[yu,ya,Y7];lk
theorem fn_of{K:yf}{k:Nat}{f:Addr}{name:Str}{c:Arguments}{O kV l R a ct oc:Value}{M od:Option Addr}
  {F:Array (Option Value)} {sp:Sp} (lk:K.lookup f=some ⟨oc,od,.func (PySem.W.fnOf name qual c body scope O kV l R M a ct),F⟩) (B:PySem.W.codeIn K a qual=true) (S:FnScope N ps scope)
  (len:∀ vs H Q E,sp vs H Q E->vs.length=ps.length)
  (h:∀(A:Around) (outer:List Env) (s:Shared) (H:Hp) (vs:List V) (Q:VK) (E:XK),Room k (A.deeper (envOfC qual scope s.heap.objs.size f a))->sp vs H Q E ->
   ∃ t,PSs (qgU CX P w K mg base N qual scope f a A outer s H E) body t/\t { nx:=λ_ g=>Q .non g,rt:=Q } (start N vs) H) :
  FnOk P w K mg base CX (k+1) f (PySem.W.fnOf name qual c body scope O kV l R M a ct) ps sp:=by
 show⟨len,λA outer s H args us vs Q E C m hb r z=>?_⟩;have hl:=len _ _ _ _ z;have L:K.In s.heap:=m.mod.kin.keeps λb o e=>(m.bs b o e).1;have D:s.heap.NoLimit:=m.mod.nolimit.keeps λb o e=>(m.bs b o e).1
 have i:∀ y∈ps.zip us,scope.names.lookup y.1=some .local\/(scope.names.lookup y.1=some .cell/\((cellsFrom (s.heap.objs.size+1) scope.names []).lookup y.1).isSome=true):=λ⟨n,v⟩ hy=>by
  rcases S.par n (kr hy).1 with q | q
  .show .inl q
  .show .inr ⟨q,PySem.W.cellsFrom_some _ _ _ (.inl q)⟩
 show codeAny_call_function C.depth (L _ _ lk) rfl S.co S.gen rfl (PySem.W.codeRec_of L B) (hb _ _ _ _ ?_);show wpAny_newFunctionEnv_cells S.kind i λenv X T x=>?_;subst X;show⟨D.keeps x.toInCall.keep,codeAny_func ?_⟩;obtain⟨t,Z,Y⟩:=h A outer s H vs Q E (C.deeper _) z;have I:Inv (qgU CX P w K mg base N qual scope f a A outer s H E) [] (start N vs) H T:=inv_start S C.hd m hl r x;show Y8 (Z [] T (start N vs) H _ I Y) (λU s' j=>?_) λe s' j=>j
 have p:∀{d:St} {g:Hp} {v:V} {u:Value},Inv (qgU CX P w K mg base N qual scope f a A outer s H E) [] d g s'->RelV v u->Q v g->CE outer P w H s Q u s':=
  λ{d g v u} J G q=>⟨v,g,J.os,J.bare,J.base,J.hok,G,q⟩
 cases U with
 | ret u =>
  obtain⟨v,d,g,J,G,q⟩:=j;show p J G q
 | next =>
  obtain⟨d,g,J,q⟩:=j;show p (v:=V.non) (u:=Value.none) J rfl q
 | brk =>
  obtain⟨_,_,_,q⟩:=j;show False.elim q
 | cont =>
  obtain⟨_,_,_,q⟩:=j;show False.elim q
section
variable{X:Cx}{x:Str}{p pos:Pos}{e:Expr}{es:List Expr}{t:TA}{id T:String}{r:List V->Hp->VK->Prop}
def tCB(r:List V->Hp->VK->Prop)(t:TA):TE:=fun σ H Q=>t σ H λvs a=>r vs a Q
theorem qq(hc:qag X (.builtin id) r)(i:Gl X x)(j:X.mg x=none)(hv:bootBuiltins x=some (.builtin id))(f:PA X (e::es) t)(l:x≠"__name__":=by decide)(a:(x==("__debug__":Str))=false:=by decide)
  (g:starEach (e::es) X.env=(false,eval e X.env)::starEach es X.env:=by rfl) (b:(backTo pos (starEach es X.env)).any (·.1)=false:=by rfl):PE X (.Call (.Name x p) (e::es) [] pos) (tCB r t):=by
 intro pins s σ H Q I h;show xS (qbO I i j hv ?_ l a);show PyProof.Rows.callWith_builtin1 (thn (f pos pins s σ H _ I h) λus o ⟨vs,c,d,n,m⟩=>hc pins o σ c vs us Q d n m) g b
theorem zi(hc:qag X (.type T) r)(i:Gl X x)(j:X.mg x=none)(hv:bootBuiltins x=some (.type T))(f:PA X (e::es) t)(l:x≠"__name__":=by decide)(a:(x==("__debug__":Str))=false:=by decide)
  (g:starEach (e::es) X.env=(false,eval e X.env)::starEach es X.env:=by rfl) (b:(backTo pos (starEach es X.env)).any (·.1)=false:=by rfl):PE X (.Call (.Name x p) (e::es) [] pos) (tCB r t):=by
 intro pins s σ H Q I h;show xS (qbO I i j hv ?_ l a);show YV (thn (f pos pins s σ H _ I h) λus o ⟨vs,c,d,n,m⟩=>hc pins o σ c vs us Q d n m) g b
end
end L2
namespace HT
open PySem PyProof.Rows
variable{hi lo:Option Int}{sl t:Addr}{vl vu:Value}
def lexLt:LQ->LQ->Bool
 | [],[]=>false
 | [],_::_=>true
 | _::_,[]=>false
 | x::xs,y::ys=>if x=y then lexLt xs ys else decide (x<y)
section
open PySem.SeqAt
open PySem.AutoSeq1 (wpAny_loadPart')
open PySem.MeetsSeq PySem.MeetsSeq2 PySem.MeetsSeq3
end
section
variable{prog:Program}{w:World}{A:Around}{E:Value->Shared->Prop}{s:Shared}
theorem cat_tup{b:Addr}{vs a:List Value}{Q:Value->Shared->Prop}(r:IsTup s.heap t vs.toArray)(hb:IsTup s.heap b a.toArray)(hv:vs≠[])
  (h1:a=[]->Q (.ref t) s) (q:a≠[]->Q (.ref s.heap.objs.size) { s with heap:=s.heap.push { cls:=.type "tuple",data:=.seq (vs++a).toArray } })
  (hsz:vs.length+a.length<=sizeLine):wpAny (model prog w) A (binaryOp .Add (.ref t) (.ref b)) Q E s:=by
 obtain⟨⟨cls,m,data,sl⟩,i,hc,n,o⟩:=id r;obtain⟨⟨l,d,j,h⟩,c,f,p,g⟩:=id hb;simp only at hc o f g;subst hc o f g;have e:vs.toArray++a.toArray=(vs++a).toArray:=by simp
 by_cases hw:a=[]
 .show concat_meets ⟨_,i,rfl⟩ ⟨_,c,rfl⟩ noFill_tuple_add seq_tuple_add PySem.F.slot_tuple_add PySem.F.entry_tuple_add (PySem.F.args_tuple_add_2 _ _)
   (tuple_addW1 t b vs.toArray a.toArray n p m d sl h (by simpa using hv) (by simp[hw])) ⟨i,c,h1 hw⟩
 .show concat_meets ⟨_,i,rfl⟩ ⟨_,c,rfl⟩ noFill_tuple_add seq_tuple_add PySem.F.slot_tuple_add PySem.F.entry_tuple_add (PySem.F.args_tuple_add_2 _ _)
   (tuple_addW2 t b vs.toArray a.toArray n p m d sl h (by simpa using hv) (by simpa using hw) (by rw[yB,yB];show hsz)) ⟨i,c,?_⟩
  rw[e];show q hw
def sIx(n d:Nat):Option Int->Nat
 | none=>d
 | some v=>if v<0 then(v+(n:Int)).toNat else min v.toNat n
theorem sIx_none(n d:Nat):sIx n d none=d:=rfl
theorem sIx_nat(n d k:Nat):sIx n d (some (k:Int))=min k n:=by
 show(if (k:Int)<0 then((k:Int)+(n:Int)).toNat else min (k:Int).toNat n)=min k n;rw[yC (by lk),y6]
theorem sIx_le(n d:Nat)(a:d<=n)(o:Option Int):sIx n d o<=n:=by
 cases o with
 | none=>show a
 | some v =>
  show(if v<0 then(v+(n:Int)).toNat else min v.toNat n)<=n;by_cases hv:v<0
  .rw [yG hv];lk
  .rw [yC hv];show kg _ _
theorem clip_eq(v:Int)(n d:Nat):(if v<0 then max (v+(n:Int)) 0 else min v (n:Int))=((sIx n d (some v):Nat):Int):=by
 show(if v<0 then max (v+(n:Int)) 0 else min v (n:Int))=(((if v<0 then(v+(n:Int)).toNat else min v.toNat n):Nat):Int);by_cases hv:v<0
 .simp only[yG hv];lk
 .simp only[yC hv];lk
theorem adjust_gen(lo hi:Option Int)(n:Nat):Builtin.Slice.sliceAdjust lo hi 1 (n:Int)=(((sIx n 0 lo:Nat):Int),((sIx n n hi:Nat):Int)):=by
 have h1:¬ ((1:Int)<0):=by lk
 unfold Builtin.Slice.sliceAdjust;simp only[h1,ky];show XF ?_ ?_
 .cases lo with
  | none=>rfl
  | some v=>show clip_eq v n 0
 .cases hi with
  | none=>rfl
  | some v=>show clip_eq v n n
theorem places_gen(i j:Nat):Builtin.Slice.slicePlaces (i:Int) (j:Int) 1=j-i:=by
 unfold Builtin.Slice.slicePlaces;have h1:(1:Int)>0:=by lk
 simp only[h1,Xl,Int.ediv_one];split<;>lk
theorem qcv{v:Value}{o:Option Int}{Q:Option Int->Shared->Prop}(p:IsPart v o)(h:Q o s):wpAny (model prog w) A (Builtin.Slice.slicePartIndex v) Q E s:=by
 cases p with
 | none=>show slicePart_none h
 | int i t=>show slicePart_int h
theorem sliceApplied_gen{n:Nat}{Q:Int×Int×Nat->Shared->Prop}(d:s.heap.IsSliceOf sl vl vu .none)(pl:IsPart vl lo)(e:IsPart vu hi)
  (h:Q (((sIx n 0 lo:Nat):Int),1,sIx n n hi-sIx n 0 lo) s):wpAny (model prog w) A (Builtin.Slice.sliceApplied (.ref sl) (pure (n:Int))) Q E s:=by
 obtain⟨f,b,c,a⟩:=id d;unfold Builtin.Slice.sliceApplied Builtin.Slice.sliceFields;show yr (yr (wpAny_field b a (x:=vl) rfl (yr (wpAny_field b a (x:=vu) rfl (yr (wpAny_field b a (x:=.none) rfl (yE ?_)))))));show yr (slicePart_none ?_);show wpAny _ _ (if ((1:Int)==0)=true then _ else _) _ _ s;rw[yC (by decide)];show yr (qcv pl (yr (qcv e (yr (yE ?_)))));show wpAny _ _ (match Builtin.Slice.sliceAdjust lo hi 1 (n:Int) with | (lo,hi)=>pure (lo,(1:Int),Builtin.Slice.slicePlaces lo hi 1)) _ _ s;rw[adjust_gen lo hi n];show wpAny _ _ (pure (((sIx n 0 lo:Nat):Int),(1:Int),Builtin.Slice.slicePlaces ((sIx n 0 lo:Nat):Int) ((sIx n n hi:Nat):Int) 1)) _ _ s;rw[places_gen];show yE h
theorem pick_gen(xs:Array Value)(i k:Nat):((List.range k).filterMap λ(m:Nat)=>xs[((i:Int)+(m:Int)*1).toNat]?).toArray=((xs.toList.drop i).take k).toArray:=by
 have e:(λ(m:Nat)=>xs[((i:Int)+(m:Int)*1).toNat]?)=λm=>xs[i+m]?:=by
  funext m;have:((i:Int)+(m:Int)*1).toNat=i+m:=by lk
  rw[this]
 rw[e];have:=pick_run xs i k;rw[List.filterMap_map] at this;have a:((λx=>xs[x]?) ∘ λx=>i+x)=λm=>xs[i+m]?:=rfl;rw[a] at this;rw[this]
theorem getItem_tuple_cut{a:Array Value}{Q:Value->Shared->Prop}(c:IsTup s.heap t a)(i:s.heap.IsSliceOf sl vl vu .none)(pl:IsPart vl lo)(n:IsPart vu hi)
  (hw:¬ (sIx a.size 0 lo=0/\sIx a.size a.size hi=a.size))
  (h:Q (.ref s.heap.objs.size) { s with heap:=s.heap.push { cls:=.type "tuple",data:=.seq ((a.toList.drop (sIx a.size 0 lo)).take (sIx a.size a.size hi-sIx a.size 0 lo)).toArray } })
  (hsz:a.size<=sizeLine):wpAny (model prog w) A (getItem (.ref t) (.ref sl)) Q E s:=by
 have b:sizeOk (.seq ((a.toList.drop (sIx a.size 0 lo)).take (sIx a.size a.size hi-sIx a.size 0 lo)).toArray):=by
  show((a.toList.drop (sIx a.size 0 lo)).take (sIx a.size a.size hi-sIx a.size 0 lo)).toArray.size<=sizeLine;rw[yB,yH,XC,Xp];lk
 have o:sIx a.size a.size hi<=a.size:=sIx_le _ _ (yg _) hi;obtain⟨l,g,e,j⟩:=id i;have d:s.TypeIs (.ref sl) "slice":=⟨l,g,e⟩;unfold getItem
 try with_reducible show YN ?_
 first | show yr (yE ?_) | skip
 show yr (wpAny_sequenceKey c.typeIs (by decide) ?_);show yr (wpAny_callSpecial?_slot (name:=Str.ofString "__getitem__") c.typeIs xC
  (wpAny_call_entry xC c.typeIs entry_tuple_getitem ?_ (args_tuple_getitem _ _)))
 show wpAny _ _ (Builtin.Tuple.tupleItemsOf (.ref t)>>=_) _ _ s;show yr (tupleItemsOf_ c ?_);show yr (wpAny_typeOf d ?_);rw[yG (by decide)];show yr (sliceApplied_gen i pl n ?_)
 have f:¬ ((((sIx a.size 0 lo:Nat):Int)==0&&(1:Int)==1&&(sIx a.size a.size hi-sIx a.size 0 lo)==a.size)=true):=by
  intro q;rw[y1,y1] at q;have p:((sIx a.size 0 lo:Nat):Int)=0:=eq_of_beq q.1.1;have r:sIx a.size a.size hi-sIx a.size 0 lo=a.size:=eq_of_beq q.2;show hw ⟨by lk,by lk⟩
 show wpAny _ _ (if (((sIx a.size 0 lo:Nat):Int)==0&&(1:Int)==1&&(sIx a.size a.size hi-sIx a.size 0 lo)==a.size)=true then _ else _) _ _ s;rw[yC f,pick_gen]
 first
  | show yr (m:=Builtin.Tuple.tupleExact _) (Xd (yE ⟨_,rfl,yE h⟩) b)
  | show yr (m:=Builtin.Tuple.tupleExact _) (Xd (yr (yE (yE ⟨_,rfl,yE h⟩))) b)
  | show yr (yr (m:=Builtin.Tuple.tupleExact _) (Xd (yE (yE ⟨_,rfl,yE h⟩)) b))
  | show yr (yr (m:=Builtin.Tuple.tupleExact _) (Xd (yE ⟨_,rfl,yE h⟩) b))
end
end HT
namespace L2
open PySem PySem.Spec PyProof.Rows
variable{A:Around}{H H':Hp}{P:Program}{X:Cx}{a p:Addr}{h':Heap}{i:Int}{its its' us:List Value}{j n t':Nat}{kvs:List (List Key×V)}{o:Option V}{pins:List (Addr×Obj)}{pos:Pos}{r:R2}{s:Shared}{trs:List (TE×TE)}{u v:Value}{w:World}{x y:V}{xs:List V}{α:Type}{σ:St}
abbrev TO:=St->Hp->(Option Int->Hp->Prop)->Prop
def PO(X:Cx)(e:Option Expr)(t:TO):Prop:=
 ∀(pins:List (Addr×Obj)) (s:Shared) (σ:St) (H:Hp) (Q:Option Int->Hp->Prop),Inv X pins σ H s->t σ H Q ->
  wpAny (model X.prog X.w) X.A (evalPart e X.env) (λu a=>∃ o H',Inv X pins σ H' a/\IsPart u o/\Q o H') X.xe s
def qe6:TO:=λ_ H Q=>Q none H
def qg5(t:TE):TO:=fun σ H Q=>t σ H λx a=>∃ i,x=.int i/\Q (some i) a
theorem intsAre_of{ns:LQ}:∀{us:List Value},Vals (ns.map V.int) us->IntsAre us ns:=by
 induction ns with
 | nil=>intro us r;rw[ko] at r;cases r;show .nil
 | cons n ns ih =>
  intro us r;rw[Yk] at r
  cases r with
  | cons r1 r2 =>
   obtain⟨t,e⟩:=r1;subst e;show .cons n t (ih r2)
section
variable{X:Cx}{e:Expr}{te:TE}{lo hi:Option Expr}{tl th:TO}{pos p2:Pos}
theorem qbm:PO X none qe6:=by
 intro pins s σ H Q I h;rw[evalPart_none];show yE ⟨none,H,I,.none,h⟩
theorem zO(h:PE X e te):PO X (some e) (qg5 te):=by
 intro pins s σ H Q I hw;rw[evalPart_some];show thn (h pins s σ H _ I hw) λu f ⟨x,a,b,d,c⟩=>?_;obtain⟨i,rfl,q⟩:=c;obtain⟨t,rfl⟩:=d;show⟨some i,a,b,.int i t,q⟩
def SlR(X:Cx)(r:V->Option Int->Option Int->Hp->VK->Prop):Prop:=
 ∀(pins:List (Addr×Obj)) (s:Shared) (σ:St) (H:Hp) (x:V) (v b c:Value) (lo hi:Option Int) (a:Addr) (Q:VK),Inv X pins σ H s->RelV x v->s.heap.IsSliceOf a b c .none->IsPart b lo->IsPart c hi->r x lo hi H Q ->
  ∃ T id,typeLookup (.type T) "__getitem__"=pure (some (.builtin id))/\s.TypeIs v T/\wpAny (model X.prog X.w) X.A (getItem v (.ref a)) (EP X pins σ Q) X.xe s
def tSl(r:V->Option Int->Option Int->Hp->VK->Prop)(te:TE)(tl th:TO):TE:=fun σ H Q=>te σ H λx a=>tl σ a λl b=>th σ b λu c=>r x l u c Q
theorem zP{r:V->Option Int->Option Int->Hp->VK->Prop}(z:SlR X r)(t:PE X e te)(hl:PO X lo tl)(C:PO X hi th):PE X (.Subscript e (.Slice lo hi none p2) pos) (tSl r te tl th):=by
 intro pins s σ H Q I h;show Subscript_ (thn (t pins s σ H _ I h) λv K ⟨x,g,j,J,E⟩=>?_);show wpAny_Slice (thn (hl pins K σ g _ j E) λc L ⟨l,i,m,pl,F⟩=>thn (C pins L σ i _ m F) λd a ⟨u,f,n,D,G⟩=>?_);rw[evalPart_none];show yE ?_;have o:Inv X pins σ f { a with heap:=a.heap.push { cls:=.type "slice",data:=.fields #[c,d,.none] } }:=n.kept (t':=a.toks) λb M q=>yz _ q;obtain⟨T,id,p,B,y⟩:=z pins { a with heap:=a.heap.push { cls:=.type "slice",data:=.fields #[c,d,.none] } } σ f x v c d l u a.heap.objs.size Q o J (Heap.IsSliceOf.new ..) pl D G;show wpAny (model X.prog X.w) X.A (subscriptTail e (.Slice lo hi none p2) v (.ref a.heap.objs.size)) (EP X pins σ Q) X.xe { a with heap:=a.heap.push { cls:=.type "slice",data:=.fields #[c,d,.none] } };show tail_any (ops:=[.ref a.heap.objs.size,v]) B p y (by with_unfolding_all rfl)
def qdO(xs:List V)(lo hi:Option Int):List V:=(xs.drop (HT.sIx xs.length 0 lo)).take (HT.sIx xs.length xs.length hi-HT.sIx xs.length 0 lo)
theorem qbU(xs:List V)(lo hi:Option Int):(qdO xs lo hi).length<=xs.length:=by
 unfold qdO;rw[yH,XC];lk
inductive rSlT(K:yf)(x:V)(lo:Option Int)(hi:Option Int)(H:Hp)(Q:VK):Prop|mk (a xs:_) (_:x=.ref a) (_:SqT K H a xs) (_:¬ (HT.sIx xs.length 0 lo=0/\HT.sIx xs.length xs.length hi=xs.length)) (_:∀ p,H p=none->Q (.ref p) (upd H p (.tup (qdO xs lo hi))))
theorem sl_tup:SlR X (rSlT X.K):=by
 intro pins s σ H x v n p lo hi m Q I j f pl i h;obtain⟨a,xs,rfl,g,hw,q⟩:=h;cases j;obtain⟨its,r,d,e⟩:=I.tuple g;have c:its.toArray.size=xs.length:=by rw[yB];show r.length.symm
 show⟨"tuple",_,xC.lookup,d.typeIs,?_⟩;show HT.getItem_tuple_cut d f pl i (by rw[c];show hw) ?_ (by rw[c];show e);rw[c];show⟨.ref s.heap.objs.size,_,I.laid (t':=s.toks) (o:=.tup (qdO xs lo hi)) (λb l q=>yz _ q) (yg _) ?_,rfl,q _ (I.hok.fresh (yg _))⟩;show⟨yh (qbU xs lo hi) e,_,(r.drop (HT.sIx xs.length 0 lo)).take (HT.sIx xs.length xs.length hi-HT.sIx xs.length 0 lo),IsTup.new _ _⟩
inductive rLtT(K:yf)(x:V)(y:V)(H:Hp)(Q:VK):Prop|mk (a b ns ms:_) (_:x=.ref a) (_:y=.ref b) (_:SqT K H a (ns.map V.int)) (_:SqT K H b (ms.map V.int)) (_:Q (.bl (HT.lexLt ns ms)) H)
inductive rCatT(K:yf)(x:V)(y:V)(H:Hp)(Q:VK):Prop|mk (a b xs ys:_) (_:x=.ref a) (_:y=.ref b) (_:SqT K H a xs) (_:SqT K H b ys) (_:xs≠[]) (_:xs.length+ys.length<=sizeLine) (_:(ys=[]->Q (.ref a) H)) (_:(ys≠[]->∀ p,H p=none->Q (.ref p) (upd H p (.tup (xs++ys)))))
theorem Vals.nil_iff(r:Vals xs us):us=[]↔xs=[]:=by
 cases r with
 | nil=>simp
 | cons _ _=>simp
theorem op_catT:OpR X (binaryOp .Add) (rCatT X.K):=by
 intro pins s σ H x y v u Q I n p h;obtain⟨a,b,xs,ys,rfl,rfl,g,hb,i,e,l,m⟩:=h;cases n;cases p;obtain⟨its,d,j,_⟩:=I.tuple g;obtain⟨f,c,p2,_⟩:=I.tuple hb;show HT.cat_tup j p2 (λz=>i (d.nil_iff.mp z)) (λz=>⟨.ref a,H,I,rfl,l (c.nil_iff.mp z)⟩) (λz=>?_) (by rw[<- d.length,<- c.length];show e);show⟨.ref s.heap.objs.size,_,I.laid (t':=s.toks) (o:=.tup (xs++ys)) (λb r q=>yz _ q) (yg _) ?_,rfl,m (λw=>z (c.nil_iff.mpr w)) _ (I.hok.fresh (yg _))⟩;show⟨by rw[yu];show e,_,d.append c,IsTup.new _ _⟩
end
def ixN(n:Nat)(i:Int):Option Nat:=if 0<=i then(if i<n then some i.toNat else none) else if -(n:Int)<=i then some (i+n).toNat else none
def atI{α:Type}(xs:List α)(i:Int):Option α:=(ixN xs.length i).bind λj=>xs[j]?
theorem qe7(h:ixN n i=some j):seqIndex? i n=some j/\j<n/\-(n:Int)<=i/\i<n:=by
 unfold ixN at h;by_cases a:0<=i
 .rw [yG a] at h;by_cases h1:i<n
  .rw [yG h1] at h;have e:i.toNat=j:=yl h;show⟨by rw[seqIndex_of a h1,e],by lk,by lk,h1⟩
  .rw [yC h1] at h;cases h
 .rw [yC a] at h;by_cases h1:-(n:Int)<=i
  .rw [yG h1] at h;have e:(i+n).toNat=j:=yl h;show⟨by rw[seqIndex_neg (by lk) h1,e],by lk,h1,by lk⟩
  .rw [yC h1] at h;cases h
theorem qdT{xs:List α}{v:α}(h:atI xs i=some v):∃ j,seqIndex? i xs.length=some j/\xs[j]?=some v/\j<xs.length/\-(xs.length:Int)<=i/\i<xs.length:=by
 unfold atI at h
 cases e:ixN xs.length i with
 | none=>rw[e] at h;cases h
 | some j =>
  rw[e] at h;obtain⟨h1,a,b,c⟩:=qe7 e;show⟨j,h1,h,a,b,c⟩
theorem qal{xs:List α}{v:α}(h:xs[j]?=some v):atI xs (j:Int)=some v:=by
 have a:j<xs.length:=(yc.mp h).1
 have e:ixN xs.length (j:Int)=some j:=by
  unfold ixN;rw[yG (by lk),yG (by lk)];simp
 unfold atI;rw[e];show h
def PlainIx(b:Expr):Prop:=∀ o i,subscripted b false o i=operate [o,i] (getItem o i)
def IxR(X:Cx)(r:R2):Prop:=
 ∀(b a:Expr) (pins:List (Addr×Obj)) (s:Shared) (σ:St) (H:Hp) (x y:V) (v u:Value) (Q:VK),Inv X pins σ H s->RelV x v->RelV y u->r x y H Q ->
  subscripted a false v u=operate [v,u] (getItem v u)->wpAny (model X.prog X.w) X.A (subscriptTail b a v u) (EP X pins σ Q) X.xe s
def MtR(X:Cx)(id:String)(r:V->List V->Hp->VK->Prop):Prop:=
 ∀(pins:List (Addr×Obj)) (s:Shared) (σ:St) (H:Hp) (x:V) (xs:List V) (v:Value) (us:List Value) (Q:VK),Inv X pins σ H s->RelV x v->Vals xs us->r x xs H Q ->
  wpAny (model X.prog X.w) X.A (call (.builtin id) (v::us)) (EP X pins σ Q) X.xe s
section
variable{X:Cx}{a b:Expr}{ta tb:TE}{pos:Pos}
theorem IxR.or{d:R2}(h:IxR X r)(h':IxR X d):IxR X (λx y H Q=>r x y H Q\/d x y H Q):=by
 intro b a pins s σ H x y v u Q I e f q c;rcases q with q | q
 .show h b a pins s σ H x y v u Q I e f q c
 .show h' b a pins s σ H x y v u Q I e f q c
theorem qx(f:IxR X r)(e:PE X a ta)(hb:PE X b tb)(g:PlainIx b):PE X (.Subscript a b pos) (tOp r ta tb):=by
 intro pins s σ H Q I h;show Subscript_ (qhv e hb I h λv u l x y c d i j q=>f a b pins l σ c x y v u Q d i j q (g _ _))
inductive rIxL(K:yf)(x:V)(y:V)(H:Hp)(Q:VK):Prop|mk (p xs i v:_) (_:x=.ref p) (_:y=.int i) (_:SqL K H p xs) (_:atI xs i=some v) (_:Q v H)
inductive rIxT(K:yf)(x:V)(y:V)(H:Hp)(Q:VK):Prop|mk (p xs i v:_) (_:x=.ref p) (_:y=.int i) (_:SqT K H p xs) (_:atI xs i=some v) (_:Q v H)
inductive rIxS(x:V)(y:V)(H:Hp)(Q:VK):Prop|mk (z i c:_) (_:x=.str z) (_:y=.int i) (_:z.length<=sizeLine) (_:atI z.cps.toList i=some c) (_:Q (.str ⟨#[c]⟩) H)
theorem ix_list:IxR X (rIxL X.K):=by
 intro e d pins s σ H x y v u Q I C D h l;obtain⟨p,xs,i,z,rfl,rfl,B,A,q⟩:=h;cases C;obtain⟨t,rfl⟩:=D;obtain⟨its,r,pl,J⟩:=I.list B;obtain⟨j,h1,m,F,n,o⟩:=qdT A;obtain⟨w,f,c⟩:=r.get m;have hl:=r.length;have G:=qct;have a:EP X pins σ Q w s:=⟨z,H,I,c,q⟩;by_cases g:0<=i
 .have b:i.toNat=j:=by
   rw[seqIndex_of g o] at h1;show yl h1
  show item_listR pl.isList g (by lk) (by rw[b];simpa using f) a l
 .have b:(i+(its.toArray.size:Int)).toNat=j:=by
   rw[seqIndex_neg (by lk) n] at h1;rw[yB,<- hl];show yl h1
  show subscriptTail_builtinR (x:=w) pl.isList.typeIs X1.lookup
   (wpAny_getItem_list_neg (Q:=λr E=>r=w/\EP X pins σ Q r E) pl.isList (by lk) (by rw[yB]<;>lk) (by lk) (by rw[b];simpa using f) ⟨rfl,a⟩) l
theorem ix_tup:IxR X (rIxT X.K):=by
 intro d c pins s σ H x y v u Q I n o h m;obtain⟨p,xs,i,z,rfl,rfl,l,g,q⟩:=h;cases n;obtain⟨t,rfl⟩:=o;obtain⟨its,r,pl,F⟩:=I.tuple l;obtain⟨j,h1,f,B,C,D⟩:=qdT g;obtain⟨w,e,b⟩:=r.get f;have hl:=r.length;have E:=qct;have a:EP X pins σ Q w s:=⟨z,H,I,b,q⟩;show subscriptTail_builtinR (x:=w) pl.typeIs slot_tuple_getitem.lookup
  (getItem_tuple (j:=j) (Q:=λr A=>r=w/\EP X pins σ Q r A) pl (by lk) (by lk) (by rw[yB,<- hl];show h1) (by simpa using e) ⟨rfl,a⟩) m
theorem ix_str:IxR X rIxS:=by
 intro b a pins s σ H x y v u Q I o p h n;obtain⟨z,i,c,rfl,rfl,A,m,q⟩:=h;obtain⟨t,rfl⟩:=o;obtain⟨t',rfl⟩:=p;obtain⟨j,h1,f,r,g,l⟩:=qdT m;have hl:z.cps.toList.length=z.length:=by simp[Str.length]
 rw[hl] at h1 g l;have w:=qct
 show tail_any (typeIs_str s z t) slot_str_getitem.lookup (getItem_str (c:=c) (by
  have d:decide (i < -(2 ^ 63:Int))=false:=yk (by lk);have e:decide (i ≥ 2 ^ 63)=false:=yk (by lk);rw[d,e,Xq]) (by rw[h1];simpa using f) ⟨.str ⟨#[c]⟩,H,I.tok _,⟨_,rfl⟩,q⟩) n
def rIx(K:yf):R2:=λx y H Q=>rIxL K x y H Q\/rIxT K x y H Q\/rIxS x y H Q
theorem ix_seq:IxR X (rIx X.K):=ix_list.or (ix_tup.or ix_str)
theorem mapSeq_set(its:List Value)(n j:Nat)(u:Value):Obj.mapSeq (·.setIfInBounds j u) { cls:=.type "list",data:=.seq its.toArray n }={ cls:=.type "list",data:=.seq (its.set j u).toArray n }:=by
 simp[Obj.mapSeq]
theorem Inv.lst(I:Inv X pins σ H s)(h:H p=some (.lst xs)) :
  ∃(its:List Value) (n:Nat),Vals xs its/\s.heap.get? p=some { cls:=.type "list",data:=.seq its.toArray n }/\xs.length<=sizeLine:=by
 obtain⟨z,its,n,r,e⟩:=I.hok p _ h;show⟨its,n,r,e,z⟩
theorem Inv.lstUpd{ys:List V}{a:Nat}{f:Obj->Obj}(I:Inv X pins σ H s)(h:H p=some (.lst xs))
  (d:s.heap.get? p=some { cls:=.type "list",data:=.seq its.toArray n }) (c:f { cls:=.type "list",data:=.seq its.toArray n }={ cls:=.type "list",data:=.seq its'.toArray a }) (r:Vals ys its') (g:ys.length<=sizeLine) (t:Nat) :
  Inv X pins σ (upd H p (.lst ys)) { s with heap:=s.heap.update p f,toks:=t }:=by
 have e:(s.heap.update p f).get? p=some { cls:=.type "list",data:=.seq its'.toArray a }:=by
  rw[Heap.get?_update_self f d (by rw[c]<;>rfl),c]
 show I.write (x:=p) (e:=p) (by rw[h];trivial) (.inl rfl) (λb u hb q=>(Heap.get?_update_other _ _ (YB hb)).trans q) ⟨_,e⟩ ?_;show⟨g,its',a,r,e⟩
inductive rSetL(o:V)(i:V)(v:V)(H:Hp)(Q:(Hp->Prop)):Prop|mk (p xs k j:_) (_:o=.ref p) (_:i=.int k) (_:H p=some (.lst xs)) (_:ixN xs.length k=some j) (_:Q (upd H p (.lst (xs.set j v))))
theorem set_list:qhu X rSetL:=by
 intro pins s σ H o i v B iv u Q I x w y h;obtain⟨p,xs,k,j,rfl,rfl,g,l,q⟩:=h;cases x;obtain⟨t,rfl⟩:=w;obtain⟨its,n,r,b,m⟩:=I.lst g;obtain⟨h1,z,e,f⟩:=qe7 l;have hl:=r.length;have A:=qct
 have c:Inv X pins σ (upd H p (.lst (xs.set j v))) { s with heap:=s.heap.update p (Obj.mapSeq (·.setIfInBounds j u)) }:=
  I.lstUpd g b (mapSeq_set its n j u) (r.set y j) (by rw[XI];show m) s.toks
 by_cases d:0<=k
 .have a:k.toNat=j:=by
   rw[seqIndex_of d f] at h1;show yl h1
  show PySem.W.ki_setAt b d (by lk) (by rw[yB,<- hl];show f) (by rw[a];show⟨_,c,q⟩)
 .have a:(k+(its.toArray.size:Int)).toNat=j:=by
   rw[seqIndex_neg (by lk) e] at h1;rw[yB,<- hl];show yl h1
  show PySem.W.ki_setBack b (by lk) (by rw[yB,<- hl];show e) (by lk) (by rw[a];show⟨_,c,q⟩)
theorem slice_bounds(lo a:Option Int)(n:Nat):(sliceBounds lo a none n).1=((HT.sIx n 0 lo:Nat):Int)/\(sliceBounds lo a none n).2.1=((HT.sIx n n a:Nat):Int)/\(sliceBounds lo a none n).2.2=1:=by
 show⟨?_,?_,rfl⟩
 .cases lo with
  | none=>simp[sliceBounds,HT.sIx]
  | some i =>
   simp only[sliceBounds,HT.sIx,Option.getD_none,show(1:Int)>0 by decide,Xl];by_cases h:i<0
   .simp only[h,Xl]<;>lk
   .simp only[h,ky]<;>lk
 .cases a with
  | none=>simp[sliceBounds,HT.sIx]
  | some i =>
   simp only[sliceBounds,HT.sIx,Option.getD_none,show(1:Int)>0 by decide,Xl];by_cases h:i<0
   .simp only[h,Xl]<;>lk
   .simp only[h,ky]<;>lk
theorem slicePick_cut(its:List Value)(lo a:Option Int):slicePick its.toArray lo a none=((its.drop (HT.sIx its.length 0 lo)).take (HT.sIx its.length its.length a-HT.sIx its.length 0 lo)).toArray:=by
 obtain⟨h1,b,c⟩:=slice_bounds lo a its.toArray.size;unfold slicePick;rw[h1,b,c];simp only[sliceRange_one,pick_run,yB]<;>rfl
inductive rSlL(K:yf)(x:V)(lo:Option Int)(hi:Option Int)(H:Hp)(Q:VK):Prop|mk (a xs:_) (_:x=.ref a) (_:SqL K H a xs) (_:∀ p,H p=none->Q (.ref p) (upd H p (.lst (qdO xs lo hi))))
theorem sl_list:SlR X (rSlL X.K):=by
 intro pins s σ H x v p t lo d n Q I l f pl j h;obtain⟨a,xs,rfl,g,q⟩:=h;cases l;obtain⟨its,r,e,i⟩:=I.list g;have c:=r.length;show⟨"list",_,X1.lookup,e.isList.typeIs,?_⟩;show wpAny_getItem_list_slice e.isList f pl j .none (by simp) ?_ (by rw[yB]<;>lk);rw[slicePick_cut,<- c];show⟨.ref s.heap.objs.size,_,I.laid (t':=s.toks) (o:=.lst (qdO xs lo d)) (λb m q=>yz _ q) (yg _) ?_,rfl,q _ (I.hok.fresh (yg _))⟩;show⟨yh (qbU xs lo d) i,_,0,(r.drop (HT.sIx xs.length 0 lo)).take (HT.sIx xs.length xs.length d-HT.sIx xs.length 0 lo),yY _ rfl⟩
def qaM:V->Bool
 | .non=>true
 | .bl _=>true
 | .int _=>true
 | .str _=>true
 | _=>false
def eqV:V->V->Bool
 | .non,.non=>true
 | .bl a,.bl b=>a==b
 | .bl a,.int b=>(if a then 1 else 0)==b
 | .int a,.bl b=>a==(if b then 1 else 0)
 | .int a,.int b=>a==b
 | .str a,.str b=>a==b
 | _,_=>false
theorem qe8(e:RelV y u)(c:RelV x v)(f:qaM y=true)(d:qaM x=true):SeqAt.EqAt A s u v (eqV y x):=by
 cases y with
 | non =>
  cases e
  cases x with
  | non=>cases c;show XJ _
  | bl b=>cases c;show SeqAt.EqAt.none_bool b
  | int b=>obtain⟨t,rfl⟩:=c;show SeqAt.EqAt.none_int b t
  | str b=>obtain⟨t,rfl⟩:=c;show SeqAt.EqAt.none_str b t
  | _=>show absurd (show false=true from d) Ys
 | bl a =>
  cases e
  cases x with
  | non=>cases c;show SeqAt.EqAt.bool_none a
  | bl b=>cases c;show SeqAt.EqAt.bool_bool a b
  | int b=>obtain⟨t,rfl⟩:=c;show SeqAt.EqAt.bool_int a b t
  | str b=>obtain⟨t,rfl⟩:=c;show SeqAt.EqAt.bool_str a b t
  | _=>show absurd (show false=true from d) Ys
 | int a =>
  obtain⟨t',rfl⟩:=e
  cases x with
  | non=>cases c;show SeqAt.EqAt.int_none a t'
  | bl b=>cases c;show SeqAt.EqAt.int_bool a t' b
  | int b=>obtain⟨t,rfl⟩:=c;show SeqAt.EqAt.int_int a t' b t
  | str b=>obtain⟨t,rfl⟩:=c;show SeqAt.EqAt.int_str a t' b t
  | _=>show absurd (show false=true from d) Ys
 | str a =>
  obtain⟨t',rfl⟩:=e
  cases x with
  | non=>cases c;show SeqAt.EqAt.str_none a t'
  | bl b=>cases c;show SeqAt.EqAt.str_bool a t' b
  | int b=>obtain⟨t,rfl⟩:=c;show SeqAt.EqAt.str_int a t' b t
  | str b=>obtain⟨t,rfl⟩:=c;show SeqAt.EqAt.str_str a t' b t
  | _=>show absurd (show false=true from d) Ys
 | _=>show absurd (show false=true from f) Ys
def eqU(x:V)(u:Value):Bool:=match u with
 | .none=>eqV .non x
 | .bool b=>eqV (.bl b) x
 | .int i _=>eqV (.int i) x
 | .str z _=>eqV (.str z) x
 | _=>false
theorem qe9(r:RelV y u)(f:qaM y=true):eqU x u=eqV y x:=by
 cases y with
 | non=>cases r;rfl
 | bl b=>cases r;rfl
 | int i=>obtain⟨t,rfl⟩:=r;rfl
 | str z=>obtain⟨t,rfl⟩:=r;rfl
 | _=>show absurd (show false=true from f) Ys
theorem qbV:∀{xs:List V} {us:List Value},Vals xs us->xs.all qaM=true->us.any (eqU x)=xs.any λy=>eqV y x
 | _,_,.nil,_=>rfl
 | y::xs,u::us,.cons r t,f=>by
  rw[Xa,y1] at f;rw[Xb,Xb,qe9 r f.1,qbV t f.2]
theorem qaw(b:RelV x v)(a:qaM x=true):∀{xs:List V} {us:List Value},Vals xs us->xs.all qaM=true->∀ u∈us,SeqAt.EqAt A s u v (eqU x u)
 | _,_,.nil,_=>λu hu=>by cases hu
 | y::xs,u::us,.cons r t,f=>λc hu=>by
  rw[Xa,y1] at f;rcases yN.mp hu with rfl | hu
  .rw [qe9 r f.1];show qe8 r b f.1 a
  .show qaw b a t f.2 c hu
def inV(x:V)(xs:List V):Bool:=xs.any λy=>eqV y x
inductive rIn(K:yf)(neg:Bool)(x:V)(y:V)(H:Hp)(Q:VK):Prop|mk (p xs:_) (_:y=.ref p) (_:(SqL K H p xs\/SqT K H p xs)) (_:qaM x=true) (_:xs.all qaM=true) (_:Q (.bl (if neg then !inV x xs else inV x xs)) H)
theorem op_in_seq:OpR X (compareOp .In) (rIn X.K false):=by
 intro pins s σ H x y v u Q I b d h;obtain⟨p,xs,rfl,hq,a,fs,q⟩:=h;cases d;rcases hq with hq | hq
 .obtain⟨its,r,pl,c⟩:=I.list hq;show SeqAt.in_listAt (eqU x) pl.isList (λw hw=>qaw b a r fs w (by simpa using hw)) ⟨.bl _,H,I,rfl,?_⟩;rw[show its.toArray.any (eqU x)=its.any (eqU x) by simp,qbV r fs];show q
 .obtain⟨its,r,pl,c⟩:=I.tuple hq;show SeqAt.in_tupleAt (eqU x) pl (λw hw=>qaw b a r fs w (by simpa using hw)) ⟨.bl _,H,I,rfl,?_⟩;rw[show its.toArray.any (eqU x)=its.any (eqU x) by simp,qbV r fs];show q
theorem op_notIn_seq:OpR X (compareOp .NotIn) (rIn X.K true):=by
 intro pins s σ H x y v u Q I b d h;obtain⟨p,xs,rfl,hq,a,fs,q⟩:=h;cases d;rcases hq with hq | hq
 .obtain⟨its,r,pl,c⟩:=I.list hq;show SeqAt.notIn_listAt (eqU x) pl.isList (λw hw=>qaw b a r fs w (by simpa using hw)) ⟨.bl _,H,I,rfl,?_⟩;rw[show its.toArray.any (eqU x)=its.any (eqU x) by simp,qbV r fs];show q
 .obtain⟨its,r,pl,c⟩:=I.tuple hq;show SeqAt.notIn_tupleAt (eqU x) pl (λw hw=>qaw b a r fs w (by simpa using hw)) ⟨.bl _,H,I,rfl,?_⟩;rw[show its.toArray.any (eqU x)=its.any (eqU x) by simp,qbV r fs];show q
theorem call_len_seq:qag X (.builtin "len") (λxs H Q=>∃ p ys,xs=[.ref p]/\(SqL X.K H p ys\/SqT X.K H p ys)/\Q (.int ys.length) H):=by
 intro pins s σ H xs us Q I r h;obtain⟨p,ys,rfl,hq,q⟩:=h;obtain⟨u,rfl,d⟩:=qcM r;cases d;have e:=qct;rcases hq with hq | hq
 .obtain⟨its,b,pl,c⟩:=I.list hq;have a:=b.length;show Calls.call_len_list pl.isList (by simp only[yB]<;>lk) ⟨.int ys.length,H,I.tok _,⟨s.toks+1,by rw[yB,a]⟩,q⟩
 .obtain⟨its,b,pl,c⟩:=I.tuple hq;have a:=b.length;show len_tuple pl (by simp only[yB]<;>lk) ⟨.int ys.length,H,I.tok _,⟨s.toks+1,by rw[yB,a]⟩,q⟩
theorem call_len_str:qag X (.builtin "len") (λxs H Q=>∃ z,xs=[.str z]/\z.length<=sizeLine/\Q (.int z.length) H):=by
 intro pins s σ H xs us Q I r h;obtain⟨z,rfl,b,q⟩:=h;obtain⟨u,rfl,t,rfl⟩:=qcM r;have a:=qct;show len_str (by lk) ⟨.int z.length,H,I.tok _,⟨_,rfl⟩,q⟩
theorem call_list_of:qag X (.type "list") (λxs H Q=>∃ p ys,xs=[.ref p]/\(SqL X.K H p ys\/SqT X.K H p ys)/\∀ l,H l=none->Q (.ref l) (upd H l (.lst ys))):=by
 intro pins s σ H xs us Q I r h;obtain⟨p,ys,rfl,hq,q⟩:=h;obtain⟨u,rfl,v⟩:=qcM r;cases v;have d:∀(its:List Value),Vals ys its->ys.length<=sizeLine->∀(h':Heap) (a:Nat),(∀ b t,s.heap.get? b=some t->h'.get? b=some t) ->
   h'.get? s.heap.objs.size=some { cls:=.type "list",dict:=none,data:=.seq its.toArray a,slots:=#[] }->EP X pins σ Q (.ref s.heap.objs.size) { s with heap:=h' }:=λits c g h' a i e =>
  ⟨.ref s.heap.objs.size,_,I.laid (t':=s.toks) i (yg _) (show ObjOk X.prog X.w _ h' _ (.lst ys) from⟨g,its,a,c,e⟩),rfl,q _ (I.hok.fresh (yg _))⟩
 rcases hq with hq | hq
 .obtain⟨its,c,pl,g⟩:=I.list hq;have f:=c.length;obtain⟨o,m,hc,n,j⟩:=pl.isList;show call_list_seq p (.inl rfl) m hc j (λh' a i e=>d its c g h' a i e) (by simp only[yB]<;>lk)
 .obtain⟨its,c,pl,g⟩:=I.tuple hq;have f:=c.length;obtain⟨o,m,hc,n,j⟩:=pl;show call_list_seq p (.inr rfl) m hc j (λh' a i e=>d its c g h' a i e) (by simp only[yB]<;>lk)
theorem call_tuple_of:qag X (.type "tuple") (λxs H Q=>∃ p ys,xs=[.ref p]/\((SqL X.K H p ys/\∀ l,H l=none->Q (.ref l) (upd H l (.tup ys)))\/(SqT X.K H p ys/\Q (.ref p) H))):=by
 intro pins s σ H xs us Q I r h;obtain⟨p,ys,rfl,h⟩:=h;obtain⟨u,rfl,m⟩:=qcM r;cases m;rcases h with⟨a,q⟩ | ⟨a,q⟩
 .obtain⟨its,c,pl,g⟩:=I.list a;have f:=c.length;show call_tuple_list pl.isList (λh' j=>?_) (by simp only[yB]<;>lk);have d:Inv X pins σ H { s with heap:=h' }:=I.kept (t':=s.toks) j
  have i:Inv X pins σ (upd H h'.objs.size (.tup ys)) { s with heap:=h'.push { cls:=.type "tuple",data:=.seq its.toArray } }:=
   d.laid (t':=s.toks) (λb o e=>yz _ e) (yg _) (show ObjOk X.prog X.w _ _ _ (.tup ys) from⟨g,its,c,IsTup.new _ _⟩)
  show⟨.ref h'.objs.size,_,i,rfl,q _ (d.hok.fresh (yg _))⟩
 .obtain⟨its,c,pl,g⟩:=I.tuple a;show call_tuple_same pl ⟨.ref p,H,I,rfl,q⟩
def tyV(K:yf)(T:String)(x:V)(H:Hp):Prop:=match x with
 | .str _=>T="str"
 | .int _=>T="int"
 | .ref p=>(T="list"/\∃ xs,SqL K H p xs)\/(T="tuple"/\∃ o,K.lookup p=some o/\o.cls=.type "tuple"/\o.dict=none) \/
   (T="dict"/\((∃ kvs,H p=some (.dK kvs))\/∃ kvs,H p=some (.dT kvs)))\/(T="set"/\∃ S n,H p=some (.set S n))
 | _=>False
theorem qgg{T:String}(I:Inv X pins σ H s)(r:RelV x v)(ty:tyV X.K T x H) :
  s.TypeIs v T/\∀ a,v=.ref a->∃ h,s.heap.get? a=some h/\h.dict=none:=by
 cases x with
 | str z =>
  obtain⟨t,rfl⟩:=r;cases (show T="str" from ty);show⟨typeIs_str s z t,λ_ e=>nomatch e⟩
 | int i =>
  obtain⟨t,rfl⟩:=r;cases (show T="int" from ty);show⟨typeIs_int s i t,λ_ e=>nomatch e⟩
 | ref p =>
  cases r;rcases ty with⟨rfl,xs,j⟩ | ⟨rfl,o,b,hc,g⟩ | ⟨rfl,b⟩ | ⟨rfl,S,n,b⟩
  .obtain⟨its,_,pl,_⟩:=I.list j;show⟨pl.isList.typeIs,λa e=>?_⟩;cases e;obtain⟨o,n,e,c,g,_⟩:=pl;show⟨o,e,g⟩
  .show⟨⟨o,I.kIn p o b,hc⟩,λa e=>?_⟩;cases e;show⟨o,I.kIn _ o b,g⟩
  .have z:∃ o,s.heap.get? p=some o/\o.ExactDict:=by
    rcases b with⟨kvs,b⟩ | ⟨kvs,b⟩
    .obtain⟨_,_,_,_,o,_,_,e,d,_⟩:=I.hok p _ b;show⟨o,e,d⟩
    .obtain⟨_,_,_,_,o,_,_,e,d,_⟩:=I.hok p _ b;show⟨o,e,d⟩
   obtain⟨o,e,d⟩:=z;show⟨⟨o,e,d.1⟩,λa f=>?_⟩;cases f;show⟨o,e,d.2.1⟩
  .obtain⟨o,_,_,_,e,d,_⟩:=I.hok p _ b;show⟨⟨o,e,d.1⟩,λa f=>?_⟩;cases f;show⟨o,e,d.2.1⟩
 | _=>show False.elim ty
def qhw(K:yf)(T:String)(r:V->List V->Hp->VK->Prop)(to:TE):TE:=fun σ H Q=>to σ H λx a=>tyV K T x a/\r x [] a Q
def tBM(K:yf)(T:String)(r:V->List V->Hp->VK->Prop)(to:TE)(t:TA):TE:=fun σ H Q=>to σ H λx a=>tyV K T x a/\t σ a λxs b=>r x xs b Q
variable{o e:Expr}{es:List Expr}{to:TE}{t:TA}{name:Str}{apos cpos:Pos}{T id:String}{r:V->List V->Hp->VK->Prop}
theorem pe_bm0(m:PlainAttrs T)(c:Slot T name id)(d:typeOf (.builtin id)=pure (.type "method_descriptor"))(j:MtR X id r)(l:PE X o to)
  (a:attributeBase o name X.env (eval o X.env)=eval o X.env:=by rfl) (b:(apos.endLine==cpos.line)=true:=by rfl):PE X (.Call (.Attribute o name apos) [] [] cpos) (qhw X.K T r to):=by
 intro pins s σ H Q I h;show wpAny_Call_method0_late a b (thn (l pins s σ H _ I h) λv p ⟨x,g,e,f,ty,n⟩=>?_);obtain⟨h1,i⟩:=qgg e f ty;show⟨T,id,m,c,d,h1,i,Xu rfl (PySem.evalArgs_none (j pins p σ g x [] v [] Q e f .nil n))⟩
theorem pe_bm(A:PlainAttrs T)(f:Slot T name id)(g:typeOf (.builtin id)=pure (.type "method_descriptor"))(w:MtR X id r)(y:PE X o to)(u:PA X (e::es) t)
  (b:attributeBase o name X.env (eval o X.env)=eval o X.env:=by rfl)
  (d:((backTo cpos (starEach (e::es) X.env)).all (λx=>!x.1)&&(backToKw cpos (keywordEach [] X.env)).all (λx=>x.1.isSome)
   && decide ((e::es).length+([]:List Keyword).length+(if ([]:List Keyword).isEmpty then 0 else 1)<30))=true:=by rfl)
  (c:(apos.endLine==cpos.line)=true:=by rfl) (z:starEach (e::es) X.env=(false,eval e X.env)::starEach es X.env:=by rfl) (a:(backTo cpos (starEach es X.env)).any (·.1)=false:=by rfl) :
  PE X (.Call (.Attribute o name apos) (e::es) [] cpos) (tBM X.K T r to t):=by
 intro pins s σ H Q I h;show wpAny_Call_method_late b d c rfl (thn (y pins s σ H _ I h) λv E ⟨x,m,i,l,ty,B⟩=>?_);obtain⟨h1,q⟩:=qgg i l ty;show⟨T,id,A,f,g,h1,q,?_⟩;have j:=u cpos pins E σ m _ i B;rw[z] at j ⊢;show Xu (by show(false||(backTo cpos (starEach es X.env)).any (·.1))=false;rw[a]<;>rfl) (Calls.evalArgs_plain ?_);show thn j λus F ⟨vs,n,p,D,C⟩=>w pins F σ n x vs v us Q p l D C
end
def MtM(X:Cx)(id:String)(r:V->List V->Hp->VK->Prop):Prop:=
 ∀(pins:List (Addr×Obj)) (s:Shared) (σ:St) (H:Hp) (x:V) (xs:List V) (v:Value) (us:List Value) (Q:VK),Inv X pins σ H s->RelV x v->Vals xs us->r x xs H Q ->
  wpAny (model X.prog X.w) X.A (call (.builtin id) (v::us)) (EP X pins σ Q) X.xe s
theorem Vals.one:∀{x:V} {us:List Value},Vals [x] us->∃ u,us=[u]/\RelV x u
 | _,_,.cons r .nil=>⟨_,rfl,r⟩
theorem Vals.zero:∀{us:List Value},Vals [] us->us=[]
 | _,.nil=>rfl
theorem Vals.dropLast(h:Vals xs us):Vals xs.dropLast us.dropLast:=by
 induction h with
 | nil=>show .nil
 | cons r t ih =>
  cases t with
  | nil=>show .nil
  | cons q t'=>show .cons r ih
theorem Vals.eraseIdx:∀{xs:List V} {us:List Value} (i:Nat),Vals xs us->Vals (xs.eraseIdx i) (us.eraseIdx i)
 | _,_,_,.nil=>.nil
 | _,_,0,.cons _ t=>t
 | _,_,i+1,.cons r t=>.cons r (Vals.eraseIdx i t)
theorem Vals.rep(h:Vals xs us):∀ k:Nat,Vals (List.replicate k xs).flatten (List.replicate k us).flatten
 | 0=>.nil
 | k+1=>by
  rw[xk,xk,Xe,Xe];show Vals.append h (Vals.rep h k)
theorem erase_last(l:List α):l.eraseIdx (l.length-1)=l.dropLast:=by
 induction l with
 | nil=>rfl
 | cons a r ih =>
  cases r with
  | nil=>rfl
  | cons b r =>
   have e:(a::b::r).length-1=((b::r).length-1)+1:=by
    have h1:(a::b::r).length=r.length+2:=rfl;have c:(b::r).length=r.length+1:=rfl;lk
   rw[e,List.eraseIdx_cons_succ,ih]
   all_goals rfl
theorem qdj:∀(l:List α) (i:Nat),(l.eraseIdx i).length<=l.length
 | [],_=>yg _
 | _::_,0=>xm _
 | _::r,i+1=>Nat.succ_le_succ (qdj r i)
theorem qdk(its:List Value):∀(k:Nat) (acc:List Value),
  List.foldl (λb c=>b++c) acc.toArray (List.replicate k its.toArray)=(acc++(List.replicate k its).flatten).toArray
 | 0,acc=>by simp
 | k+1,acc=>by
  have e:acc.toArray++its.toArray=(acc++its).toArray:=by simp
  have a:(acc++its)++(List.replicate k its).flatten=acc++(List.replicate (k+1) its).flatten:=by
   rw[xk,Xe,Yu]
  rw[<- a,<- qdk its k (acc++its),<- e,xk,List.foldl_cons]
section
variable{X:Cx}{pins:List (Addr×Obj)}{σ:St}{H:Hp}{s:Shared}{l b:Addr}{xs ys zs:List V}
theorem Inv.lset{f:Array Value->Array Value}(I:Inv X pins σ H s)(a:H l=some (.lst xs))
  (e:s.heap.get? l=some { cls:=.type "list",data:=.seq its.toArray n }) (b:f its.toArray=its'.toArray) (hv:Vals ys its') (d:ys.length<=sizeLine) :
  Inv X pins σ (upd H l (.lst ys)) { s with heap:=s.heap.update l (Obj.mapSeq f),toks:=t' }:=by
 have q:=PySem.IsL.update e f;rw[b] at q;show I.write (x:=l) (e:=l) (by rw[a];show trivial) (.inl rfl) (λg u hb c=>(Heap.get?_update_other s.heap (Obj.mapSeq f) (YB hb)).trans c) ⟨_,q⟩ ?_;show⟨d,its',_,hv,q⟩
theorem Inv.lnew(I:Inv X pins σ H s)(hv:Vals ys its)(a:ys.length<=sizeLine) :
  Inv X pins σ (upd H s.heap.objs.size (.lst ys)) { s with heap:=s.heap.push { cls:=.type "list",data:=.seq its.toArray },toks:=t' }:=
 I.laid (λ_ _ q=>yz _ q) (yg _) ⟨a,its,0,hv,yY _ rfl⟩
theorem Inv.fresh(I:Inv X pins σ H s):H s.heap.objs.size=none:=I.hok.fresh (yg _)
theorem Inv.lstM(I:Inv X pins σ H s)(a:H l=some (.lst xs)):xs.length<=sizeLine/\∃(its:List Value) (n:Nat),Vals xs its/\xs.length=its.length/\s.heap.get? l=some { cls:=.type "list",data:=.seq its.toArray n }:=by
 obtain⟨z,its,n,r,e⟩:=I.hok l _ a;show⟨z,its,n,r,r.length,e⟩
theorem notLongL(h:n<=sizeLine):Builtin.List.listTooLong n=false:=by
 unfold Builtin.List.listTooLong;show yk (by lk)
end
section
variable{X:Cx}
inductive rAppend(x:V)(vs:List V)(H:Hp)(Q:VK):Prop|mk (l xs y:_) (_:x=.ref l) (_:vs=[y]) (_:H l=some (.lst xs)) (_:xs.length<sizeLine) (_:Q .non (upd H l (.lst (xs++[y]))))
theorem mt_append:MtM X "list.append" rAppend:=by
 intro pins s σ H x vs v us Q I d c h;obtain⟨l,xs,y,rfl,rfl,a,f,q⟩:=h;cases d;obtain⟨u,rfl,b⟩:=c.one;obtain⟨z,its,n,r,hl,e⟩:=I.lstM a;show XX F.slot_list_append ⟨_,e,rfl⟩ F.entry_list_append (F.args_list_append_2 _ _) (PySem.list_append l its.toArray n u (by rw[yB];lk)) ⟨e,?_⟩;show⟨.non,_,I.lset (its':=its++[u]) a e (by simp) (r.append (.cons b .nil)) ?_,rfl,q⟩;rw[yu,xt];lk
inductive rExtend(x:V)(vs:List V)(H:Hp)(Q:VK):Prop|mk (l b xs zs:_) (_:x=.ref l) (_:vs=[.ref b]) (_:H l=some (.lst xs)) (_:H b=some (.lst zs)) (_:xs.length+zs.length<=sizeLine) (_:Q .non (upd H l (.lst (xs++zs))))
inductive rPop(x:V)(vs:List V)(H:Hp)(Q:VK):Prop|mk (l xs y:_) (_:x=.ref l) (_:vs=[]) (_:H l=some (.lst xs)) (_:xs[xs.length-1]?=some y) (_:Q y (upd H l (.lst xs.dropLast)))
theorem mt_pop:MtM X "list.pop" rPop:=by
 intro pins s σ H x vs v us Q I j i h;obtain⟨l,xs,y,rfl,rfl,c,f,q⟩:=h;cases j;have a:=i.zero;subst a;obtain⟨z,its,n,r,hl,e⟩:=I.lstM c;obtain⟨u,d,g⟩:=r.get f
 have b:its.toArray[its.toArray.size-1]?=some u:=by
  show its.toArray[its.length-1]?=some u;rw[<- Xx,<- hl];show d
 show XX F.slot_list_pop ⟨_,e,rfl⟩ F.entry_list_pop (F.args_list_pop_1 _) (MeetsSeq.list_pop_last l its.toArray n u b (by rw[yB];lk)) ⟨e,?_⟩;show⟨y,_,I.lset (its':=its.dropLast) c e ?_ r.dropLast ?_,g,q⟩
 .show its.toArray.eraseIdxIfInBounds (its.toArray.size-1)=its.dropLast.toArray;rw[yB,List.eraseIdxIfInBounds_toArray,erase_last]
 .rw [Xf];lk
inductive rPopAt(x:V)(vs:List V)(H:Hp)(Q:VK):Prop|mk (l xs i k y:_) (_:x=.ref l) (_:vs=[.int i]) (_:H l=some (.lst xs)) (_:-(2 ^ 63)<=i) (_:i<2 ^ 63) (_:seqIndex? i xs.length=some k) (_:xs[k]?=some y) (_:Q y (upd H l (.lst (xs.eraseIdx k))))
theorem mt_popAt:MtM X "list.pop" rPopAt:=by
 intro pins s σ H x vs v us Q I m j h;obtain⟨l,xs,i,k,y,rfl,rfl,b,h1,c,d,f,q⟩:=h;cases m;obtain⟨u,rfl,g⟩:=j.one;obtain⟨t,rfl⟩:=g;obtain⟨z,its,n,r,hl,e⟩:=I.lstM b;obtain⟨w,hw,a⟩:=r.get f;show XX F.slot_list_pop ⟨_,e,rfl⟩ F.entry_list_pop (F.args_list_pop_2 _ _)
  (MeetsSeq.list_pop_at l its.toArray n i t k w (fitsIndex_both h1 c) (by rw[yB,<- hl];show d) (by rw[<- Xx];show hw) (by rw[yB];lk)) ⟨e,?_⟩
 show⟨y,_,I.lset (its':=its.eraseIdx k) b e ?_ (r.eraseIdx k) ?_,a,q⟩
 .show its.toArray.eraseIdxIfInBounds k=(its.eraseIdx k).toArray;rw[List.eraseIdxIfInBounds_toArray]
 .have:=qdj xs k;lk
inductive rReverse(x:V)(vs:List V)(H:Hp)(Q:VK):Prop|mk (l xs:_) (_:x=.ref l) (_:vs=[]) (_:H l=some (.lst xs)) (_:Q .non (upd H l (.lst xs.reverse)))
inductive rClear(x:V)(vs:List V)(H:Hp)(Q:VK):Prop|mk (l xs:_) (_:x=.ref l) (_:vs=[]) (_:H l=some (.lst xs)) (_:Q .non (upd H l (.lst [])))
inductive rCat(x:V)(y:V)(H:Hp)(Q:VK):Prop|mk (l b xs zs:_) (_:x=.ref l) (_:y=.ref b) (_:H l=some (.lst xs)) (_:H b=some (.lst zs)) (_:xs.length+zs.length<=sizeLine) (_:∀ p,H p=none->Q (.ref p) (upd H p (.lst (xs++zs))))
theorem op_cat:OpR X (binaryOp .Add) rCat:=by
 intro pins s σ H x y v u Q I m o h;obtain⟨l,b,xs,A,rfl,rfl,g,f,p,q⟩:=h;cases m;cases o;obtain⟨z,its,n,r,hl,e⟩:=I.lstM g;obtain⟨w,a,t,j,i,c⟩:=I.lstM f;show PySem.P.add_list e c ?_ (by rw[yB,yB];lk);have d:its.toArray++a.toArray=(its++a).toArray:=by simp
 rw[d];show⟨.ref _,_,I.lnew (t':=s.toks) (r.append j) (by rw[yu];lk),rfl,q _ I.fresh⟩
inductive rRep(x:V)(y:V)(H:Hp)(Q:VK):Prop|mk (l k xs:_) (_:x=.ref l) (_:y=.int k) (_:H l=some (.lst xs)) (_:-(2 ^ 63)<=k) (_:k<2 ^ 63) (_:xs.length*k.toNat<=sizeLine) (_:∀ p,H p=none->Q (.ref p) (upd H p (.lst (List.replicate k.toNat xs).flatten)))
theorem len_rep(xs:List α)(k:Nat):(List.replicate k xs).flatten.length=k*xs.length:=by
 induction k with
 | zero=>simp
 | succ k ih=>rw[xk,Xe,yu,ih,Nat.succ_mul,Nat.add_comm]
theorem qgh:OpR X (binaryOp .Mult) rRep:=by
 intro pins s σ H x y v u Q I B C h;obtain⟨l,k,xs,rfl,rfl,A,h1,w,o,q⟩:=h;cases B;obtain⟨t,rfl⟩:=C;obtain⟨z,its,n,r,hl,e⟩:=I.lstM A;have f:its.toArray.size*k.toNat<=sizeLine:=by rw[yB,<- hl];show o
 have c:¬ its.toArray.size*k.toNat>(2 ^ 63-1) / 8:=by
  have:(sizeLine:Nat)<=(2 ^ 63-1) / 8:=by decide
  lk
 have d:¬ (!Builtin.List.listFitsIndex k)=true:=by
  rw[fitsIndex_both h1 w];show Ys
 have b:¬ Builtin.List.listTooLong (its.toArray.size*k.toNat)=true:=by
  rw[notLongL f];show Ys
 have g:List.foldl (λi j=>i++j) #[] (List.replicate (if its.toArray.isEmpty=true then 0 else k.toNat) its.toArray)=(List.replicate k.toNat its).flatten.toArray:=by
  have p:∀ m:Nat,List.foldl (λi j=>i++j) #[] (List.replicate m its.toArray)=(List.replicate m its).flatten.toArray:=λm=>by
   have:=qdk its m [];rw[List.nil_append] at this;show this
  rw[p]
  cases its with
  | nil=>simp
  | cons a r'=>rw[yC (by simp)]
 show wpAny_binaryOp_repeat_ref (T:="list") (U:="int") (by decide) ⟨_,e,rfl⟩ (λD=>typeIs_int D k t) noFill_list_mul F.fills_int_mul F.slot_int_rmul repeat_list F.slot_int_index.lookup
  (XX F.slot_int_rmul (typeIs_int s k t) F.entry_int_rmul (F.args_int_rmul_2 _ _) (int___rmul___int_list k t l its.toArray n)
   ⟨e,rfl,⟨_,e,rfl⟩,XX F.slot_list_mul ⟨_,e,rfl⟩ F.entry_list_mul (F.args_list_mul_2 _ _) (AutoListH.list___mul___list_int_3 l its.toArray n k t d c b) ⟨e,?_⟩⟩)
 rw[g];show⟨.ref _,_,I.lnew (t':=s.toks) (r.rep k.toNat) (by rw[len_rep,Nat.mul_comm];show o),rfl,q _ I.fresh⟩
end
section
variable{prog:Program}{w:World}{A:Around}{E:Value->Shared->Prop}{s:Shared}
set_option maxRecDepth 100000 in
end
section
variable{X:Cx}
end
section
variable{κ:Type}[DecidableEq κ]
def zQ(kvs:List (κ×V))(k:κ):Option V:=(kvs.find? λa=>decide (a.1=k)).map (·.2)
def qbn(kvs:List (κ×V))(k:κ)(v:V):List (κ×V):=
 if (kvs.any λa=>decide (a.1=k))=true then kvs.map (λa=>if a.1=k then(a.1,v) else a) else kvs++[(k,v)]
def dropK(kvs:List (κ×V))(k:κ):List (κ×V):=kvs.filter λa=>decide (a.1≠k)
theorem jI{p:κ×V}{r:List (κ×V)}{k:κ}(e:p.1=k):zQ (p::r) k=some p.2:=by simp[zQ,xi,e]
theorem jA{p:κ×V}{r:List (κ×V)}{k:κ}(e:¬ p.1=k):zQ (p::r) k=zQ r k:=by simp[zQ,xi,e]
theorem qaU(k:κ):∀ kvs:List (κ×V),(kvs.any λa=>decide (a.1=k))=(zQ kvs k).isSome
 | []=>rfl
 | p::r=>by
  rw[Xb];by_cases e:p.1=k
  .simp only[jI e,yw e,Bool.true_or,Option.isSome_some]
  .rw [jA e,yk e,Bool.false_or];show qaU k r
theorem qep(k j:κ)(y:V):∀ kvs:List (κ×V),zQ (kvs.map λa=>if a.1=k then(a.1,y) else a) j=(zQ kvs j).map λx=>if j=k then y else x
 | []=>rfl
 | p::r=>by
  have b:=qep k j y r;rw[Yk];by_cases h:p.1=k
  .rw [yG h];by_cases e:p.1=j
   .rw [jI (p:=(p.1,y)) e,jI e,XM,yG (e.symm.trans h)]
   .rw [jA (p:=(p.1,y)) e,jA e,b]
  .rw [yC h];by_cases e:p.1=j
   .rw [jI (p:=p) e,jI e,XM,yC (λz=>h (e.trans z))]
   .rw [jA (p:=p) e,jA e,b]
theorem qdl(k j:κ)(y:V):∀ kvs:List (κ×V),zQ kvs k=none->zQ (kvs++[(k,y)]) j=if j=k then some y else zQ kvs j
 | [],_=>by
  by_cases e:k=j
  .rw [yG e.symm];show jI (p:=(k,y)) e
  .rw [yC (λz=>e z.symm)];show jA (p:=(k,y)) e
 | p::r,hn=>by
  rw[XD];have a:¬ p.1=k:=λz=>by rw[jI z] at hn;cases hn
  rw[jA a] at hn;have b:=qdl k j y r hn;by_cases e:p.1=j
  .rw [jI e,jI e,yC (λz=>a (e.trans z))]
  .rw [jA e,jA e,b]
theorem qeq(kvs:List (κ×V))(k j:κ)(y:V):zQ (qbn kvs k y) j=if j=k then some y else zQ kvs j:=by
 unfold qbn;by_cases a:(kvs.any λc=>decide (c.1=k))=true
 .rw [yG a,qep];rw[qaU] at a;by_cases e:j=k
  .obtain⟨x,b⟩:=Option.isSome_iff_exists.mp a;rw[yG e,e,b,XM,yG rfl]
  .rw [yC e]
   cases zQ kvs j with
   | none=>rfl
   | some x=>rw[XM,yC e]
 .rw [yC a];show qdl k j y kvs ?_;rw[qaU] at a
  cases q:zQ kvs k with
  | none=>rfl
  | some x=>rw[q] at a;show(a rfl).elim
theorem zj(kvs:List (κ×V))(k:κ)(v:V):(qbn kvs k v).length<=kvs.length+1:=by
 unfold qbn;split
 .rw [ya];lk
 .rw [yu,Yd,YY];lk
theorem qer{kvs:List (κ×V)}{k:κ}(v:V)(h:zQ kvs k=none):qbn kvs k v=kvs++[(k,v)]:=by
 unfold qbn;rw[qaU,h];show yC (by decide)
theorem RelO.isSome_eq{u:Option Value}(r:RelO o u):o.isSome=u.isSome:=by
 cases o with
 | none=>cases u with
  | none=>rfl
  | some _=>show(show False from r).elim
 | some _=>cases u with
  | none=>show(show False from r).elim
  | some _=>rfl
theorem RelO.getD{u:Option Value}{d:V}{d':Value}(r:RelO o u)(rd:RelV d d'):RelV (o.getD d) (u.getD d'):=by
 cases o with
 | none=>cases u with
  | none=>show rd
  | some _=>show(show False from r).elim
 | some _=>cases u with
  | none=>show(show False from r).elim
  | some _=>show r
theorem KV.val{kvs:List (κ×V)}{vs:List (κ×Value)}(r:KV kvs vs)(k:κ):RelO (zQ kvs k) (valueAt vs k):=by
 unfold KV at r
 induction r with
 | nil=>show YL
 | @cons p q ps qs h t ih =>
  obtain⟨h1,c⟩:=h;by_cases e:p.1=k
  .have a:q.1=k:=h1.symm.trans e;have b:valueAt (q::qs) k=some q.2:=by simp[valueAt,xi,a]
   rw[jI e,b];show c
  .have a:¬ q.1=k:=λz=>e (h1.trans z);have b:valueAt (q::qs) k=valueAt qs k:=by simp[valueAt,xi,a]
   rw[jA e,b];show ih
theorem KV.any{kvs:List (κ×V)}{vs:List (κ×Value)}(r:KV kvs vs)(k:κ):(kvs.any λa=>decide (a.1=k))=vs.any λa=>decide (a.1=k):=by
 unfold KV at r
 induction r with
 | nil=>rfl
 | cons h t ih=>rw[Xb,Xb,ih,h.1]
theorem KV.repl{kvs:List (κ×V)}{vs:List (κ×Value)}(r:KV kvs vs)(k:κ)(c:RelV y u) :
  KV (kvs.map λa=>if a.1=k then(a.1,y) else a) (vs.map λa=>if a.1=k then(a.1,u) else a):=by
 unfold KV at r ⊢
 induction r with
 | nil=>show .nil
 | @cons p q ps qs h t ih =>
  rw[Yk,Yk];show .cons ?_ ih;obtain⟨h1,b⟩:=h;by_cases e:p.1=k
  .rw [yG e,yG (h1.symm.trans e)];show⟨h1,c⟩
  .rw [yC e,yC (λz=>e (h1.trans z))];show⟨h1,b⟩
theorem KV.put{kvs:List (κ×V)}{vs:List (κ×Value)}(r:KV kvs vs)(k:κ)(a:RelV y u):KV (qbn kvs k y) (stored vs k u):=by
 unfold qbn stored;rw[r.any k];by_cases e:(vs.any λb=>decide (b.1=k))=true
 .rw [yG e,yG e];show r.repl k a
 .rw [yC e,yC e];show Paired.snoc r ⟨rfl,a⟩
theorem KV.length{kvs:List (κ×V)}{vs:List (κ×Value)}(r:KV kvs vs):kvs.length=vs.length:=Paired.length r
end
theorem qdU{k:Key}(r:RelV (kV k) u):(q8 P w).is k u=true:=by
 cases k with
 | inl i=>obtain⟨t,e⟩:=(show ∃ t,u=Value.int i t from r);subst e;show mixKind_int P w i t
 | inr x=>obtain⟨t,e⟩:=(show ∃ t,u=Value.str x t from r);subst e;show mixKind_str P w x t
theorem qdm:∀{ks:List Key} {us:List Value},Vals (ks.map kV) us->ItemsAre (q8 P w) ks us
 | [],_,r=>by rw[ko] at r;cases r;show .nil
 | k::ks,_,r=>by
  rw[Yk] at r
  cases r with
  | cons h t=>show .cons (qdU h) (qdm t)
abbrev KT(H:Hp):List (List Key×V)->List (List Key×Addr×Value)->Prop:=Paired λp q=>p.1=q.1/\H q.2.1=some (.tup (p.1.map kV))/\RelV p.2 q.2.2
theorem KT.val{xs:List (List Key×Addr×Value)}(r:KT H kvs xs)(k:List Key):RelO (zQ kvs k) ((atKey xs k).map (·.2)):=by
 induction r with
 | nil=>show YL
 | @cons p q ps qs h t ih =>
  obtain⟨h1,_,c⟩:=h;by_cases e:p.1=k
  .have a:q.1=k:=h1.symm.trans e;have b:atKey (q::qs) k=some q.2:=by simp[atKey,xi,a]
   rw[jI e,b];show c
  .have a:¬ q.1=k:=λz=>e (h1.trans z);have b:atKey (q::qs) k=atKey qs k:=by simp[atKey,xi,a]
   rw[jA e,b];show ih
theorem KT.repl{xs:List (List Key×Addr×Value)}(r:KT H kvs xs)(k:List Key)(d:RelV y u) :
  KT H (kvs.map λa=>if a.1=k then(a.1,y) else a) (xs.map (putAt k u)):=by
 induction r with
 | nil=>show .nil
 | @cons p q ps qs h t ih =>
  rw[Yk,Yk];show .cons ?_ ih;obtain⟨h1,b,c⟩:=h;unfold putAt;by_cases e:p.1=k
  .rw [yG e,yG (h1.symm.trans e)];show⟨h1,b,d⟩
  .rw [yC e,yC (λz=>e (h1.trans z))];show⟨h1,b,c⟩
theorem KT.put{xs:List (List Key×Addr×Value)}(r:KT H kvs xs)(k:List Key){b:Addr}(hb:H b=some (.tup (k.map kV)))(a:RelV y u) :
  KT H (qbn kvs k y) (storedH xs k b u):=by
 have e:(kvs.any λc=>decide (c.1=k))=(atKey xs k).isSome:=by
  rw[qaU,(r.val k).isSome_eq,X2]
 unfold qbn storedH;rw[e];by_cases q:(atKey xs k).isSome=true
 .rw [yG q,yG q];show r.repl k a
 .rw [yC q,yC q];show Paired.snoc r ⟨rfl,hb,a⟩
theorem KT.keeps{xs:List (List Key×Addr×Value)}(r:KT H kvs xs)(a:∀ b ys,H b=some (.tup ys)->H' b=some (.tup ys)):KT H' kvs xs:=
 Paired.mapP r λ_ _ z=>⟨z.1,a _ _ z.2.1,z.2.2⟩
section
variable{P:Program}{w:World}{H:Hp}{h:Heap}{a:Addr}
theorem qg6{u:HO}(ok:HOk P w H h)(e:Rd H a u):ObjOk P w H h a u:=e.ok ok
theorem qdn{kvs:List (Key×V)}(ok:HOk P w H h)(e:Rd H a (.dK kvs)):kvs.length<=sizeLine/\(a==sysModules)=false/\∃ vs,KV kvs vs/\h.DictOf (q8 P w) a vs:=
 show ObjOk P w H h a (.dK kvs) from qg6 ok e
theorem qg7{kvs:List (Key×V)}(ok:HOk P w H h)(e:H a=some (.dK kvs)):kvs.length<=sizeLine/\(a==sysModules)=false/\∃ vs,KV kvs vs/\h.DictOf (q8 P w) a vs:=qdn ok (.inl e)
theorem qcw{ks:List Key}(ok:HOk P w H h)(e:H a=some (.tup (ks.map kV))):(tupleKind (q8 P w)).is h ks a:=by
 obtain⟨_,its,r,o,h1,b,n,c⟩:=(show ObjOk P w H h a (.tup (ks.map kV)) from ok a _ e);show⟨o,its.toArray,n,h1,b,c,by simpa using qdm r⟩
theorem qdV(ok:HOk P w H h)(e:Rd H a (.dT kvs)):kvs.length<=sizeLine/\(a==sysModules)=false /\
  ∃ xs,KT H kvs xs/\h.DictOfH (tupleKind (q8 P w)) a xs:=by
 obtain⟨z,y,xs,r,o,b,ep,h1,c,d,f,g⟩:=(show ObjOk P w H h a (.dT kvs) from qg6 ok e);show⟨z,y,xs,r,o,b,ep,h1,c,d,f,λx hx=>?_,g⟩
 have all:∀{l:List (List Key×V)} {m:List (List Key×Addr×Value)},KT H l m->∀ x∈m,(tupleKind (q8 P w)).is h x.1 x.2.1:=by
  intro l m q
  induction q with
  | nil=>intro x hx;show nomatch hx
  | @cons p q ps qs hq t ih =>
   intro x hx;rcases yN.mp hx with e | hx
   .subst e;show qcw ok (by rw[<- hq.1];show hq.2.1)
   .show ih x hx
 show all r x hx
theorem dt_of(ok:HOk P w H h)(e:H a=some (.dT kvs)):kvs.length<=sizeLine/\(a==sysModules)=false /\
  ∃ xs,KT H kvs xs/\h.DictOfH (tupleKind (q8 P w)) a xs:=qdV ok (.inl e)
end
def DGet(H:Hp)(a:Addr)(y:V)(r:Option V):Prop:=
 (∃ kvs k,Rd H a (.dK kvs)/\y=kV k/\r=zQ kvs k)\/∃ kvs k b,Rd H a (.dT kvs)/\y=.ref b/\H b=some (.tup (k.map kV))/\r=zQ kvs k
def DPut(H:Hp)(a:Addr)(y v:V)(H':Hp):Prop:=
 (∃ kvs k,H a=some (.dK kvs)/\y=kV k/\kvs.length<sizeLine/\H'=upd H a (.dK (qbn kvs k v))) \/
 ∃ kvs k b,H a=some (.dT kvs)/\y=.ref b/\H b=some (.tup (k.map kV))/\kvs.length<sizeLine/\H'=upd H a (.dT (qbn kvs k v))
theorem DGet.k{kvs:List (Key×V)}{k:Key}(e:H a=some (.dK kvs)):DGet H a (kV k) (zQ kvs k):=.inl ⟨kvs,k,.inl e,rfl,rfl⟩
theorem DPut.k{kvs:List (Key×V)}{k:Key}{v:V}(e:H a=some (.dK kvs))(hl:kvs.length<sizeLine):DPut H a (kV k) v (upd H a (.dK (qbn kvs k v))):=.inl ⟨kvs,k,e,rfl,hl,rfl⟩
section
variable{X:Cx}{pins:List (Addr×Obj)}{σ:St}{H:Hp}{s:Shared}{a:Addr}{y v:V}{u r:Value}{o:Option V}{A:Around}{E:Value->Shared->Prop}
theorem Inv.big(I:Inv X pins σ H s):sysModules<s.heap.objs.size:=by
 have h:mainGlobals<s.heap.objs.size:=(I.mod.glob.keeps I.bk).lt;show Nat.lt_trans (by decide) h
theorem d_getItem{Q:Value->Shared->Prop}(B:A.units+1<cLine)(I:Inv X pins σ H s)(g:DGet H a y (some v))(n:RelV y u)(h:∀ f q,Inv X pins σ H q->RelV v f->Q f q) :
  wpAny (model X.prog X.w) A (getItem (.ref a) u) Q E s:=by
 rcases g with⟨kvs,k,e,j,l⟩ | ⟨kvs,k,b,e,j,r,l⟩
 .subst j;obtain⟨z,t,vs,c,i⟩:=qdn I.hok e;obtain⟨f,hw,d⟩:=RelO.some_of (v:=v) (o:=valueAt vs k) (by rw[l];show c.val k);show wpAny_getItem_of (qdU n) i.mapOf hw (h f _ (I.tok _) d)
 .subst j;cases (show u=Value.ref b from n);obtain⟨z,t,xs,c,i⟩:=qdV I.hok e;obtain⟨f,hw,d⟩:=RelO.some_of (v:=v) (o:=(atKey xs k).map (·.2)) (by rw[l];show c.val k);obtain⟨p,x,m⟩:=ym.mp hw;show wpAny_getItem_heap (xT B) (qcw I.hok r) i x ?_;rw[m];show h f _ (I.tok _) d
theorem d_in{Q:Value->Shared->Prop}(p:A.units+1<cLine)(I:Inv X pins σ H s)(g:DGet H a y o)(j:RelV y u)(h:∀ m,Inv X pins σ H m->Q (.bool o.isSome) m) :
  wpAny (model X.prog X.w) A (compareOp .In u (.ref a)) Q E s:=by
 rcases g with⟨kvs,k,e,f,l⟩ | ⟨kvs,k,b,e,f,n,l⟩
 .subst f;obtain⟨z,i,vs,c,d⟩:=qdn I.hok e;show wpAny_in_of (qdU j) i d.mapOf ?_;rw[<- (c.val k).isSome_eq,<- l];show h _ (I.tok _)
 .subst f;cases (show u=Value.ref b from j);obtain⟨z,i,xs,c,d⟩:=qdV I.hok e;show wpAny_in_heap (xT p) (qcw I.hok n) i d ?_;have q:=(c.val k).isSome_eq;rw[X2] at q;rw[<- q,<- l];show h _ (I.tok _)
theorem d_notIn{Q:Value->Shared->Prop}(p:A.units+1<cLine)(I:Inv X pins σ H s)(g:DGet H a y o)(j:RelV y u)(h:∀ m,Inv X pins σ H m->Q (.bool (!o.isSome)) m) :
  wpAny (model X.prog X.w) A (compareOp .NotIn u (.ref a)) Q E s:=by
 rcases g with⟨kvs,k,e,f,l⟩ | ⟨kvs,k,b,e,f,n,l⟩
 .subst f;obtain⟨z,i,vs,c,d⟩:=qdn I.hok e;show wpAny_notIn_of (qdU j) i d.mapOf ?_;rw[<- (c.val k).isSome_eq,<- l];show h _ (I.tok _)
 .subst f;cases (show u=Value.ref b from j);obtain⟨z,i,xs,c,d⟩:=qdV I.hok e;show wpAny_notIn_heap (xT p) (qcw I.hok n) i d ?_;have q:=(c.val k).isSome_eq;rw[X2] at q;rw[<- q,<- l];show h _ (I.tok _)
theorem qdW{c:HO}(I:Inv X pins σ H s)(g:Mut (H a))(f:Heap.SameBut a s.heap h')(d:∃ q,h'.get? a=some q)(new:ObjOk X.prog X.w (upd H a c) h' a c) :
  Inv X pins σ (upd H a c) { s with heap:=h',toks:=t' }:=
 I.write (x:=a) (e:=a) g (.inl rfl) (λb q hb z=>(f.2 b hb).trans z) d new
theorem qgi{kvs:List (Key×V)}{vs:List (Key×Value)}(z:kvs.length<=sizeLine)(d:(a==sysModules)=false)(b:KV kvs vs)(c:h'.DictOf (q8 P w) a vs) :
  ObjOk P w H' h' a (.dK kvs):=⟨z,d,vs,b,c⟩
theorem d_setItem{Q:Unit->Shared->Prop}(O:A.units+1<cLine)(I:Inv X pins σ H s)(g:DPut H a y v H')(D:RelV y u)(C:RelV v r)(h:∀ F,Inv X pins σ H' F->Q () F) :
  wpAny (model X.prog X.w) A (setItem (.ref a) u r) Q E s:=by
 rcases g with⟨kvs,k,e,n,l,m⟩ | ⟨kvs,k,b,e,n,x,l,m⟩
 .subst n m;obtain⟨z,o,vs,d,j⟩:=qg7 I.hok e;have t:vs.length<=sizeLine:=by rw[<- d.length];show z
  have hl:(qbn kvs k v).length<=sizeLine:=by have:=zj kvs k v;lk
  show wpAny_setItem_pairs (hsz:=t) (qdU D) j λh' f p=>h _ ?_;have N:∃ q,h'.get? a=some q:=let ⟨q,_,_,i,_⟩:=f;⟨q,i⟩;show qdW I (by rw[e];show YL) p N (qgi hl o (d.put k C) f)
 .subst n m;cases (show u=Value.ref b from D);obtain⟨z,o,xs,d,j⟩:=dt_of I.hok e;have t:xs.length<=sizeLine:=by rw[<- Paired.length d];show z
  have hl:(qbn kvs k v).length<=sizeLine:=by have:=zj kvs k v;lk
  show wpAny_setItem_heap (hsz:=t) (xT O) (qcw I.hok x) j λh' f p=>h _ ?_;obtain⟨q,G,ep,i,J,K,L,_,M⟩:=f;show qdW I (by rw[e];show YL) p ⟨q,i⟩ ⟨hl,o,_,(d.put k x C).keeps λc ys B=>?_,q,G,ep,i,J,K,L,M⟩;rw[qj (qbk B e (λz=>nomatch z))];show B
end
section
variable{X:Cx}{pins:List (Addr×Obj)}{σ:St}{H:Hp}{s:Shared}{a:Addr}{kvs:List (Key×V)}{k:Key}{u:Value}{A:Around}{E:Value->Shared->Prop}
theorem d_len{Q:Value->Shared->Prop}(I:Inv X pins σ H s)(e:Rd H a (.dK kvs))(h:∀ t c,Inv X pins σ H c->Q (.int kvs.length t) c):wpAny (model X.prog X.w) A (call (.builtin "len") [.ref a]) Q E s:=by
 obtain⟨z,f,vs,b,d⟩:=qdn I.hok e;show call_len_dict f d (by rw[<- b.length];rw[xR] at z;lk) ?_;rw[<- b.length];show h _ _ (I.tok _)
end
theorem dict_typeIs(I:Inv X pins σ H s)(g:DGet H a y o):s.TypeIs (.ref a) "dict":=by
 rcases g with⟨kvs,k,e,_,_⟩ | ⟨kvs,k,b,e,_,_,_⟩
 .obtain⟨_,_,vs,_,c⟩:=qdn I.hok e;show c.typeIs
 .obtain⟨_,_,xs,_,c⟩:=qdV I.hok e;show c.typeIs
section
variable{X:Cx}{o i e value:Expr}{pos pos' tpos:Pos}{td ty tv:TE}
end
theorem qes(h:Heap)(hb:sysModules<h.objs.size):ObjOk P w H (h.push { cls:=.type "dict",data:=.dict #[] }) h.objs.size (.dK []):=
 ⟨YM _,YA.mpr (YB (Yj hb)),[],.nil,Heap.DictOf.new h⟩
def tDNewK:TE:=λ_ H Q=>∀ p,H p=none->Q (.ref p) (upd H p (.dK []))
section
variable{X:Cx}{pos:Pos}
theorem qcN:PE X (.Dict [] [] pos) tDNewK:=λpins s σ H Q I h =>
 wpAny_Dict_empty ⟨.ref s.heap.objs.size,_,I.laid (a:=s.heap.objs.size) (o:=.dK []) (t':=s.toks) (λ_ _ q=>yz _ q) (yg _) (qes s.heap I.big),rfl,h _ (I.hok.fresh (yg _))⟩
end
def qfa:List (TE×TE)->St->Hp->(List (V×V)->Hp->Prop)->Prop
 | [],_,H,Q=>Q [] H
 | (tk,tv)::r,σ,H,Q=>tk σ H λx a=>tv σ a λy b=>qfa r σ b λd c=>Q ((x,y)::d) c
abbrev VV:List (V×V)->List (Value×Value)->Prop:=Paired λp q=>RelV p.1 q.1/\RelV p.2 q.2
def PPs(X:Cx)(pos:Pos)(b:List (Option Expr))(a:List Expr)(trs:List (TE×TE)):Prop:=
 ∀(pins:List (Addr×Obj)) (s:Shared) (σ:St) (H:Hp) (Q:List (V×V)->Hp->Prop),Inv X pins σ H s->qfa trs σ H Q ->
  wpAny (model X.prog X.w) X.A (evalPairs (pairTrees b a X.env pos)) (λvs d=>∃ c H',Inv X pins σ H' d/\VV c vs/\Q c H') X.xe s
theorem pps_nil:PPs X pos [] [] []:=λpins s σ H Q I h=>pairTrees_nil_walk ⟨[],H,I,.nil,h⟩
theorem pps_cons{k v:Expr}{ks:List (Option Expr)}{vs:List Expr}{tk b:TE}(j:PE X k tk)(hv:PE X v b)(l:PPs X pos ks vs trs) :
  PPs X pos (some k::ks) (v::vs) ((tk,b)::trs):=λpins s σ H Q I h =>
 pairTrees_cons_walk (thn (j pins s σ H _ I h) λu t ⟨x,c,f,q,n⟩=>thn (hv pins t σ c _ f n) λA w ⟨y,d,g,r,o⟩ =>
  thn (l pins w σ d _ g o) λB z ⟨m,e,i,a,p⟩=>⟨(x,y)::m,e,i,.cons ⟨q,r⟩ a,p⟩)
def qaV(kvs more:List (Key×V)):List (Key×V):=more.foldl (λacc a=>qbn acc a.1 a.2) kvs
theorem KV.merge:∀{more:List (Key×V)} {a:List (Key×Value)} {kvs:List (Key×V)} {vs:List (Key×Value)},KV more a->KV kvs vs->KV (qaV kvs more) (merged vs a):=by
 intro more a kvs vs r;unfold KV at r
 induction r generalizing kvs vs with
 | nil=>intro q;show q
 | @cons p q ps qs h t ih =>
  intro b
  have e:KV (qbn kvs p.1 p.2) (stored vs q.1 q.2):=by
   have:=b.put p.1 h.2;rw[<- h.1];show this
  show ih e
theorem qaW:∀(more kvs:List (Key×V)),(qaV kvs more).length<=kvs.length+more.length
 | [],kvs=>by show kvs.length<=kvs.length+0;lk
 | p::r,kvs=>by
  have h1:=qaW r (qbn kvs p.1 p.2);have a:=zj kvs p.1 p.2;show(qaV (qbn kvs p.1 p.2) r).length<=_;rw[Yd];lk
theorem qcx:∀{kvs:List (Key×V)} {f:List (Value×Value)},VV (kvs.map λe=>(kV e.1,e.2)) f->∃ d,Carries (q8 P w) f d/\KV kvs d
 | [],_,r=>by rw[ko] at r;cases r;show⟨[],YL,.nil⟩
 | p::kvs,_,r=>by
  rw[Yk] at r
  cases r with
  | @cons a b as bs h t =>
   have z:∃ d,Carries (q8 P w) bs d/\KV kvs d:=qcx t;obtain⟨d,c,q⟩:=z;obtain⟨i,g⟩:=b;show⟨(p.1,g)::d,⟨qdU h.1,rfl,c⟩,.cons ⟨rfl,h.2⟩ q⟩
def tDisp(trs:List (TE×TE)):TE:=fun σ H Q=>∀ p,H p=none->qfa trs σ (upd H p (.dK [])) λc a=>a p=some (.dK [])/\∃ kvs:List (Key×V),c=kvs.map (λb=>(kV b.1,b.2))/\kvs.length<=15/\Q (.ref p) (upd a p (.dK (qaV [] kvs)))
theorem pe_disp{b:List (Option Expr)}{d:List Expr}(h:PPs X pos b d trs)(g:b.all (·.isSome)=true)(hl:b.length=d.length)(p:b≠[])
  (i:b.length<=15):PE X (.Dict b d pos) (tDisp trs):=by
 intro pins s σ H Q I q;have u:=I.hok.fresh (yg s.heap.objs.size);have m:=I.laid (a:=s.heap.objs.size) (o:=.dK []) (h':=s.heap.push { cls:=.type "dict",data:=.dict #[] }) (t':=s.toks) (λ_ _ q=>yz _ q) (yg _) (qes s.heap I.big);show wpAny_Dict_walk (knd:=q8 X.prog X.w) g hl p i (thn (h pins _ σ _ _ m (q _ u)) λJ G ⟨F,D,l,j,e,kvs,ep,E,y⟩=>?_);subst ep;obtain⟨B,c,rk⟩:=qcx (P:=X.prog) (w:=X.w) j;obtain⟨z,r,C,A,n⟩:=qg7 l.hok e;cases A;show⟨B,c,n,λh' f v=>⟨.ref s.heap.objs.size,_,?_,rfl,y⟩⟩
 have x:(qaV [] kvs).length<=sizeLine:=by
  have h1:=qaW kvs [];rw[YY] at h1;rw[xR];lk
 have t:∃ q,h'.get? s.heap.objs.size=some q:=let ⟨q,_,_,hq,_⟩:=f;⟨q,hq⟩;show qdW l (by rw[e];show YL) v t (qgi x r (rk.merge .nil) f)
structure M1(X:Cx)(o:Expr)(m:Str)(apos:Pos)(e:Expr)(cpos:Pos):Prop where
 base:attributeBase o m X.env (eval o X.env)=eval o X.env
 few:((backTo cpos (starEach [e] X.env)).all (λx=>!x.1)&&(backToKw cpos (keywordEach [] X.env)).all (λx=>x.1.isSome)
  && decide (([e]:List Expr).length+([]:List Keyword).length+(if ([]:List Keyword).isEmpty then 0 else 1)<30))=true
 line:(apos.endLine==cpos.line)=true
 trees:backTo cpos (starEach [e] X.env)=[(false,eval e X.env)]
structure M2(X:Cx)(o:Expr)(m:Str)(apos:Pos)(e f:Expr)(cpos:Pos):Prop where
 base:attributeBase o m X.env (eval o X.env)=eval o X.env
 few:((backTo cpos (starEach [e,f] X.env)).all (λx=>!x.1)&&(backToKw cpos (keywordEach [] X.env)).all (λx=>x.1.isSome)
  && decide (([e,f]:List Expr).length+([]:List Keyword).length+(if ([]:List Keyword).isEmpty then 0 else 1)<30))=true
 line:(apos.endLine==cpos.line)=true
 trees:backTo cpos (starEach [e,f] X.env)=[(false,eval e X.env),(false,eval f X.env)]
def IsD(H:Hp)(a:Addr):Prop:=(∃ kvs,Rd H a (.dK kvs))\/∃ kvs,Rd H a (.dT kvs)
theorem isD_at(I:Inv X pins σ H s)(d:IsD H a) :
  s.TypeIs (.ref a) "dict"/\(∀ b,Value.ref a=.ref b->∃ c,s.heap.get? b=some c/\c.dict=none)/\(a==sysModules)=false:=by
 rcases d with⟨kvs,e⟩ | ⟨kvs,e⟩
 .obtain⟨_,h,vs,_,f⟩:=qdn I.hok e;show⟨f.typeIs,λb q=>?_,h⟩;cases q;obtain⟨c,_,_,h1,g,_⟩:=f;show⟨c,h1,g.2.1⟩
 .obtain⟨_,h,xs,_,f⟩:=qdV I.hok e;show⟨f.typeIs,λb q=>?_,h⟩;cases q;obtain⟨c,_,_,h1,g,_⟩:=f;show⟨c,h1,g.2.1⟩
section
variable{X:Cx}{pins:List (Addr×Obj)}{σ:St}{H:Hp}{s:Shared}{a:Addr}{y d:V}{u r:Value}{o:Option V}{A:Around}{E:Value->Shared->Prop}
theorem d_get2{Q:Value->Shared->Prop}(t:A.units+1<cLine)(I:Inv X pins σ H s)(g:DGet H a y o)(m:RelV y u)(rd:RelV d r)(h:∀ p n,Inv X pins σ H n->RelV (o.getD d) p->Q p n) :
  wpAny (model X.prog X.w) A (call (.builtin "dict.get") [.ref a,u,r]) Q E s:=by
 rcases g with⟨kvs,k,e,i,l⟩ | ⟨kvs,k,b,e,i,q,l⟩
 .subst i;obtain⟨z,j,vs,c,f⟩:=qdn I.hok e;show call_meetsIn Xy f.typeIs PySem.F.entry_dict_get (PySem.F.args_dict_get_3 _ _ _) (meets_dict_get_default (q8 X.prog X.w) a (qdU m) j r) ⟨_,f.mapOf,h _ _ (I.tok _) ?_⟩;rw[l];show(c.val k).getD rd
 .subst i;cases (show u=Value.ref b from m);obtain⟨z,j,xs,c,f⟩:=qdV I.hok e;show call_meetsIn Xy f.typeIs PySem.F.entry_dict_get (PySem.F.args_dict_get_3 _ _ _) (meetsH_dict_get_default (tupleKind (q8 X.prog X.w)) a b j r) ⟨xT t,k,xs,qcw I.hok q,f,h _ _ (I.tok _) ?_⟩;rw[l];show(c.val k).getD rd
end
def qgj(e ty f:TE):TE:=fun σ H Q=>e σ H λx b=>∃ a,x=.ref a/\IsD b a/\ty σ b λy d=>f σ d λz c=>∃ o,DGet c a y o/\Q (o.getD z) c
section
variable{X:Cx}{o e f:Expr}{apos cpos:Pos}{td ty tx:TE}
theorem pe_dget2(B:X.A.units+1<cLine)(w:PE X o td)(t:PE X e ty)(v:PE X f tx)(m:M2 X o "get" apos e f cpos):PE X (.Call (.Attribute o "get" apos) [e,f] [] cpos) (qgj td ty tx):=by
 intro pins s σ H Q I h;show wpAny_Call_method m.base m.few m.line PySem.F.plainAttrs_dict Xy PySem.F.type_dict_get (thn (w pins s σ H _ I h) λu L ⟨x,i,c,G,a,r,d,C⟩=>?_);subst r;obtain rfl:u=Value.ref a:=G;obtain⟨N,O,_⟩:=isD_at c d;show⟨N,O,?_⟩;rw[m.trees]
 show Xu rfl (Calls.evalArgs_plain (XV (thn (t pins L σ i _ c C) λiv M ⟨y,j,n,J,D⟩ =>
  XV (thn (v pins M σ j _ n D) λP S ⟨z,l,p,K,R,g,E⟩=>Calls.spliced_nil ?_))))
 show d_get2 B p g J K λU T q b=>⟨_,l,q,b,E⟩
end
section
variable{X:Cx}{pins:List (Addr×Obj)}{σ:St}{H:Hp}{s:Shared}{a:Addr}{kvs:List (Key×V)}{A:Around}{E:Value->Shared->Prop}
end
section
variable{X:Cx}{pins:List (Addr×Obj)}{σ:St}{H:Hp}{s:Shared}{a:Addr}{y:V}{u:Value}{A:Around}{E:Value->Shared->Prop}
end
end L2
namespace Att
open PySem PySem.W PySem.Calls PyProof.Rows
variable{P:Params}{h:Heap}{l:OpenLaw}{n:Nat}
theorem ints_of_wellAll:∀(ns:LQ) (vs:List Value),WellAll P h vs (ns.map WData.int)->IntsAre vs ns:=by
 intro ns
 induction ns with
 | nil =>
  intro vs w;rw[ko] at w;cases w;show .nil
 | cons n ns ih =>
  intro vs w;rw[Yk] at w
  cases w with
  | cons a b =>
   cases a;show .cons _ _ (ih _ b)
theorem script_of(p:l.most=some n){args:List WData}{c:List Value}
  (b:l.row.toRowW.claim.pre args=true) (j:WellAll P h c args) :
  ∃ a vs ns,c=[Value.ref a]/\args=[WData.list (ns.map WData.int)]/\h.get? a=some { cls:=.type "list",data:=.seq vs.toArray }/\IntsAre vs ns/\ns.length<=n:=by
 have i:WShape.hasAll [] args [.list .int]=true:=(pre_splitW b).1;have hc:l.pre.holds [] { args:=args }=true:=(pre_splitW b).2;obtain⟨d,r,rfl,h1,m⟩:=hasAllW_cons i;obtain rfl:=hasAllW_nil m;obtain⟨xs,rfl,o⟩:=hasW_list h1;obtain⟨ns,rfl⟩:=items_int o
 have e:ns.length<=n:=by
  unfold OpenLaw.pre at hc
  have f:(WTm.not (.lt (.lit (.int (n:Int))) (.len (.arg 0)))).holds [] { args:=[.list (ns.map .int)] }=true:=by
   have f:=(holds_andW hc).1;rw[p] at f;show f
  have g:=condW_of f (w_not (w_lt w_lit (w_len_list (w_arg rfl))));rw[ya] at g;show XE λq=>?_;have s:(n:Int)<((ns.length:Nat):Int):=by lk
  first
   | (rw[yw s] at g;show absurd g (by decide))
   | (simp at g;lk)
 cases j with
 | cons w1 w2 =>
  cases w2
  cases w1 with
  | list ho hall=>show⟨_,_,ns,rfl,rfl,ho,ints_of_wellAll ns _ hall,e⟩
theorem post_true(l:OpenLaw)(args:List WData):l.row.toRowW.claim.post args (.bool true) args=true:=
 postW_of (r:=l.row.toRowW) (X:=(true==true))
  (show WShape.has [] (.bool true) .bool=true by first | rfl | decide | simp[WShape.has,WShape.arms,WShape.armsAll])
  (show(WTm.eq .res (.lit (.bool true))).value [] { args:=args,res:=some (.bool true),after:=args }=some (.bool (true==true)) from w_eq_bool (w_res rfl) w_lit) rfl
theorem attach_call{q:Program}{loose:LS}{XP:(Str->Option Value)->Heap->Prop}{YP:World->Heap->Prop}{d:DefRec}
  (N:l.most=some n) (v:d.params.defaults=[])
  (call:∀(w:World) (c b:Shared) (s z:Str->Option Value) (h:Addr) (o:Obj) (A p e:Value) (a:Addr) (vs:List Value) (ns:LQ),
   Ground q loose [] XP w c s z b.heap->YP w b.heap ->
   b.heap.get? h=some o->o.data=.func (docDef d.name d.params d.body d.scope A p e)->b.heap.CodeRec p d.name->s d.name=some (.ref h) ->
   b.heap.get? a=some { cls:=.type "list",data:=.seq vs.toArray }->IntsAre vs ns->ns.length<=n->b.gens=#[] ->
   codeAny (model l.prog w) callerA (.call (.ref h) ⟨[.ref a],[]⟩) (λr t=>r=.ok (.ret (.bool true))/\OldK b.heap t.heap/\t.os=b.os/\AllBare t.gens) b) :
  WalkO q loose XP YP l.row.toRowW d [] (λf vs=>PySem.call f vs):=by
 intro w c b s z G Y h o A p e E kV O J u B x K args D S m C R y L;obtain rfl:E=.none:=Dflts.none B v;obtain rfl:kV=.none:=Dflts.noKw B;obtain⟨a,vs,ns,rfl,rfl,j,g,i⟩:=script_of N m y;show enter_call (km (call w c b s z h o A p e a vs ns G Y O (fd_plain J) u x j g i K) λr t P=>?_);obtain⟨rfl,F,H,I⟩:=P;show⟨.inl ⟨.bool true,.bool true,[],rfl,λ_=>rfl,.bool true,post_true l _,λ_=>⟨List.Pairwise.nil,λ_ M=>(nomatch M)⟩⟩,F,H,I⟩
section
variable{prog:Program}{w:World}{A:Around}{E:Value->Shared->Prop}{s:Shared}{K:Frag}
def ledger(h:Heap)(L d:Addr):List (Addr×Obj):=(List.range h.objs.size).filterMap λa=>if a=L\/a=d then none else(h.get? a).map λo=>(a,o)
end
end Att
namespace L2
open PySem PySem.Spec PyProof.Rows
variable{A B:Prop}{H:Hp}{f:Addr}{fd:FuncData}{n:Nat}{ps:LS}{qual x:Str}{sp:Sp}{st:Stmt}
theorem qbW:∀{vs:List Value} {ns:LQ},IntsAre vs ns->Vals (ns.map V.int) vs
 | _,_,.nil=>.nil
 | _,_,.cons n t h=>.cons ⟨t,rfl⟩ (qbW h)
def qhx(H:Hp):Prop:=∀ b,H b=none\/∃ o xs,H b=some (.frz o (.lst xs))
theorem law_call{P:Program}{w:World}{K:yf}{G T:Str->Option Value}{CX:CXT}{k:Nat}{M a:Addr}{c:Shared}{vs:List Value}{ns:LQ}
  (W:K.In c.heap) (B:c.heap.Ns mainGlobals G) (hb:c.heap.Ns builtinsNs T) (O:∀ x:Str,x≠"__name__"->T x=bootBuiltins x) (A:c.heap.NoLimit) (hg:c.gens=#[])
  (J:c.heap.get? a=some { cls:=.type "list",data:=.seq vs.toArray }) (hi:IntsAre vs ns) (hl:ns.length<=sizeLine) (hr:Room k callerA)
  (F:∀ f:Heap,K.In f->f.Ns mainGlobals G->FnOk P w K G f CX k M fd [x] sp) (l:∀(s:Shared) (u:Value),BindsTo s fd ⟨[u],[]⟩ [(x,u)])
  (S:∀ H:Hp,qhx H->SqL K H a (ns.map V.int)->sp [.ref a] H (λv _=>v=.bl true) λ_ _ _=>False)
  (N:∀ H e g,CX [] H c (λ_ _ _=>False) e g->False) :
  codeAny (model P w) callerA (.call (.ref M) ⟨[.ref a],[]⟩) (λr g=>r=.ok (.ret (.bool true))/\OldK c.heap g.heap/\g.os=c.os/\AllBare g.gens) c:=by
 have rv:=qbW hi;have E:=hi.length;have j:∀ H:Hp,qhx H->SqL K H a (ns.map V.int)->HOk P w H c.heap->(∀ b,H b≠none->b=a)->(H a≠none->K.lookup a=none) ->
   codeAny (model P w) callerA (.call (.ref M) ⟨[.ref a],[]⟩) (λr g=>r=.ok (.ret (.bool true))/\OldK c.heap g.heap/\g.os=c.os/\AllBare g.gens) c:=by
  intro H Z hS C Y hK;have base_of:∀{b:Addr} {o:Obj},c.heap.get? b=some o->H b=none->(qfZ c.heap H).get? b=some o:=λe n=>hidT_get e n
  have U:∀{b:Addr} {o:Obj} {t:Array DictEntry} {ep:Nat},c.heap.get? b=some o->o.data=.dict t ep->H b=none:=λ{b o t ep} e d=>by
   cases q:H b with
   | none=>rfl
   | some u =>
    have L:b=a:=Y b (by rw[q];simp);subst L;rw[J] at e;cases e;have d':Data.seq vs.toArray _=Data.dict t ep:=d;cases d'
  have i:∀{b:Addr} {m:Str->Option Value},c.heap.Ns b m->(qfZ c.heap H).Ns b m:=λ{b m} ⟨o,t,ep,e,d,r⟩=>⟨o,t,ep,base_of e (U e d),d,r⟩
  have y:K.In (qfZ c.heap H):=λb o e=>base_of (W b o e) (by
   cases q:H b with
   | none=>rfl
   | some u =>
    have L:b=a:=Y b (by rw[q];simp);subst L;rw[hK (by rw[q];simp)] at e;cases e)
  have hM:Mod K G (qfZ c.heap H):=⟨y,i B,⟨T,i hb,O⟩,let ⟨mc,h1,h2⟩:=A;⟨mc,i h1,h2⟩⟩;have e0:Env0 P w K G (qfZ c.heap H) callerA [] c H:=⟨rfl,hM,λb o e=>of_hidT e,Nat.le_of_eq (hidT_size _ _),trivial,λb hb=>absurd (show b∈([]:LI) from hb) (by simp),C,.of_eq hg⟩;show km ((F _ y (i B)).run callerA [] c H ⟨[.ref a],[]⟩ [.ref a] [.ref a] _ _ hr e0 (l c (.ref a)) (.cons rfl .nil) (S H Z hS)) λr g h=>?_
  cases r with
  | error e=>show(N H e g h).elim
  | ok fl =>
   cases fl with
   | next=>show False.elim h
   | brk=>show False.elim h
   | cont=>show False.elim h
   | ret u =>
    obtain⟨v,H',os,p,un,D,r',q⟩:=h;have q':v=.bl true:=q;subst q';obtain rfl:u=Value.bool true:=r';show⟨rfl,OldK.of_keep λb o e=>?_,os,p⟩
    cases q:H b with
    | none=>show un.keep b o e q (by intro z;show absurd (show b∈([]:LI) from z) (by simp)) (by simp)
    | some u =>
     rcases Z b with z | ⟨ob,xs,z⟩
     .rw [q] at z;cases z
     .have z2:=un.frzs b ob _ z;obtain⟨X,_⟩:=C b _ z;obtain⟨e2,_⟩:=D b _ z2;rw[e] at X;cases X;show e2
 cases R:K.lookup a with
 | some o =>
  have e:=W a o R;rw[J] at e;cases e;show j (λ_=>none) (λ_=>.inl rfl) (.inr ⟨_,vs.toArray,_,R,rfl,rfl,rfl,by rw[yB,E];show hl,by simpa using rv⟩) (λb u z=>by have I:(none:Option HO)=some u:=z;cases I) (λb z=>absurd rfl z) λz=>absurd rfl z
 | none =>
  show j (λb=>if b=a then some (.frz { cls:=.type "list",data:=.seq vs.toArray } (.lst (ns.map V.int))) else none) (λb=>?_) (.inl (.inr ⟨{ cls:=.type "list",data:=.seq vs.toArray },yG rfl⟩)) (λb u z=>?_) (λb z=>?_) λ_=>R
  .by_cases hb:b=a
   .show .inr ⟨_,_,yG hb⟩
   .show .inl (yC hb)
  .by_cases hb:b=a
   .have I:=(yG hb).symm.trans z;cases I;subst hb;show⟨J,by rw[ya];show hl,vs,_,rv,J⟩
   .have I:=(yC hb).symm.trans z;cases I
  .by_cases hb:b=a
   .show hb
   .show absurd (yC hb) z
abbrev KOf{K:yf}{h:Heap}(_:K.In h):yf:=K
theorem walk_of{l:PySem.W.OpenLaw}{k:Nat}{q:Program}{loose:LS}{XP:(Str->Option Value)->Heap->Prop}{YP:World->Heap->Prop}{d:DefRec}{K:Params->yf}{CX:World->CXT}{sp:World->Sp}
  (S:l.most=some n) (B:n<=sizeLine) (z:d.params.defaults=[]) (U:Room k callerA)
  (O:∀(w:World) (h:Heap),YP w h->(K w.params).In h)
  (F:∀(w:World) (m:Str->Option Value) (t:Addr) (h:Heap),(K w.params).In h->h.Ns mainGlobals m->m d.name=some (.ref t) ->
   ∃ fd:FuncData,(∀(s:Shared) (u:Value),BindsTo s fd ⟨[u],[]⟩ [(x,u)]) /\
    ∀ c:Heap,(K w.params).In c->c.Ns mainGlobals m->FnOk l.prog w (K w.params) m c (CX w) k t fd [x] (sp w))
  (C:∀(w:World) (H:Hp) (a:Addr) (ns:LQ),ns.length<=n->qhx H->SqL (K w.params) H a (ns.map V.int)->sp w [.ref a] H (λv _=>v=.bl true) λ_ _ _=>False)
  (y:∀(w:World) (H:Hp) (s:Shared) (e:Value) (D:Shared),CX w [] H s (λ_ _ _=>False) e D->False) :
  PySem.W.WalkO q loose XP YP l.row.toRowW d [] (λf vs=>PySem.call f vs):=by
 show Att.attach_call S z λw I r m mb t o pm X J a vs ns G Y ho Z P A p j i R=>?_;have E:=O w _ Y;obtain⟨fd,hb,L⟩:=F w m t _ E G.T.g A;show law_call E G.T.g G.T.b G.T.builtins G.T.nolimit R p j (yh i B) U L hb (λH M N=>C w H a ns i M N) λH e D=>y w H r e D
abbrev CX0:CXT:=λ_ _ _ _ _ _=>False
abbrev E0:XK:=λ_ _ _=>False
theorem qt{X:Cx}:qbz CX0 X E0:=λ_ _ _ _ _ _ _ h=>h.elim
structure Fun(K:yf)(x qual:Str)(st:Stmt)(f:Addr)(fd:FuncData):Prop where
 ex:∃(oc:Value) (od:Option Addr) (kV doc pm:Value) (an:Option Addr) (cdv ct:Value) (osl:Array (Option Value)),
  fd=PySem.W.fnOf x qual (qaN st) (zC st) (qf st) .none kV doc pm an cdv ct/\K.lookup f=some ⟨oc,od,.func fd,osl⟩/\PySem.W.codeIn K cdv qual=true
 kp:PySem.W.keepIn K (.ref f)=true
section
variable{P:Program}{w:World}{K:yf}{mg:Str->Option Value}{base:Heap}
theorem Fun.ok{N:LS}{k:Nat}(F:Fun K x qual st f fd)(S:FnScope N ps (qf st)) (c:∀(b:Value) (A:Around) (a:List Env) (s:Shared) (H:Hp) (vs:List V) (Q:VK) (E:XK),Room k (A.deeper (envOfC qual (qf st) s.heap.objs.size f b))->sp vs H Q E ->
   ∃ t,PSs (qgU CX0 P w K mg base N qual (qf st) f b A a s H E).nox (zC st) t/\t { nx:=λ_ g=>Q .non g,rt:=Q } (start N vs) H) (len:∀ vs H Q E,sp vs H Q E->vs.length=ps.length:=by intro _ _ _ _ h;cases h;subst_vars;rfl):wq9 (k+1) f fd ps sp:=by
 obtain⟨o,od,kV,i,p,n,b,ct,m,rfl,l,d⟩:=F.ex;show fn_of l d S len λA a s H vs Q E j e=>?_;obtain⟨t,h,q⟩:=c b A a s H vs Q E j e;show⟨t,h.nox,q⟩
theorem Fun.binds(F:Fun K x qual st f fd)
  (h:∀(kV b d:Value) (c:Option Addr) (a ct:Value) (us:List Value),us.length=ps.length->bindArgs (PySem.W.fnOf x qual (qaN st) (zC st) (qf st) .none kV b d c a ct) ⟨us,[]⟩=pure (ps.zip us)):Binds K fd ps []:=by
 obtain⟨j,od,kV,b,d,c,a,ct,g,rfl,i,e⟩:=F.ex;show .all (h kV b d c a ct)
theorem fun_mk{h:Value}{od e:Option Addr}{d:Array (Option Value)}{kV b g a ct:Value}(l:K.lookup f=some ⟨h,od,.func (PySem.W.fnOf x qual (qaN st) (zC st) (qf st) .none kV b g e a ct),d⟩)
  (c:PySem.W.codeIn K a qual=true) (k:PySem.W.keepIn K (.ref f)=true):Fun K x qual st f (PySem.W.fnOf x qual (qaN st) (zC st) (qf st) .none kV b g e a ct):=⟨⟨h,od,kV,b,g,e,a,ct,d,rfl,l,c⟩,k⟩
end
theorem qe(h:n<=1000):n<sizeLine:=xU h (by decide)
section
variable{X:Cx}
theorem pv(i:Nat){b:Pos}(c:X.N[i]?=some x:=by rfl)(hv:Vis X.env.scope x:=by first | show yF rfl | show YX (yF rfl) | show YX (YX rfl))(d:(x==("__debug__":Str))=false:=by decide)
  (a:(x==("__classdict__":Str))=false:=by decide):PE X (.Name x b) (qgd i):=pe_var c hv d a
theorem call_lenD:qag X (.builtin "len") (λxs H Q=>∃ a kvs,xs=[V.ref a]/\H a=some (.dK kvs)/\Q (.int kvs.length) H):=by
 intro b s g H xs us Q I r h;obtain⟨a,kvs,rfl,d,q⟩:=h;obtain⟨u,rfl,e⟩:=qcM r;cases e;show d_len I (.inl d) λt f c=>⟨.int kvs.length,H,c,⟨t,rfl⟩,q⟩
end
theorem zu(h:A):if true=true then A else B:=by
 rw[yG rfl];show h
theorem qP{c:Prop}[Decidable c](h1:c->A)(a:¬ c->B):if c then A else B:=by
 by_cases h:c
 .rw [yG h];show h1 h
 .rw [yC h];show a h
def Same(H a:Hp):Prop:=∀ b o,H b=some o->a b=some o
theorem Same.refl(H:Hp):Same H H:=λ_ _ h=>h
theorem Same.trans{d e:Hp}(a:Same H d)(b:Same d e):Same H e:=λc o h=>b c o (a c o h)
theorem Same.free{a:Hp}(e:Same H a){l:Addr}(h:a l=Option.none):H l=Option.none:=by
 cases q:H l with
 | none=>rfl
 | some o =>
  rw[e l o q] at h;cases h
section
variable{κ:Type}[DecidableEq κ]
end
end L2
set_option maxHeartbeats 4000000
namespace L2
open PySem PySem.Spec PyProof.Rows
variable{C D c e it p:Addr}{E:Value->Shared->Prop}{H:Hp}{N:LS}{P:Program}{QO:Option Int->Hp->Prop}{R:It->Hp->Prop}{T:String}{X:Cx}{acc:List (Str×Addr)}{dx:Option Addr}{elt iter tg:Expr}{env:Env}{expr:Bool}{f:V->List V->Hp->VK->Prop}{fp:LI}{g:TG}{h:Heap}{i j:Int}{ifs:List Expr}{its:List Value}{ixs:LN}{n nl:Nat}{names:List (Str×NameKind)}{od:Option Obj}{ox:Obj}{pins:List (Addr×Obj)}{pl:Sem Bool}{pos:Pos}{s:Shared}{sc scope:Scope}{t u:Value}{tc:TT}{te:TE}{tk:Tok}{v y:V}{w:World}{wi:TI}{x z:Str}{xs ys:List V}{σ:St}
section
variable{prog:Program}{w:World}{A:Around}{R:Result->Shared->Prop}{s:Shared}
theorem compLoop_own{a:Expr}{it acc:Value}(I:Nat->Shared->Prop)
  (d:∀ n s,I n s->wpAny (model prog w) A (pyNext it) (λr f=>match r with
   | none=>R (.ok .next) f
   | some v=>wpAny (model prog w) A (letOwnedTupleGo a it v) (λ_ b=>wpAny (model prog w) A (assign a env v) (λ_ j =>
     wpAny (model prog w) A (forIn ifs true λc r=>if r=true then do let ok <- isTrue c env (eval c env);pure (ForInStep.yield ok) else pure (ForInStep.yield r)) (λok g =>
      if ok=true then wpAny (model prog w) A (eval elt env) (λx l =>
       wpAny (model prog w) A (call (.builtin "list.append") [acc,x]) (λ_ o=>∃ m,m<n/\I m o) (λ_ _=>False) l) (λ_ _=>False) g
      else ∃ m,m<n/\I m g) (λ_ _=>False) j) (λ_ _=>False) b) (λ_ _=>False) f) (λ_ _=>False) s)
  (n:Nat) (h:I n s) :
  codeAny (model prog w) A (.compLoop (.ListComp elt [⟨a,iter,ifs,0⟩] scope pos) 0 it acc env) R s:=by
 show codeAny_loop rfl I (λn s u=>?_) n h;show wpAny _ A ((compTurn (.ListComp elt [⟨a,iter,ifs,0⟩] scope pos) 0 it acc env).onRaise (λx=>do noteFrame x env;theTreesLotGoes x)) _ _ s;show wpAny_noted ?_;rw[compTurn_list];show yr (wpAny_standAt (yr (Y8 (d n s u) (λr f h1=>?_) λ_ _ h'=>h'.elim)))
 cases r with
 | none=>show yE h1
 | some v =>
  show yr (Y8 h1 (λ_ b e=>?_) λ_ _ h'=>h'.elim);show yr (Y8 e (λ_ j p=>yr (Y8 p (λok g i=>?_) λ_ _ h'=>h'.elim)) λ_ _ h'=>h'.elim)
  cases ok with
  | false=>show yE ⟨rfl,i⟩
  | true =>
   show yr (yr (Y8 i (λx l q=>yr (Y8 q (λ_ o t=>yE (yE ⟨rfl,t⟩)) λ_ _ h'=>h'.elim)) λ_ _ h'=>h'.elim))
end
def qS(env:Env):List (Str×NameKind)->List (Str×Addr)->List (Str×Addr)
 | [],acc=>acc
 | (n,k)::r,acc=>qS env r (if (k==.free)=true then(n,(env.cells.lookup n).getD 0)::acc else acc)
theorem zR:∀{names:List (Str×NameKind)} {acc:List (Str×Addr)} {x:Str} {c:Addr},(qS env names acc).lookup x=some c ->
  ((x,NameKind.free)∈names/\c=(env.cells.lookup x).getD 0)\/acc.lookup x=some c
 | [],_,_,_,h=>.inr h
 | (n,k)::r,acc,x,c,h=>by
  unfold qS at h;rcases zR h with⟨h1,f⟩ | h1
  .show .inl ⟨yy _ h1,f⟩
  .by_cases a:(k==NameKind.free)=true
   .rw [yG a,xM] at h1
    cases b:x==n with
    | true =>
     rw[b] at h1;have e:x=n:=Yo.mp b;have d:k=.free:=Yo.mp a;subst e d;show .inl ⟨yK,(yl h1).symm⟩
    | false =>
     rw[b] at h1;show .inr h1
   .rw [yC a] at h1;show .inr h1
theorem qaX:∀{names:List (Str×NameKind)} {acc:List (Str×Addr)} {x:Str},(∃ c,acc.lookup x=some c)->∃ c,(qS env names acc).lookup x=some c
 | [],_,_,h=>h
 | (n,k)::r,acc,x,h=>by
  unfold qS;apply qaX;by_cases a:(k==NameKind.free)=true
  .rw [yG a,xM]
   cases b:x==n with
   | true=>show⟨_,rfl⟩
   | false=>show h
  .rw [yC a];show h
theorem zS:∀{names:List (Str×NameKind)} {acc:List (Str×Addr)} {x:Str},(x,NameKind.free)∈names->∃ c,(qS env names acc).lookup x=some c
 | [],_,_,h=>by cases h
 | (n,k)::r,acc,x,h=>by
  unfold qS;rcases yN.mp h with e | e
  .cases e;apply qaX;rw[show(NameKind.free==NameKind.free)=true from rfl,yG rfl,xM,xN];show⟨_,rfl⟩
  .show zS e
theorem qaY(h:∀ n,(n,NameKind.free)∈scope.names->∃ c,env.cells.lookup n=some c):closureFor scope env=pure (qS env scope.names []):=by
 have key:∀(names:List (Str×NameKind)) (acc:List (Str×Addr)),(∀ n,(n,NameKind.free)∈names->∃ c,env.cells.lookup n=some c) ->
   (forIn names acc (λ(x:Str×NameKind) (r:List (Str×Addr))=>(if (x.2==NameKind.free)=true then(cellOf env x.1>>=λc=>pure (ForInStep.yield ((x.1,c)::r))) else pure (ForInStep.yield r):Sem (ForInStep (List (Str×Addr))))))=(pure (qS env names acc):Sem (List (Str×Addr))):=by
  intro names
  induction names with
  | nil=>intro acc _;rfl
  | cons x r ih =>
   intro acc d;obtain⟨n,k⟩:=x;rw[List.forIn_cons];unfold qS;by_cases a:(k==NameKind.free)=true
   .have f:k=.free:=Yo.mp a;subst f;obtain⟨c,hc⟩:=d n yK;have g:cellOf env n=pure c:=by unfold cellOf;rw[hc]
    simp only[a,Xl,g,hc,Option.getD_some];show ih _ λm b=>d m (yy _ b)
   .simp only[a,ky];show ih _ λm b=>d m (yy _ b)
 have e:=key scope.names [] h;unfold closureFor;show Eq.trans (congrArg (λm=>m>>=pure) e) rfl
@[reducible] def Cx.comp(X:Cx)(N:LS)(scope:Scope)(C:Addr)(s0:Shared)(H0:Hp)(ex:LI):Cx where
 prog:=X.prog
 w:=X.w
 K:=X.K
 mg:=X.mg
 base:=X.base
 A:=X.A
 N:=N
 s₀:=s0
 H₀:=H0
 env:=compEnvC scope (cellsFrom (C+1) scope.names (qS X.env scope.names [])) C X.env
 outer:=X.stack
 stack:=X.stack
 ex:=ex
 fn:=λx=>scope.names.lookup x==some NameKind.cell
 calm:=X.calm
 pn:=[]
 xe:=λ_ _=>False
theorem jF:∀(names:List (Str×NameKind)) (n:Nat) (acc:List (Str×Addr)),cellsFrom n names acc=cellsFrom n names []++acc
 | [],_,_=>rfl
 | (m,k)::r,n,acc=>by
  unfold cellsFrom;split
  .rw [jF r (n+1) ((m,n)::acc),jF r (n+1) [(m,n)],Yu];rfl
  .show jF r n acc
theorem qaZ:∀{names:List (Str×NameKind)} {n:Nat} {x:Str},(x,NameKind.cell)∈names->∃ c,(cellsFrom n names []).lookup x=some c
 | (m,k)::r,n,x,h=>by
  unfold cellsFrom;rcases yN.mp h with e | e
  .cases e;rw[yG (show(NameKind.cell==NameKind.cell)=true from rfl),jF,xp]
   cases q:(cellsFrom (n+1) r []).lookup m with
   | some c=>show⟨c,rfl⟩
   | none=>show⟨n,by show List.lookup m [(m,n)]=some n;rw[xM,xN]⟩
  .split
   .rw [jF,xp];obtain⟨c,hc⟩:=qaZ (n:=n+1) e;show⟨c,by rw[hc];rfl⟩
   .show qaZ e
theorem qbX:∀{names:List (Str×NameKind)} {n:Nat} {x:Str} {c:Addr},(x,c)∈cellsFrom n names []->(x,NameKind.cell)∈names
 | (m,k)::r,n,x,c,h=>by
  unfold cellsFrom at h;split at h
  .rename_i hk
   rw[jF] at h;rcases yO.mp h with z | z
   .show yy _ (qbX z)
   .have e:(x,c)=(m,n):=yx.mp z;cases e;rw[Yo.mp hk];show yK
  .show yy _ (qbX h)
theorem qbY(h:(cellsFrom n names acc).lookup x=some c):(x,c)∈cellsFrom n names []\/acc.lookup x=some c:=by
 rw[jF,xp] at h
 cases e:(cellsFrom n names []).lookup x with
 | some d=>rw[e] at h;cases h;show .inl (mem_of_lookup e)
 | none=>rw[e] at h;show .inr h
theorem cells_some(h:(x,NameKind.cell)∈names\/∃ c,acc.lookup x=some c):∃ c,(cellsFrom n names acc).lookup x=some c:=by
 rw[jF,xp]
 cases e:(cellsFrom n names []).lookup x with
 | some d=>show⟨d,rfl⟩
 | none =>
  rcases h with z | ⟨c,hc⟩
  .obtain⟨d,a⟩:=qaZ (n:=n) z;rw[e] at a;cases a
  .show⟨c,hc⟩
section
variable{M:Model}{A:Around}{E:Value->Shared->Prop}{s:Shared}
theorem newEnvK{c:Addr}{b:List (Str×Addr)}{g:Str}{f:Option Addr}{e:Value}{d:Env}{a:Addr}{Q:Env->Shared->Prop}
  (j:Q (newEnv scope s.heap.objs.size c (cellsFrom (s.heap.objs.size+1) scope.names b) g f e (some d) a) { s with heap:=pushCells (s.heap.push { cls:=.type "dict",data:=.dict #[] }) scope.names }) :
  wpAny M A (newFunctionEnv scope c b [] g f e (some d) a) Q E s:=by
 simp only[newFunctionEnv,Option.isSome_some,Xl];show yr (wpAny_alloc ?_);show yr (wpAny_layCells _ (λname kind h=>by cases i:kind==NameKind.cell<;>simp[i]) _ _ _ _ ?_);rw[show({ s with heap:=s.heap.push { cls:=.type "dict",data:=.dict #[] } }:Shared).heap.objs.size=s.heap.objs.size+1 from xL ..];rw[List.forIn_nil];show yr (yE (yE j))
end
structure CompOk(sc scope:Scope):Prop where
 kind:scope.kind=.function
 cel:∀ y∈scope.names,y.2=.cell->scope.names.lookup y.1=some .cell
 loc:∀ y∈scope.names,y.2=.local->scope.names.lookup y.1=some .local
 free:∀ y∈scope.names,y.2=.free->sc.names.lookup y.1=some .cell\/sc.names.lookup y.1=some .free
 once:∀ y∈scope.names,y.2=.free->scope.names.lookup y.1=some .free
def qf6(sc scope:Scope):Bool:=decide (scope.kind=.function)&&scope.names.all λy=>match y.2 with
 | .local=>scope.names.lookup y.1==some .local
 | .free=>(sc.names.lookup y.1==some .cell||sc.names.lookup y.1==some .free)&&scope.names.lookup y.1==some .free
 | .cell=>scope.names.lookup y.1==some .cell
 | _=>true
theorem qet(h:qf6 sc scope=true):CompOk sc scope:=by
 unfold qf6 at h;rw[y1] at h;have b:=Yy.mp h.2;show⟨yj h.1,λy a e=>?_,λy a e=>?_,λy a e=>?_,λy a e=>?_⟩
 .have:=b y a;rw[e] at this;show Yo.mp this
 .have:=b y a;rw[e] at this;show Yo.mp this
 .have:=b y a;rw[e,y1,YZ] at this;show this.1.imp Yo.mp Yo.mp
 .have:=b y a;rw[e,y1] at this;show Yo.mp this.2
def qhy(nl:Nat)(ixs:LN)(N XN:LS)(names:List (Str×NameKind)):Bool:=(List.range ixs.length).all λk=>match ixs[k]?,N[nl+k]? with
 | some j,some x=>XN[j]?==some x&&names.any λy=>y.1==x&&y.2==.free
 | _,_=>true
theorem qfb{XN:LS}(h:qhy nl ixs N XN names=true)(k j:Nat)(x:Str)(h1:ixs[k]?=some j)(c:N[nl+k]?=some x):XN[j]?=some x/\(x,NameKind.free)∈names:=by
 have d:k<ixs.length:=(yc.mp h1).1;have:=Yy.mp h k (y7.mpr d);rw[h1,c] at this;simp only[y1] at this;show⟨Yo.mp this.1,?_⟩;obtain⟨⟨n,g⟩,f,e⟩:=xo.mp this.2;rw[y1] at e;have a:n=x:=Yo.mp e.1;have b:g=.free:=Yo.mp e.2;subst a b;show f
def qeW(nl:Nat)(ixs:LN)(σ:St):St:=List.replicate nl none++ixs.map λj=>(σ[j]?).getD none
theorem capS_len(nl:Nat)(ixs:LN)(σ:St):(qeW nl ixs σ).length=nl+ixs.length:=by
 unfold qeW;rw[yu,Y7,ya]
theorem qeu{i:Nat}(h:(qeW nl ixs σ)[i]?=some (some v)):nl<=i/\∃ j,ixs[i-nl]?=some j/\σ[j]?=some (some v):=by
 unfold qeW at h;by_cases a:i<nl
 .rw [yX (by rw[Y7];show a),Xr] at h;split at h<;>cases h
 .rw [Ye (by rw[Y7];lk),Y7,yd] at h;show⟨by lk,?_⟩
  cases e:ixs[i-nl]? with
  | none=>rw[e] at h;cases h
  | some j =>
   rw[e] at h;have h':(σ[j]?).getD none=some v:=yl h
   cases q:σ[j]? with
   | none=>rw[q] at h';cases h'
   | some u =>
    rw[q] at h';show⟨j,rfl,by rw[q];show congrArg some h'⟩
def qf7(env:Env)(y:Str×NameKind):Str×NameKind:=if (y.2==NameKind.free&&env.scope.kind==.function&&env.kindOf y.1==some .cell)=true then(y.1,NameKind.cell) else(y.1,y.2)
theorem relF_fst(env:Env)(y:Str×NameKind):(qf7 env y).1=y.1:=by unfold qf7;split<;>rfl
theorem relF_snd(env:Env)(y:Str×NameKind):(qf7 env y).2=y.2\/((qf7 env y).2=.cell/\y.2=.free):=by
 unfold qf7;split
 .rename_i h
  rw[y1,y1] at h;show .inr ⟨rfl,Yo.mp h.1.1⟩
 .show .inl rfl
theorem zw:∀{names:List (Str×NameKind)} {x:Str} {k:NameKind},(names.map (qf7 env)).lookup x=some k->∃ b,names.lookup x=some b/\(x,b)∈names/\(k=b\/(k=.cell/\b=.free))
 | [],_,_,h=>by cases h
 | (n,k1)::r,x,k,h=>by
  rw[Yk,show qf7 env (n,k1)=((qf7 env (n,k1)).1,(qf7 env (n,k1)).2) from rfl,xM,relF_fst] at h;rw[xM]
  cases c:x==n with
  | true =>
   have e:x=n:=Yo.mp c;subst e;have a:(x==(x,k1).1)=true:=c;rw[a] at h;have h':=yl h;show⟨k1,rfl,yK,?_⟩;rcases relF_snd env (x,k1) with z | ⟨z1,z2⟩
   .show .inl (h'.symm.trans z)
   .show .inr ⟨h'.symm.trans z1,z2⟩
  | false =>
   have a:(x==(n,k1).1)=false:=c;rw[a] at h;obtain⟨b,d,f,g⟩:=zw h;show⟨b,d,yy _ f,g⟩
section
variable{X:Cx}{pins:List (Addr×Obj)}{σ:St}{H:Hp}{s:Shared}
theorem comp_free_of{cl:List (Str×Addr)}(h:(compEnvC scope cl C X.env).kindOf x=some .cell\/(compEnvC scope cl C X.env).kindOf x=some .free):(x,NameKind.cell)∈scope.names\/(x,NameKind.free)∈scope.names:=by
 rcases h with h | h
 .obtain⟨b,_,a,e | ⟨_,e⟩⟩:=zw (env:=X.env) (names:=scope.names) h
  .rw [<- e] at a;show .inl a
  .rw [e] at a;show .inr a
 .obtain⟨b,_,a,e | ⟨e,_⟩⟩:=zw (env:=X.env) (names:=scope.names) h
  .rw [<- e] at a;show .inr a
  .cases e
theorem Inv.comp{S:Obj}{h1:Heap}{tk:Nat}(I:Inv X pins σ H s)(O:CompOk X.env.scope scope)
  (hN:N.length=nl+ixs.length) (G:∀(k j:Nat) (x:Str),ixs[k]?=some j->N[nl+k]?=some x->X.N[j]?=some x/\(x,NameKind.free)∈scope.names)
  (M:∀ b∈fp,qdN X pins H b) (J:∀ b∈fp,b<s.heap.objs.size) (L:s.heap.objs.size<=C) (W:s.heap.objs.size<=D) (Y:D≠C) (ac:h1.Ns C λ_=>none) (k:∀ b o,s.heap.get? b=some o->h1.get? b=some o)
  (ad:h1.get? D=some S) (aa:∀ v,S.data≠.cell v) (B:CellsOk h1 (C+1) (cellsFrom (C+1) scope.names [])):Inv (X.comp N scope C s H fp) [(D,S)] (qeW nl ixs σ) H { s with heap:=h1,toks:=tk }:=by
 have a:∀ x c,(qS X.env scope.names []).lookup x=some c->X.env.cells.lookup x=some c/\(x,NameKind.free)∈scope.names:=λx c h=>by
  rcases zR h with⟨h1,K⟩ | h1
  .obtain⟨F,l⟩:=I.ok.has x (by
    rcases O.free _ h1 rfl with z | z
    .show .inl z
    .show .inr z)
   rw[l] at K;show⟨by rw[l,K];rfl,h1⟩
  .cases h1
 have big:∀ c:Addr,C+1<=c->s.heap.objs.size<=c:=λc h=>yh L (Nat.le_of_succ_le h);have R:∀{P:Prop} {c:Addr},C+1<=c->c<s.heap.objs.size->P:=λh g=>absurd (yi g (big _ h)) (Yr _)
 have all:∀ x c,(cellsFrom (C+1) scope.names (qS X.env scope.names [])).lookup x=some c->((x,c)∈cellsFrom (C+1) scope.names []/\C+1<=c/\h1.IsCell c none)\/(X.env.cells.lookup x=some c/\c<s.heap.objs.size):=λx c h=>by
  rcases qbY h with z | z
  .show .inl ⟨z,(B.empty _ _ z).2,(B.empty _ _ z).1⟩
  .obtain⟨_,q⟩:=I.cell x c (a x c z).1;show .inr ⟨(a x c z).1,q.lt⟩
 show⟨⟨I.ok.mod,O.kind,I.ok.glob,I.ok.blt,L,λx y c h1 K=>?inj,λx hx=>cells_some ((comp_free_of hx).imp id zS),λx c z h=>?cab,I.ok.hd,I.ok.frames,.inl rfl,
   λb hb=>⟨Yj (yi (J b hb) L),λx c e=>?exf⟩,I.bs,yh I.ok.bsz I.sz,λb o e hb=>?_,λb hb z=>?_,I.stack,I.stkFree⟩,
  rfl,I.bare,Un.kept k,⟨_,ac,λi x v e1 e2 e3=>?_⟩,λx c e=>?_,I.hok.fresh L,λx c e=>?fre,λp hp=>?_,I.hok.kept k,?_⟩
 case inj =>
  rcases all x c h1 with⟨r,f,_⟩ | ⟨r,f⟩<;>rcases all y c K with⟨T,U,_⟩ | ⟨T,U⟩
  .show name_of_addr B.apart r T
  .show R f U
  .show R U f
  .show I.ok.inj x y c r T
 case cab =>
  rcases all x c h with⟨_,f,_⟩ | ⟨r,f⟩
  .show big _ f
  .exfalso;obtain⟨d,E⟩:=qaZ (n:=C+1) (mem_of_lookup (Yo.mp z));have h:(cellsFrom (C+1) scope.names (qS X.env scope.names [])).lookup x=some c:=h;rw[jF,xp,E] at h;cases h;show R (B.empty _ _ (mem_of_lookup E)).2 f
 case exf =>
  rcases all x c e with⟨_,f,_⟩ | ⟨r,_⟩
  .show λz=>R f (by rw[z];show J b hb)
  .show(M b hb).2.2.2.2.1 x c r
 case fre =>
  rcases all x c e with⟨_,f,_⟩ | ⟨r,_⟩
  .show I.hok.fresh (big _ f)
  .show I.freeC x c r
 .rcases(M b hb).2.2.2.1 with z | z
  .show I.ok.noex b o e z
  .have:=(I.ok.bs b o e).1;show absurd (yi (yR this) z) (Yr _)
 .rcases yN.mp (I.stkSub b z) with e | e
  .show(M b hb).2.1 e
  .show(M b hb).2.2.1 e
 .obtain⟨hi,j,hj,hv⟩:=qeu e2;obtain⟨hx,t⟩:=G (i-nl) j x hj (by rw[Nat.add_sub_cancel' hi];show e1);obtain⟨m,hn,hl⟩:=I.loc;have B:=O.free _ t rfl
  obtain⟨u,ru,lk⟩:=hl j x v hx hv (by
   rcases B with z | z
   .show .inr (.inl z)
   .show .inr (.inr z))
  show⟨u,ru,?_⟩;rcases lk with⟨ab,_⟩ | ⟨_,c,hc,A⟩
  .have w:X.env.scope.names.lookup x=some .local:=ab;rcases B with z | z<;>· rw[z] at w;cases w
  .obtain⟨F,l⟩:=zS (env:=X.env) (acc:=[]) t
   have e:F=c:=by
    have:=(a x F l).1;rw[hc] at this;show(yl this).symm
   subst e
   have Z:(cellsFrom (C+1) scope.names (qS X.env scope.names [])).lookup x=some F:=by
    rw[jF,xp]
    cases q:(cellsFrom (C+1) scope.names []).lookup x with
    | none=>show l
    | some d=>have:=O.cel _ (qbX (mem_of_lookup q)) rfl;rw[O.once _ t rfl] at this;cases this
   show .inr ⟨?_,F,Z,?_⟩
   .rcases e3 with z | z | z
    .obtain⟨k0,z3,_,e | ⟨e,_⟩⟩:=zw (env:=X.env) (names:=scope.names) z
     .rw [O.once _ t rfl] at z3;cases z3;cases e
     .cases e
    .show .inl z
    .show .inr z
   .obtain⟨o,ho,E⟩:=A;show⟨o,k _ _ ho,E⟩
 .rcases all x c e with⟨_,_,a3⟩ | ⟨r,_⟩
  .show⟨none,a3⟩
  .obtain⟨v,o,ho,E⟩:=I.cell x c r;show⟨v,o,k _ _ ho,E⟩
 .have e:p=(D,S):=by simpa using hp
  subst e;show⟨ad,I.hok.fresh W,Y,λz=>?_,aa⟩;rcases yN.mp (I.stkSub D z) with e | e
  .show absurd (show X.env.locals<D from yi I.lt W) (by rw[e];show Yr _)
  .show I.nofs W e
 .show(qeW nl ixs σ).length=N.length;rw[capS_len,hN]
theorem Inv.compBack{j:Shared}{i:Hp}{h:St}(I:Inv X pins σ H s)(f:∀ b∈fp,qdN X pins H b)(x:s.heap.objs.size<=C)(l:s.heap.objs.size<=D)
  (J:Inv (X.comp N scope C s H fp) [(D,{ cls:=.type "list",data:=.seq its.toArray n })] h i j) (hv:Vals ys its) (p:ys.length<=sizeLine):Inv X pins σ (upd i D (.lst ys)) j:=by
 obtain⟨t,d,r,_,_⟩:=J.pin (D,{ cls:=.type "list",data:=.seq its.toArray n }) (yT _ (yx.mpr rfl));have g:∀ b o,s.heap.get? b=some o->b≠D:=λb o e=>Yj (yi (yR e) l);have a:=J.base;show I.call' (ch:=fp) J.os ⟨a.keep,a.slot,λb o e n m=>?_,a.there,λb xs e=>?_,λb o u e=>?_,λb w e=>?_⟩ (λb u e=>?_) J.bare λb hb=>⟨(f b hb).2.2.2.1,(f b hb).2.1,(f b hb).2.2.2.2.1,(f b hb).2.2.2.2.2⟩
 .rw [qj (g b o e)];show a.free b o e n m
 .have q:=a.tups b xs e;rw[qj (qI q d)];show q
 .have q:=a.frzs b o u e;rw[qj (qI q d)];show q
 .obtain⟨more,q⟩:=a.tbls b w e;show⟨more,by rw[qj (qI q d)];show q⟩
 .by_cases hb:b=D
  .subst hb;rw[qb] at e;cases e;show⟨p,its,n,hv,t⟩
  .rw [qj hb] at e;show(J.hok b u e).stay (λc v _ q=>q) (λc q=>by rw[qj (qI q d)];show q) λc xs q=>by rw[qj (qI q d)];show q
end
def qhO:TT:=λ_ H Q=>Q true H
def qf8(wi:TI)(g:TG)(tc:TT)(te:TE)(nl:Nat)(ixs:LN):TE:=fun σ H Q=>wi σ H λJ f =>
 ∃ W:Nat->Nat->List V->Hp->Prop,(∃ m,W 0 m [] f)/\∀ i m ys H,W i m ys H ->
  (J.stop i H/\ys.length<=sizeLine/\∀ p,H p=none->Q (.ref p) (upd H p (.lst ys))) \/
  (J.go i H/\∃ M:List V->Hp->Prop,(∀ ys' a,M ys' a->∃ e,e<m/\W (i+1) e ys' a)/\∀ x a,J.yld i H x a->g x (qeW nl ixs σ) a λc h=>tc c h λb d =>
   if b=true then te c d λv j=>ys.length<sizeLine/\M (ys++[v]) j else M ys d)
def qfc(nl:Nat)(g:TG):Prop:=∀ x σ H Q,g x σ H Q->g x σ H λa b=>Q a b/\a.length=σ.length/\∀ i,nl<=i->a[i]?=σ[i]?
theorem qA{i:Nat}(h:i<nl:=by decide):qfc nl (qco i):=λx σ H Q q=>⟨q,XI ..,λj a=>xv (by lk)⟩
def qg8(X:Cx)(ifs:List Expr)(tc:TT):Prop:=
 ∀(pins:List (Addr×Obj)) (s:Shared) (σ:St) (H:Hp) (Q:Bool->Hp->Prop),Inv X pins σ H s->tc σ H Q ->
  wpAny (model X.prog X.w) X.A (forIn ifs true λc r=>if r=true then do let ok <- isTrue c X.env (eval c X.env);pure (ForInStep.yield ok) else pure (ForInStep.yield r)) (TP X pins σ Q) X.xe s
theorem jj:qg8 X [] qhO:=λpins s σ H Q I h=>wpAny_tests_nil ⟨H,I,h⟩
theorem qE{c:Expr}(h:PT X c tc):qg8 X [c] tc:=λpins s σ H Q I q=>wpAny_tests_one (h pins s σ H Q I q)
section
variable{X:Cx}{pins:List (Addr×Obj)}{σ:St}{H:Hp}{s:Shared}
theorem qcy{tn:Nat->Heap->Prop}{J:It}{Q:V->Hp->Prop}
  {RR:Value->Addr->Result->Shared->Prop} (I:Inv X pins σ H s) (hc:X.calm=true) (O:CompOk X.env.scope scope)
  (hN:N.length=nl+ixs.length) (aj:∀(k j:Nat) (x:Str),ixs[k]?=some j->N[nl+k]?=some x->X.N[j]?=some x/\(x,NameKind.free)∈scope.names)
  (T:Turn X.prog X.w X.K tg J fp it tn) (st:tn 0 s.heap) (hf:∀ b∈fp,qdN X pins H b)
  (hg:∀ C s0 H0 ex,PG (X.comp N scope C s0 H0 ex) tg g) (gk:qfc nl g) (hi:∀ C s0 H0 ex,qg8 (X.comp N scope C s0 H0 ex) ifs tc) (he:∀ C s0 H0 ex,PE (X.comp N scope C s0 H0 ex) elt te)
  (h:∃ W:Nat->Nat->List V->Hp->Prop,(∃ m,W 0 m [] H)/\∀ i m ys H,W i m ys H ->
   (J.stop i H/\ys.length<=sizeLine/\∀ p,H p=none->Q (.ref p) (upd H p (.lst ys))) \/
   (J.go i H/\∃ M:List V->Hp->Prop,(∀ ys' f,M ys' f->∃ m',m'<m/\W (i+1) m' ys' f)/\∀ x f,J.yld i H x f->g x (qeW nl ixs σ) f λaq a=>tc aq a λb H3 =>
    if b=true then te aq H3 λv H4=>ys.length<sizeLine/\M (ys++[v]) H4 else M ys H3))
  (ax:∀(D C:Addr) (t:Shared) (f:Hp) (S:St) (ys:List V) (its:List Value) (n:Nat),s.heap.objs.size<=C->s.heap.objs.size<=D->Inv (X.comp N scope C s H fp) [(D,{ cls:=.type "list",data:=.seq its.toArray n })] S f t->Vals ys its->ys.length<=sizeLine ->
   (∀ p,f p=none->Q (.ref p) (upd f p (.lst ys)))->RR (.ref D) C (.ok .next) t) :
  wpAny (model X.prog X.w) X.A (newList []) (λacc s3=>wpAny (model X.prog X.w) X.A (newFunctionEnv scope X.env.globals (qS X.env scope.names []) [] X.env.qual none .none (some X.env)) (λY s4 =>
   codeAny (model X.prog X.w) X.A (.compStart (.ListComp elt [⟨tg,iter,ifs,0⟩] scope pos) 0 (.ref it) acc { Y with scope:=relabel scope X.env }) (RR acc Y.locals) s4) E s3) E s:=by
 obtain⟨W,⟨m0,w0⟩,ap⟩:=h;show Xd (newEnvK ?_);dsimp only;generalize ac:s.heap.push { cls:=.type "list",dict:=none,data:=.seq ([]:List Value).toArray }=a;have aa:(pushCells (a.push { cls:=.type "dict",data:=.dict #[] }) scope.names).Ns a.objs.size λ_=>none:=(Heap.Ns.new a (.type "dict")).keeps (pushCells_keeps _ _);have G:=cellsFrom_ok scope.names (a.push { cls:=.type "dict",data:=.dict #[] }) (a.objs.size+1) [] ⟨λ_ _ hm=>(nomatch hm),List.Pairwise.nil⟩ (by rw[xL];show yg _);rw[xL] at G;have ad:∀ b o,a.get? b=some o->(pushCells (a.push { cls:=.type "dict",data:=.dict #[] }) scope.names).get? b=some o:=λb o e=>pushCells_keeps _ _ b o (yz _ e);generalize pushCells (a.push { cls:=.type "dict",data:=.dict #[] }) scope.names=h1 at aa G ad ⊢;have hC:a.objs.size=s.heap.objs.size+1:=by rw[<- ac,xL]
 have aw:s.heap.objs.size≠a.objs.size:=by rw[hC];show Yj (XA _)
 have Z:s.heap.objs.size<=a.objs.size:=by rw[hC];show xm _
 have below:∀ b,b<s.heap.objs.size->b≠a.objs.size/\b≠s.heap.objs.size:=λb hb=>⟨by rw[hC];show Yj (Nat.lt_succ_of_lt hb),Yj hb⟩;have ae:∀ b o,s.heap.get? b=some o->h1.get? b=some o:=λb o e=>ad b o (ac ▸ yz _ e);have ah:h1.get? s.heap.objs.size=some { cls:=.type "list",data:=.seq ([]:List Value).toArray }:=ad _ _ (ac ▸ yY _ rfl)
 have F:∀ b∈fp,b<s.heap.objs.size:=λb hb=>by
  obtain⟨o,ho,_⟩:=T.obj 0 _ st b hb;show yR ho
 have ab:∀ s3:Shared,s3={ s with heap:=h1 } ->
   codeAny (model X.prog X.w) X.A (.compLoop (.ListComp elt [⟨tg,iter,ifs,0⟩] scope pos) 0 (.ref it) (.ref s.heap.objs.size) (compEnvC scope (cellsFrom (a.objs.size+1) scope.names (qS X.env scope.names [])) a.objs.size X.env)) (RR (.ref s.heap.objs.size) a.objs.size) s3:=by
  rintro s3 rfl;have I0:=I.comp (N:=N) (C:=a.objs.size) (D:=s.heap.objs.size) (h1:=h1) (tk:=s.toks) O hN aj hf F Z (yg _) aw aa ae ah (λv z=>by cases z) G
  have B:∀{f:Hp} {S:St} {t:Shared} {pl:List (Addr×Obj)},Inv (X.comp N scope a.objs.size s H fp) pl S f t->(∀ p∈pl,p.1=s.heap.objs.size)->(∀ b∈fp,f b=none)->∀ b∈fp,qdN (X.comp N scope a.objs.size s H fp) pl f b:=λ{f S t pl} J az hn b hb =>
   ⟨hn b hb,(below b (F b hb)).1,λz=>(by
     rcases yN.mp (I.stkSub b z) with e | e
     .show(hf b hb).2.1 e
     .show(hf b hb).2.2.1 e),.inl hb,J.ok.exf b hb |>.2,λp P z=>by
    have e:=az p (by simpa using P);rw[e] at z;show(below b (F b hb)).2 z.symm⟩
  show compLoop_own (λk t=>∃ i f ys its n,Inv (X.comp N scope a.objs.size s H fp) [(s.heap.objs.size,{ cls:=.type "list",data:=.seq its.toArray n })] (qeW nl ixs σ) f t/\tn i t.heap/\(∀ b∈fp,f b=none)/\Vals ys its/\W i k ys f) ?_ m0
   ⟨0,H,[],[],0,I0,T.keep _ _ _ st λb _ o e=>ae b o e,λb hb=>(hf b hb).1,.nil,w0⟩
  rintro k t ⟨i,f,ys,its,n,J1,an,ag,v1,w1⟩
  have one:∀ p∈[((s.heap.objs.size,{ cls:=.type "list",data:=.seq its.toArray n }):Addr×Obj)],p.1=s.heap.objs.size:=λp P=>by
   have e:p=_:=yx.mp P;rw[e]
  rcases ap i k ys f w1 with⟨ao,hz,q⟩ | ⟨go,M,hM,step⟩
  .show thn (T.done (X.comp N scope a.objs.size s H fp) rfl rfl rfl hc i _ t _ f _ J1 (B J1 one ag) an ao) λr s4 ⟨hr,J4⟩=>?_;subst hr;show ax _ _ s4 f _ ys its n Z (yg _) J4 v1 hz q
  .show thn (T.item (X.comp N scope a.objs.size s H fp) rfl rfl rfl hc i _ t _ f _ J1 (B J1 one ag) an go) λr s4 ⟨u,hr,h4⟩=>?_;subst hr;show thn h4 λ_ s5 ⟨x,H5,J5,r5,y5,af,as⟩=>?_;have ar:=J5.pinned (B J5 one as) (T.obj _ _ af);show thn (hg _ _ _ _ _ s5 _ H5 x u _ ar r5 (gk _ _ _ _ (step x H5 y5))) λ_ s6 ⟨U,H6,J6,q6,l6,k6⟩=>?_;show thn (hi _ _ _ _ _ s6 U H6 _ J6 q6) λok s7 ⟨H7,J7,q7⟩=>?_;have l:∀{R:Shared} {H8:Hp} {ys':List V} {k':Nat},Inv (X.comp N scope a.objs.size s H fp) ([((s.heap.objs.size,{ cls:=.type "list",data:=.seq its.toArray n }):Addr×Obj)]++qc9 fp s5.heap) U H8 R ->
     (∀ b o,b≠s.heap.objs.size->R.heap.get? b=some o->R.heap.get? b=some o)->tn (i+1) R.heap/\∀ b∈fp,H8 b=none:=λ{R H8 ys' k'} J8 _=>by
    show⟨T.keep _ _ _ af λb hb o e=>(J8.pin (b,o) (yT _ (yT _ (qav hb e)))).1,λb hb=>?_⟩;obtain⟨o,e,d⟩:=T.obj _ _ af b hb;show(J8.pin (b,o) (yT _ (yT _ (qav hb e)))).2.1
   have wk:∀(j:Nat) v,(qeW nl ixs σ)[j]?=some (some v)->U[j]?=some (some v):=λj v e=>by
    obtain⟨hj,_⟩:=qeu e;rw[k6 j hj];show e
   cases ok with
   | false =>
    rw[yC Ys] at q7 ⊢;obtain⟨m',hm,w7⟩:=hM _ _ q7;obtain⟨bb,au⟩:=l (ys':=ys) (k':=0) J7 (λ_ _ _ e=>e);show⟨m',hm,i+1,H7,ys,its,n,J7.unpinned.weak l6.symm wk,bb,au,v1,w7⟩
   | true =>
    rw[yG rfl] at q7 ⊢;show thn (he _ _ _ _ _ s7 U H7 _ J7 q7) λy R ⟨v,H8,J8,r8,bd,mq⟩=>?_;obtain⟨m',hm,w8⟩:=hM _ _ mq;obtain⟨bc,av⟩:=l (ys':=ys) (k':=0) J8 (λ_ _ _ e=>e);have J9:=J8.unpinned;obtain⟨pD,nD,am,ba,_⟩:=J9.pin (s.heap.objs.size,{ cls:=.type "list",data:=.seq its.toArray n }) (yT _ (yx.mpr rfl));show wpAny_list_append_plain (hsz:=by rw[yB,<- v1.length];lk) ⟨n,pD⟩ λh9 L al=>?_;obtain⟨n9,L⟩:=L;have e9:(its.toArray.push y)=(its++[y]).toArray:=by simp
    rw[e9] at L
    have Ja:Inv (X.comp N scope a.objs.size s H fp) [] (qeW nl ixs σ) H8 { R with heap:=h9,toks:=R.toks }:=
     ((J9.pins_of (pins':=[]) λp P=>absurd P (by simp)).turned (it:=s.heap.objs.size) (h':=h9) (t':=R.toks) (λb o hb e=>(al.2 b hb).trans e) nD am (.inr (yg _))
      (λx c e z=>by
       rcases qbY e with w | e
       .have:=(G.empty _ _ w).2;rw[z,hC] at this;show absurd (yh (xm _) this) (Nat.not_succ_le_self _)
       have:=zR e;rcases this with⟨ay,hcc⟩ | hcc
       .obtain⟨c',ai⟩:=I.ok.has x (by
         rcases O.free _ ay rfl with q | q
         .show .inl q
         .show .inr q)
        rw[ai] at hcc;have ak:c=c':=hcc;obtain⟨_,q⟩:=I.cell x c' ai;rw[<- ak,z] at q;show absurd q.lt (Yr _)
       .cases hcc) (λp P=>absurd P (by simp))).weak l6.symm wk
    show⟨m',hm,i+1,H8,ys++[v],its++[y],n9,Ja.pins_of λp P=>?_,?_,av,v1.append (.cons r8 .nil),w8⟩
    .have e:p=_:=yx.mp P;subst e;show⟨L,nD,am,ba,λv z=>by cases z⟩
    .show T.keep _ _ _ bc λb hb o e=>(al.2 b (below b (F b hb)).2).trans e
 show codeAny_compStart_list (ab _ rfl) (T.self _ 0 _ _ _ (T.keep _ _ _ st λb _ o e=>ae b o e) (ab _ rfl))
end
section
variable{X:Cx}{tg elt iter:Expr}{ifs:List Expr}{scope:Scope}{pos:Pos}{N:LS}{nl:Nat}{ixs:LN}{wi:TI}{g:TG}{tc:TT}{te:TE}
theorem qL{XN:LS}(N:LS)(nl:Nat)(ixs:LN)(G:X.env.scope=sc)(y:X.N=XN)(hc:X.calm=true)(R:qf6 sc scope=true)(Y:N.length=nl+ixs.length)(d:qhy nl ixs N XN scope.names=true)
  (hi:PI X tg iter wi) (hg:∀ C t i j,PG (X.comp N scope C t i j) tg g) (S:qfc nl g) (ht:∀ C t i j,qg8 (X.comp N scope C t i j) ifs tc) (he:∀ C t i j,PE (X.comp N scope C t i j) elt te)
  (hs:∀ x,foldedSetIterable iter X.env x=pure x:=by intro _;rfl):PE X (.ListComp elt [⟨tg,iter,ifs,0⟩] scope pos) (qf8 wi g tc te nl ixs):=by
 intro pins s σ H Q I h;subst G y;have O:=qet R;have r:=qfb d;rw[eval_ListComp]
 have E:=qaY (scope:=scope) (env:=X.env) λn F=>I.ok.has n (by
  rcases O.free _ F rfl with z | z
  .show .inl z
  .show .inr z)
 show wpAny_comprehension_free (use:=none) rfl hs E O.kind O.loc (thn (hi pins s σ H _ I h) λv s1 h1=>thn h1 λaa s2 U=>?_);obtain⟨it,fp,tn,J,H2,e,f,T,L,M,Z⟩:=U;subst e;show qcy (Q:=Q) (RR:=λacc C=>compPost (model X.prog X.w) X.A X.xe none (EP X pins σ Q) acc C) f hc O Y r T L M hg S ht he Z ?_;intro D C s' P ab ys its n l W u hv hz q;obtain⟨m,F,_⟩:=id u.loc;have B:=f.compBack M l W u hv hz;obtain⟨_,nD,K,_,_⟩:=u.pin (D,{ cls:=.type "list",data:=.seq its.toArray n }) (yT _ (yx.mpr rfl));show⟨m,F,λh' sb=>⟨.ref D,_,?_,rfl,q D nD⟩⟩;show B.turned (it:=C) (h':=h') (t':=s'.toks) (λb o hb e=>(sb.2 b hb).trans e) ((qj (H:=P) (a:=D) (b:=C) (o:=.lst ys) (YB K)).trans u.free) (Xk (yi f.lt l)) (.inr (yh f.sz l)) (λx c e z=>?_) (λp hp z=>?_)
 .obtain⟨_,q⟩:=f.cell x c e;show absurd (yi q.lt (by rw[z];show l)) (Yr _)
 .show absurd (yi (yR (f.pin p hp).1) (by rw[z];show l)) (Yr _)
theorem jM{i:Nat}{y:Str}{r f:Pos}{XN:LS}(N:LS)(nl:Nat)(ixs:LN)(aa:X.env.scope=sc)(E:X.N=XN)(hc:X.calm=true)(O':qf6 sc scope=true)(hN:N.length=nl+ixs.length)(l:qhy nl ixs N XN scope.names=true)
  (S:X.N.Nodup) (W:X.N[i]?=some y) (hy:X.env.scope.names.lookup y=some .local)
  (hi:PI X tg iter wi) (hg:∀ C K t u,PG (X.comp N scope C K t u) tg g) (gk:qfc nl g) (ht:∀ C K t u,qg8 (X.comp N scope C K t u) ifs tc) (he:∀ C K t u,PE (X.comp N scope C K t u) elt te)
  (ab:swapsWith (.ListComp elt [⟨tg,iter,ifs,0⟩] scope pos) (some (.Name y r)) f.line X.env=pure true:=by rfl)
  (hs:∀ x,foldedSetIterable iter X.env x=pure x:=by intro _;rfl):PS X (.Assign [.Name y r] (.ListComp elt [⟨tg,iter,ifs,0⟩] scope pos) f) (qgT (qf8 wi g tc te nl ixs) (qco i)):=by
 intro pins s σ H M I h;subst aa E;have O:=qet O';have F:=qfb l
 have U:=qaY (scope:=scope) (env:=X.env) λn Y=>I.ok.has n (by
  rcases O.free _ Y rfl with z | z
  .show .inl z
  .show .inr z)
 rw[exec_Assign_Name_used _ _ _ _ ab];show yr (wpAny_standAt (yr ?_));show wpAny _ X.A (do let _ <- comprehension (.ListComp elt [⟨tg,iter,ifs,0⟩] scope pos) scope X.env _ (newList []) false (eval iter X.env) (some (assign (.Name y r) X.env))) _ _ s;show yr (Y8 (wpAny_comprehension_free (use:=some (assign (.Name y r) X.env)) (Q:=λ_ G=>SP X pins M .next G) rfl hs U O.kind O.loc
  (thn (hi pins s σ H _ I h) λv s1 h1=>thn h1 λaf s2 h2=>?_)) (λ_ G hq=>yE (yE hq)) λ_ _ e=>e)
 obtain⟨it,fp,tn,J,H2,e,d,T,ae,f2,hW⟩:=h2;subst e;show qcy (Q:=λv P=>qco i v σ P M.nx) (RR:=λacc C=>compPost (model X.prog X.w) X.A X.xe (some (assign (.Name y r) X.env)) (λ_ G=>SP X pins M .next G) acc C) d hc O hN F T ae f2 hg gk ht he hW ?_;intro D C G P ag ys its n j hD L hv hz q;obtain⟨m,Y,_⟩:=id L.loc;have B:=d.compBack f2 j hD L hv hz;obtain⟨_,nD,ac,_,_⟩:=L.pin (D,{ cls:=.type "list",data:=.seq its.toArray n }) (yT _ (yx.mpr rfl));show wpAny _ X.A (assign (.Name y r) X.env (.ref D)) _ _ _;show wpAny_assign_Name (qc7 (i:=i) (x:=y) (v:=.ref D) B S W (.inl hy) rfl (λad B' Z=>?_) (.inr hy));obtain⟨a,sa,ha⟩:=Z
 have R:C≠a:=by
  rintro rfl;rcases ha with z | z
  .show absurd (show X.env.locals<C from yi d.lt j) (by rw[z];show Yr _)
  .obtain⟨_,q⟩:=d.cell y C z;show absurd (yi q.lt j) (Yr _)
 show⟨m,Y.sameBut sa R,λh' sb=>⟨_,_,?_,q D nD⟩⟩;show B'.turned (it:=C) (h':=h') (t':=ad.toks) (λb o hb e=>(sb.2 b hb).trans e) ((qj (H:=P) (a:=D) (b:=C) (o:=.lst ys) (YB ac)).trans L.free) (Xk (yi d.lt j)) (.inr (yh d.sz j)) (λx c e z=>?_) (λp hp z=>?_)
 .obtain⟨_,q⟩:=d.cell x c e;show absurd (yi q.lt (by rw[z];show j)) (Yr _)
 .show absurd (yi (yR (d.pin p hp).1) (by rw[z];show j)) (Yr _)
end
def Its(x:Str):It:=⟨λi _=>i<x.cps.size,λi H v a=>a=H/\∃ c,x.cps[i]?=some c/\v=.str ⟨#[c]⟩,λi _=>i=x.cps.size⟩
theorem qev{K:yf}{t:Tok}(W:∀ A:Around,A.handled=none->Walks P w A it [it] [it] x.cps.size (SignAt x) λi h=>h.IsStrIter it T x t i)
  (J:∀(A:Around) (i:Nat) (s:Shared) (Q:Value->Shared->Prop) (E:Value->Shared->Prop),s.heap.IsStrIter it T x t i->Q (.ref it) s->wpAny (model P w) A (pyIter (.ref it)) Q E s)
  (B:∀ v,letOwnedTupleGo tg (.ref it) v=pure ()):Turn P w K tg (Its x) [it] it (λi h=>h.IsStrIter it T x t i) where
 mem:=by simp
 obj:=λi h st b hb=>by
  have e:b=it:=by simpa using hb
  subst e;obtain⟨o,e,c,d⟩:=st;show⟨o,e,λv z=>by rw[d] at z;cases z⟩
 keep:=λi h h' st k=>by
  obtain⟨o,e,r⟩:=st;show⟨o,k it (by simp) o e,r⟩
 item:=by
  intro X p hw n hc i pins s σ H E I a st y;subst p hw n;obtain⟨f,g,G,j,l,m⟩:=a it (by simp);show(W X.A (I.ok.hd hc)).item i s _ _ y st λv h' tk hv D C=>?_;obtain⟨c,u,q,rfl⟩:=hv;have F:Inv X pins σ H { s with heap:=h',toks:=tk }:=I.turned (λb o hb e=>C b o (by simpa using hb) e) f g j l m;show⟨_,rfl,Y0 (B _) ⟨.str ⟨#[c]⟩,H,F,⟨u,rfl⟩,⟨rfl,c,q,rfl⟩,D,λb hb=>(a b hb).1⟩⟩
 done:=by
  intro X p hw n hc i pins s σ H E I a st y;subst p hw n;obtain⟨f,g,G,j,l,m⟩:=a it (by simp);have e:i=x.cps.size:=y;subst e;show(W X.A (I.ok.hd hc)).done s _ _ st λh' tk C=>⟨rfl,I.turned (λb o hb e=>C b o (by simpa using hb) e) f g j l m⟩
 self:=J
section
variable{X:Cx}{tg:Expr}
end
section
variable{K:yf}{a:Addr}{xs:List V}{g:TG}{tc:TT}{te:TE}{σ':St}{H1:Hp}{Q:V->Hp->Prop}
def qeR(J:It)(g:TG)(tc:TT)(te:TE)(σ':St)(H1:Hp)(Q:V->Hp->Prop):Prop:=
 ∃ W:Nat->Nat->List V->Hp->Prop,(∃ m,W 0 m [] H1)/\∀ i m ys H,W i m ys H ->
   (J.stop i H/\ys.length<=sizeLine/\∀ p,H p=none->Q (.ref p) (upd H p (.lst ys))) \/
   (J.go i H/\∃ M:List V->Hp->Prop,(∀ ys' a,M ys' a->∃ e,e<m/\W (i+1) e ys' a)/\∀ x a,J.yld i H x a->g x σ' a λc f=>tc c f λb d =>
    if b=true then te c d λv h=>ys.length<sizeLine/\M (ys++[v]) h else M ys d)
theorem qr(c:Nat->List V->Hp->Prop)(o:c 0 [] H1)(hl:∀ i ys H,i<=xs.length->c i ys H->SqL K H a xs)
  (t:∀ i x ys H,xs[i]?=some x->c i ys H->g x σ' H λf l=>tc f l λb h=>if b=true then te f h λv n=>ys.length<sizeLine/\c (i+1) (ys++[v]) n else c (i+1) ys h)
  (r:∀ ys H,c xs.length ys H->ys.length<=sizeLine/\∀ p,H p=none->Q (.ref p) (upd H p (.lst ys))):qeR (Itl K a) g tc te σ' H1 Q:=by
 show⟨λi m ys H=>m=xs.length-i/\i<=xs.length/\c i ys H,⟨xs.length,by simp,YM _,o⟩,?_⟩;rintro i m ys H ⟨rfl,s,p⟩;have q:=hl i ys H s p;by_cases d:i<xs.length
 .show .inr ⟨⟨xs,xs[i],q,by simp[d]⟩,c (i+1),λys' j u=>⟨xs.length-(i+1),by lk,rfl,d,u⟩,λx j y=>?_⟩;obtain⟨e,y⟩:=y;subst e;show t i x ys _ (y xs q) p
 .have e:i=xs.length:=by lk
  subst e;show .inl ⟨⟨xs,q,yg _⟩,r ys H p⟩
theorem qbo{lo:Int}(a:Nat->List V->Hp->Prop)(o:a 0 [] H1)
  (r:∀ i ys H,i<n->a i ys H->g (.int (lo+i)) σ' H λd j=>tc d j λb f=>if b=true then te d f λv l=>ys.length<sizeLine/\a (i+1) (ys++[v]) l else a (i+1) ys f)
  (q:∀ ys H,a n ys H->ys.length<=sizeLine/\∀ p,H p=none->Q (.ref p) (upd H p (.lst ys))):qeR (Itr lo n) g tc te σ' H1 Q:=by
 show⟨λi m ys H=>m=n-i/\i<=n/\a i ys H,⟨n,by simp,YM _,o⟩,?_⟩;rintro i m ys H ⟨rfl,t,p⟩;by_cases c:i<n
 .show .inr ⟨c,a (i+1),λys' h s=>⟨n-(i+1),by lk,rfl,c,s⟩,λx h y=>?_⟩;obtain⟨e,y⟩:=y;subst e y;show r i ys _ c p
 .have e:i=n:=by lk
  subst e;show .inl ⟨yg _,q ys H p⟩
theorem comp_str(a:Nat->List V->Hp->Prop)(o:a 0 [] H1)
  (r:∀ i c ys H,x.cps[i]?=some c->a i ys H->g (.str ⟨#[c]⟩) σ' H λf l=>tc f l λb h=>if b=true then te f h λv n=>ys.length<sizeLine/\a (i+1) (ys++[v]) n else a (i+1) ys h)
  (q:∀ ys H,a x.cps.size ys H->ys.length<=sizeLine/\∀ p,H p=none->Q (.ref p) (upd H p (.lst ys))):qeR (Its x) g tc te σ' H1 Q:=by
 show⟨λi m ys H=>m=x.cps.size-i/\i<=x.cps.size/\a i ys H,⟨x.cps.size,by simp,YM _,o⟩,?_⟩;rintro i m ys H ⟨rfl,t,p⟩;by_cases d:i<x.cps.size
 .show .inr ⟨d,a (i+1),λys' j s=>⟨x.cps.size-(i+1),by lk,rfl,d,s⟩,λv j y=>?_⟩;obtain⟨e,c,hc,y⟩:=y;subst e y;show r i c ys _ hc p
 .have e:i=x.cps.size:=by lk
  subst e;show .inl ⟨rfl,q ys H p⟩
end
def qdo:V->Option Value
 | .ty n=>some (.type n)
 | .ref a=>some (.ref a)
 | _=>none
theorem qcz{c:Value}(h:qdo y=some c)(r:RelV y u):u=c:=by
 cases y with
 | ty n=>cases h;show r
 | ref a=>cases h;show r
 | _=>cases h
section
variable{X:Cx}{pins:List (Addr×Obj)}{σ:St}{H:Hp}{s:Shared}
theorem TyOf.kit{x:V}(I:Inv X pins σ H s)(b:RelV x u)(ty:TyOf X.K H x t):∃ P:Heap->Prop,PySem.W.KitX X.K u t P/\P s.heap/\u≠.builtin "__main__.__loader__#opaque":=by
 cases ty with
 | non=>cases (show u=Value.none from b);show⟨_,PySem.W.kitx_none,YL,(λz=>nomatch z)⟩
 | bl y=>cases (show u=Value.bool y from b);show⟨_,PySem.W.kitx_bool,YL,(λz=>nomatch z)⟩
 | int i=>obtain⟨t,q⟩:=(show ∃ t,u=Value.int i t from b);cases q;show⟨_,PySem.W.kitx_int,YL,(λz=>nomatch z)⟩
 | str y=>obtain⟨t,q⟩:=(show ∃ t,u=Value.str y t from b);cases q;show⟨_,PySem.W.kitx_str,YL,(λz=>nomatch z)⟩
 | flt y=>obtain⟨t,q⟩:=(show ∃ t,u=Value.float y t from b);cases q;show⟨_,PySem.W.kitx_float,YL,(λz=>nomatch z)⟩
 | @lst a xs ea =>
  cases (show u=Value.ref a from b);obtain⟨_,_,n,_,h1⟩:=(show ObjOk X.prog X.w H s.heap a (.lst xs) from I.hok a _ ea);show⟨_,PySem.W.kitx_list,⟨_,h1,rfl⟩,(λz=>nomatch z)⟩
 | @frz a ob xs ea =>
  cases (show u=Value.ref a from b);obtain⟨_,_,_,n,_,h1⟩:=(show ObjOk X.prog X.w H s.heap a (.frz ob (.lst xs)) from I.hok a _ ea);show⟨_,PySem.W.kitx_list,⟨_,h1,rfl⟩,(λz=>nomatch z)⟩
 | @tup a xs ea =>
  cases (show u=Value.ref a from b);obtain⟨_,_,_,p⟩:=(show ObjOk X.prog X.w H s.heap a (.tup xs) from I.hok a _ ea);obtain⟨o,h1,c,_⟩:=p;show⟨_,PySem.W.kitx_tuple,⟨o,h1,c⟩,(λz=>nomatch z)⟩
 | @dK a kvs ea =>
  cases (show u=Value.ref a from b);obtain⟨_,_,vs,_,p⟩:=(show ObjOk X.prog X.w H s.heap a (.dK kvs) from I.hok a _ ea);obtain⟨o,d,ep,h1,c,_⟩:=p;show⟨_,PySem.W.kitx_dict,⟨o,h1,c.1⟩,(λz=>nomatch z)⟩
 | @dT a kvs ea =>
  cases (show u=Value.ref a from b);obtain⟨_,_,xs,_,o,d,ep,h1,c,_⟩:=(show ObjOk X.prog X.w H s.heap a (.dT kvs) from I.hok a _ ea);show⟨_,PySem.W.kitx_dict,⟨o,h1,c.1⟩,(λz=>nomatch z)⟩
 | @ins a C dx fs ea cl ha hn htk hm =>
  cases (show u=Value.ref a from b);obtain⟨e,O,_⟩:=qbl I.hok ea;obtain⟨od,J,_⟩:=O.look;show⟨_,PySem.W.kitx_own (cl.get _) cl.hd ha hn htk hm,J,(λz=>nomatch z)⟩
end
section
variable{X:Cx}
theorem qbZ:∀{ys:List V} {a us:List Value},ys.map qdo=a.map some->Vals ys us->us=a
 | [],[],_,_,.nil=>rfl
 | [],_::_,_,h,_=>by cases h
 | y::ys,[],_,h,_=>by cases h
 | y::ys,c::a,_,h,.cons r t=>by
  rw[Yk,Yk] at h
  injection h with h1 h2
  rw[qcz h1 r,qbZ h2 t]
theorem qew:∀{bs:List Bool} {us:List Value},Vals (bs.map V.bl) us->us=bs.map Value.bool
 | [],_,.nil=>rfl
 | b::bs,_,.cons r t=>by
  have e:=qew t;rw[e];cases r;rfl
def qhP(K:yf):List V->Hp->VK->Prop:=λxs H Q=>∃(p:Addr) (bs:List Bool),xs=[.ref p]/\SqL K H p (bs.map V.bl)/\Q (.bl (bs.all id)) H
theorem call_all(hc:X.calm=true):qag X (.builtin "all") (qhP X.K):=by
 intro pins s σ H xs us Q I r h;obtain⟨p,bs,rfl,n,q⟩:=h;obtain⟨u,rfl,w⟩:=qcM r;cases w;obtain⟨its,x,pl,y⟩:=I.list n;have e:=qew x;subst e;have j:X.A.in1.handled=none:=I.ok.hd hc;show call_all_walk (X3 pl.isList ?_)
 have f:p≠s.heap.objs.size:=by
  obtain⟨o,m,_⟩:=pl.isList;show Yj (yR m)
 show⟨s.heap.objs.size,_,_,_,_,_,λi=>(bs[i]?).getD false,rfl,Walks.list j s.heap.objs.size p f (bs.map Value.bool).toArray,⟨⟨_,yY _ rfl,rfl,rfl⟩,pl.isList.at λo e=>yz _ e⟩,λi v s Q E hv t=>?_,λh' tk l=>?_⟩
 .have a:(bs.map Value.bool)[i]?=some v:=by simpa using hv
  rw[yd] at a
  cases e:bs[i]? with
  | none=>rw[e] at a;cases a
  | some b =>
   rw[e] at a;cases a;have c:Q ((bs[i]?).getD false) s:=t;rw[e] at c;show yE c
 .have e:((List.range (bs.map Value.bool).toArray.size).all λi=>(bs[i]?).getD false)=bs.all id:=by
   rw[yB,ya]
   have key:∀ bs:List Bool,((List.range bs.length).all λi=>(bs[i]?).getD false)=bs.all id:=by
    intro bs
    induction bs with
    | nil=>rfl
    | cons b r ih =>
     rw[Yd,List.range_succ_eq_map,Xa,kD,Xa,<- ih];rfl
   show key bs
  rw[e];show⟨.bl _,H,?_,rfl,q⟩;have g:Inv X pins σ H { s with heap:=s.heap.push { cls:=.type "list_iterator",data:=.fields #[.ref p,.int 0 0] } }:=I.kept (t':=s.toks) λb o e=>yz _ e;have d:=I.fpOk (b:=s.heap.objs.size) (yg _) (I.hok.fresh (yg _));show g.turned (it:=s.heap.objs.size) (h':=h') (t':=tk) (λb o hb e=>l b o (by simpa using hb) e) d.1 d.2.1 d.2.2.2.1 d.2.2.2.2.1 d.2.2.2.2.2
theorem op_le_str:OpR X (compareOp .LtE) (λx y H Q=>∃ i j,x=.str i/\y=.str j/\Q (.bl (!decide (j.cps.toList<i.cps.toList))) H):=by
 intro pins s σ H x y v u Q I a b h;obtain⟨i,j,rfl,rfl,q⟩:=h;obtain⟨t,rfl⟩:=a;obtain⟨t',rfl⟩:=b;show PySem.P.le_str (qem I q (by rfl))
def qhz:R2:=λx y H Q=>match x,y with
 | .int i,.int j=>Q (.bl (decide (i<=j))) H
 | .str i,.str j=>Q (.bl (!decide (j.cps.toList<i.cps.toList))) H
 | _,_=>False
theorem qgV:OpR X (compareOp .LtE) qhz:=by
 intro pins s σ H x y v u Q I a b h
 cases x with
 | int i=>cases y with
  | int j=>show op_le pins s σ H _ _ v u Q I a b ⟨i,j,rfl,rfl,h⟩
  | _=>show False.elim h
 | str i=>cases y with
  | str j=>show op_le_str pins s σ H _ _ v u Q I a b ⟨i,j,rfl,rfl,h⟩
  | _=>show False.elim h
 | _=>show False.elim h
theorem op_is_bl:OpR X (compareOp .Is) (λx y H Q=>∃ i j,x=.bl i/\y=.bl j/\Q (.bl (i==j)) H):=by
 intro pins s σ H x y v u Q I a b h;obtain⟨i,j,rfl,rfl,q⟩:=h;cases a;cases b;show wpAny_is_plain (by cases i<;>cases j<;>rfl) (qem I q (by cases i<;>cases j<;>rfl))
def qhA:R2:=λx y H Q=>match x,y with
 | .bl i,.bl j=>Q (.bl (i==j)) H
 | x,.non=>Q (.bl (decide (x=.non))) H
 | _,_=>False
theorem u_is:OpR X (compareOp .Is) qhA:=by
 intro pins s σ H x y v u Q I a b h
 cases y with
 | non=>show op_isN pins s σ H x _ v u Q I a b ⟨rfl,by cases x<;>show h⟩
 | bl j=>cases x with
  | bl i=>show op_is_bl pins s σ H _ _ v u Q I a b ⟨i,j,rfl,rfl,h⟩
  | _=>show False.elim h
 | _=>cases x<;>show False.elim h
theorem op_rep_str:OpR X (binaryOp .Mult) (λx y H Q=>∃ z k,x=.str z/\y=.int k/\MulOk z k/\Q (.str (Txt.mul z k)) H):=by
 intro pins s σ H x y v u Q I b c h;obtain⟨z,k,rfl,rfl,a,q⟩:=h;obtain⟨t,rfl⟩:=b;obtain⟨t',rfl⟩:=c;show SB.mul a λt' k'=>⟨.str _,H,I.tok _,⟨_,rfl⟩,q⟩
def qg9:R2:=λx y H Q=>match x,y with
 | .int i,.int j=>CMul i j/\Q (.int (i*j)) H
 | .str z,.int k=>MulOk z k/\Q (.str (Txt.mul z k)) H
 | .ref a,.int k=>rRep (.ref a) (.int k) H Q
 | _,_=>False
theorem qdp:OpR X (binaryOp .Mult) qg9:=by
 intro pins s σ H x y v u Q I b c h
 cases y with
 | int j=>cases x with
  | int i=>show op_mul pins s σ H _ _ v u Q I b c ⟨i,j,rfl,rfl,h.1,h.2⟩
  | str i=>show op_rep_str pins s σ H _ _ v u Q I b c ⟨i,j,rfl,rfl,h.1,h.2⟩
  | ref a=>show qgh pins s σ H _ _ v u Q I b c h
  | _=>show False.elim h
 | _=>cases x<;>show False.elim h
def qfd(K:yf):R2:=λx y H Q=>match x,y with
 | .int i,.int j=>Q (.int (i+j)) H
 | .str i,.str j=>i.length+j.length<=sizeLine/\Q (.str (i++j)) H
 | .ref a,.ref b=>rCat (.ref a) (.ref b) H Q\/rCatT K (.ref a) (.ref b) H Q
 | _,_=>False
theorem u_add:OpR X (binaryOp .Add) (qfd X.K):=by
 intro pins s σ H x y v u Q I c d h
 cases x with
 | int i=>cases y with
  | int j=>show op_add pins s σ H _ _ v u Q I c d ⟨i,j,rfl,rfl,h⟩
  | _=>show False.elim h
 | str i=>cases y with
  | str j=>show op_add_str pins s σ H _ _ v u Q I c d ⟨i,j,rfl,rfl,h.1,h.2⟩
  | _=>show False.elim h
 | ref a=>cases y with
  | ref b=>show h.elim (λh=>op_cat pins s σ H _ _ v u Q I c d h) λh=>op_catT pins s σ H _ _ v u Q I c d h
  | _=>show False.elim h
 | _=>show False.elim h
def qdX(K:yf):List V->Hp->VK->Prop:=λxs H Q=>match xs with
 | [.str z]=>z.length<=sizeLine/\Q (.int z.length) H
 | [.ref p]=>(∃ ys,(SqL K H p ys\/SqT K H p ys)/\Q (.int ys.length) H)\/∃ kvs,H p=some (.dK kvs)/\Q (.int kvs.length) H
 | _=>False
theorem call_lenU:qag X (.builtin "len") (qdX X.K):=by
 intro pins s σ H xs us Q I r h
 match xs,h with
 | [.str z],h=>show call_len_str pins s σ H _ us Q I r ⟨z,rfl,h.1,h.2⟩
 | [.ref p],.inl ⟨ys,h,q⟩=>show call_len_seq pins s σ H _ us Q I r ⟨p,ys,rfl,h,q⟩
 | [.ref p],.inr ⟨kvs,h,q⟩=>show call_lenD pins s σ H _ us Q I r ⟨p,kvs,rfl,h,q⟩
theorem sl_str:SlR X (λx lo c H Q=>∃ z,x=.str z/\z.length<=sizeLine/\Q (.str (Txt.slice z lo c)) H):=by
 intro pins s σ H x v g m lo c f Q I e a pl d h;obtain⟨z,rfl,b,q⟩:=h;obtain⟨t,rfl⟩:=e;show⟨"str",_,F.slot_str_getitem.lookup,typeIs_str _ _ _,?_⟩
 cases pl with
 | none =>
  cases d with
  | none=>show xO (l:=none) (u:=none) (st:=none) a rfl (XR ⟨yh (kq z _ _) b,λt' k=>⟨.str _,H,I.tok _,⟨_,rfl⟩,q⟩⟩)
  | int j uj=>show xO (l:=none) (u:=some (j,uj)) (st:=none) a rfl (XR ⟨yh (kq z _ _) b,λt' k=>⟨.str _,H,I.tok _,⟨_,rfl⟩,q⟩⟩)
 | int i ui =>
  cases d with
  | none=>show xO (l:=some (i,ui)) (u:=none) (st:=none) a rfl (XR ⟨yh (kq z _ _) b,λt' k=>⟨.str _,H,I.tok _,⟨_,rfl⟩,q⟩⟩)
  | int j uj=>show xO (l:=some (i,ui)) (u:=some (j,uj)) (st:=none) a rfl (XR ⟨yh (kq z _ _) b,λt' k=>⟨.str _,H,I.tok _,⟨_,rfl⟩,q⟩⟩)
def qhB(K:yf):V->Option Int->Option Int->Hp->VK->Prop:=λx lo b H Q=>match x with
 | .str z=>z.length<=sizeLine/\Q (.str (Txt.slice z lo b)) H
 | .ref a=>rSlL K (.ref a) lo b H Q\/rSlT K (.ref a) lo b H Q
 | _=>False
theorem u_sl:SlR X (qhB X.K):=by
 intro pins s σ H x v g i lo b f Q I e c pl d h
 cases x with
 | str z=>show sl_str pins s σ H _ v g i lo b f Q I e c pl d ⟨z,rfl,h.1,h.2⟩
 | ref a=>show h.elim (λh=>sl_list pins s σ H _ v g i lo b f Q I e c pl d h) λh=>sl_tup pins s σ H _ v g i lo b f Q I e c pl d h
 | _=>show False.elim h
def qhq(K:yf)(te:TE):TI:=fun σ H R=>te σ H λv b=>match v with
 | .str x=>R (Its x) b
 | .ref a=>((∃ xs,SqL K b a xs)/\R (Itl K a) b)\/((∃ xs,SqT K b a xs)/\R (Itt K a) b)
 | _=>False
theorem pi_any{e:Expr}(u:PE X e te)(g:∀ it v,letOwnedTupleGo tg it v=pure ():=by intro _ _;rfl):PI X tg e (qhq X.K te):=by
 intro pins s σ H R I h;show thn (u pins s σ H _ I h) λv c ⟨y,f,d,r,j⟩=>?_
 cases y with
 | str x =>
  obtain⟨t,rfl⟩:=r
  have fp:∀ b∈[c.heap.objs.size],qdN X pins f b:=λb hb=>by
   have e:b=c.heap.objs.size:=by simpa using hb
   subst e;show d.fpOk (yg _) (d.hok.fresh (yg _))
  cases n:x.cps.all (· < 128)
  .show wpAny_pyIter_wide n ⟨c.heap.objs.size,[c.heap.objs.size],_,_,f,rfl,d.kept (t':=c.toks) λb o e=>yz _ e,
    qev (T:="str_iterator") (λA l=>Walks.strWide l _ x t) (λA i s Q E st h=>wpAny_pyIter_striter_wide st h) (g _),⟨_,yY _ rfl,rfl,rfl⟩,fp,j⟩
  .show wpAny_pyIter_ascii n ⟨c.heap.objs.size,[c.heap.objs.size],_,_,f,rfl,d.kept (t':=c.toks) λb o e=>yz _ e,
    qev (T:="str_ascii_iterator") (λA l=>Walks.strAscii l _ x t) (λA i s Q E st h=>wpAny_pyIter_striter_ascii st h) (g _),⟨_,yY _ rfl,rfl,rfl⟩,fp,j⟩
 | ref a =>
  cases r
  have fp:∀ b∈[c.heap.objs.size],qdN X pins f b:=λb hb=>by
   have e:b=c.heap.objs.size:=by simpa using hb
   subst e;show d.fpOk (yg _) (d.hok.fresh (yg _))
  rcases j with⟨⟨xs,m⟩,q⟩ | ⟨⟨xs,m⟩,q⟩
  .obtain⟨its,z,p,w⟩:=d.list m;show X3 p.isList ⟨c.heap.objs.size,[c.heap.objs.size],_,_,f,rfl,d.kept (t':=c.toks) λb o e=>yz _ e,qc8 a _,⟨_,yY _ rfl,rfl,rfl⟩,fp,q⟩
  .obtain⟨its,z,p,w⟩:=d.tuple m;show wpAny_pyIter_tuple (show c.heap.IsTuple a its.toArray from p) ⟨c.heap.objs.size,[c.heap.objs.size],_,_,f,rfl,d.kept (t':=c.toks) λb o e=>yz _ e,turn_tuple a _,⟨_,yY _ rfl,rfl,rfl⟩,fp,q⟩
 | _=>show False.elim j
end
section
variable{D:Ends}{σ:St}{H:Hp}{Q:VK}{QT:Bool->Hp->Prop}{QA:List V->Hp->Prop}{t u:TS}{te ta tb tc:TE}{c c':TT}{tr tas:TA}{r r':R2}{K:yf}
theorem vSeq(h:t { D with nx:=u D } σ H):qf0 t u D σ H:=h
theorem vAsg{i:Nat}(h:te σ H λx a=>D.nx (σ.set i (some x)) a):qgT te (qco i) D σ H:=h
theorem vAsgS{to a:TE}{s:qg1}(h:te σ H λx b=>to σ b λo c=>a σ c λi d=>s o i x d λe=>D.nx σ e):qgT te (qhJ to a s) D σ H:=h
theorem vIfS(h:c σ H λb a=>if b=true then t D σ a else u D σ a):qhH c t u D σ H:=h
theorem vRet(h:te σ H D.rt):qht te D σ H:=h
theorem vRetN(h:D.rt .non H):tRetN D σ H:=h
theorem vDrop(h:te σ H λ_ a=>D.nx σ a):qg0 te D σ H:=h
theorem vNext(h:D.nx σ H):qgZ D σ H:=h
theorem vC(h:Q v H):tC v σ H Q:=h
theorem vVar{i:Nat}(e:σ[i]?=some (some v))(h:Q v H):qgd i σ H Q:=⟨v,e,h⟩
theorem vOp(h:ta σ H λx a=>tb σ a λy b=>r x y b Q):tOp r ta tb σ H Q:=h
theorem vUn{f:V->Hp->VK->Prop}(h:ta σ H λx a=>f x a Q):tUn f ta σ H Q:=h
theorem vChain(h:ta σ H λx b=>tb σ b λy c=>r x y c λz a=>∃ k,z=.bl k/\if k=true then tc σ a λe d=>r' y e d Q else Q (.bl false) a):qe3 r r' ta tb tc σ H Q:=h
theorem vNil(h:QA [] H):qgI σ H QA:=h
theorem vCons(h:ta σ H λx a=>tr σ a λxs b=>QA (x::xs) b):qak ta tr σ H QA:=h
theorem vCB{f:List V->Hp->VK->Prop}(h:tas σ H λvs a=>f vs a Q):tCB f tas σ H Q:=h
theorem vCall{sp:Sp}{E:XK}(h:tas σ H λvs a=>sp (vs++[]) a Q E):qf5 sp [] E tas σ H Q:=h
theorem vLst(h:tas σ H λxs a=>NewL xs a Q):qhN tas σ H Q:=h
theorem vTup(h:tas σ H λxs a=>NewT xs a Q):qhM tas σ H Q:=h
theorem vTest(h:te σ H λx a=>∃ k,x=.bl k/\QT k a):qf3 te σ H QT:=h
theorem vB(h:te σ H λx a=>∃ k,x=.bl k/\QT k a):tB te σ H QT:=h
theorem vNot(h:c σ H λb a=>QT (!b) a):qhF c σ H QT:=h
theorem vAnd(h:c σ H λb a=>if b=true then c' σ a QT else QT false a):qhE c c' σ H QT:=h
theorem vOr(h:c σ H λb a=>if b=true then QT true a else c' σ a QT):tOr c c' σ H QT:=h
theorem vAndV(h:ta σ H λx a=>∃ k,x=.bl k/\if k=true then tb σ a Q else Q (.bl false) a):qgX ta tb σ H Q:=h
theorem vOrV(h:ta σ H λx a=>∃ k,x=.bl k/\if k=true then Q (.bl true) a else tb σ a Q):qhG ta tb σ H Q:=h
theorem vNotV(h:ta σ H λx a=>∃ k,x=.bl k/\Q (.bl (!k)) a):qgY ta σ H Q:=h
theorem vIf(h:c σ H λb a=>if b=true then ta σ a Q else tb σ a Q):tIf c ta tb σ H Q:=h
theorem vYes(h:QT true H):qhO σ H QT:=h
theorem vI0{g:Int->Int->V}(h:Q (g i j) H):rI0 g (.int i) (.int j) H Q:=⟨i,j,rfl,rfl,h⟩
theorem vI{C:Int->Int->Prop}{g:Int->Int->V}(hc:C i j)(h:Q (g i j) H):rI C g (.int i) (.int j) H Q:=⟨i,j,rfl,rfl,hc,h⟩
theorem vU{g:Int->V}(h:Q (g i) H):rU g (.int i) H Q:=⟨i,rfl,h⟩
theorem vEqI(h:Q (.bl (decide (i=j))) H):rEq (.int i) (.int j) H Q:=⟨rfl,by
 have e:decide (V.int i=V.int j)=decide (i=j):=by
  by_cases h:i=j
  .subst h;simp
  .rw [yk h,yk (λe=>h (V.int.inj e))]
 rw[e];show h⟩
theorem vEqB{i j:Bool}(h:Q (.bl (i==j)) H):rEq (.bl i) (.bl j) H Q:=⟨rfl,by rw[dec_bl];show h⟩
theorem qbD(b:H p=some (.lst xs))(a:atI xs i=some v)(h:Q v H):rIx K (.ref p) (.int i) H Q:=.inl ⟨p,xs,i,v,rfl,rfl,SqL.of b,a,h⟩
theorem vIxLs(b:SqL K H p xs)(a:atI xs i=some v)(h:Q v H):rIx K (.ref p) (.int i) H Q:=.inl ⟨p,xs,i,v,rfl,rfl,b,a,h⟩
theorem qcp(b:H p=some (.tup xs))(a:atI xs i=some v)(h:Q v H):rIx K (.ref p) (.int i) H Q:=.inr (.inl ⟨p,xs,i,v,rfl,rfl,SqT.of b,a,h⟩)
theorem qhQ{ch:Nat}(b:z.length<=sizeLine)(a:atI z.cps.toList i=some ch)(h:Q (.str ⟨#[ch]⟩) H):rIx K (.str z) (.int i) H Q:=.inr (.inr ⟨z,i,ch,rfl,rfl,b,a,h⟩)
theorem qgK{k:Int}{j:Nat}{a:Hp->Prop}(c:H p=some (.lst xs))(b:ixN xs.length k=some j)(h:a (upd H p (.lst (xs.set j v)))):rSetL (.ref p) (.int k) v H a:=⟨p,xs,k,j,rfl,rfl,c,b,h⟩
theorem vEx{k:Bool}{P:Bool->Prop}(h:P k):∃ k',V.bl k=.bl k'/\P k':=⟨k,rfl,h⟩
theorem vLeI(h:Q (.bl (decide (i<=j))) H):qhz (.int i) (.int j) H Q:=h
theorem vLeS{i j:Str}(h:Q (.bl (!decide (j.cps.toList<i.cps.toList))) H):qhz (.str i) (.str j) H Q:=h
theorem vIsB{i j:Bool}(h:Q (.bl (i==j)) H):qhA (.bl i) (.bl j) H Q:=h
theorem vAddI(h:Q (.int (i+j)) H):qfd K (.int i) (.int j) H Q:=h
theorem qha{i j:Str}(a:i.length+j.length<=sizeLine)(h:Q (.str (i++j)) H):qfd K (.str i) (.str j) H Q:=⟨a,h⟩
theorem qdY(hc:CMul i j)(h:Q (.int (i*j)) H):qg9 (.int i) (.int j) H Q:=⟨hc,h⟩
theorem vLenS(a:z.length<=sizeLine)(h:Q (.int z.length) H):qdX K [.str z] H Q:=⟨a,h⟩
theorem zT(a:H p=some (.lst ys))(h:Q (.int ys.length) H):qdX K [.ref p] H Q:=.inl ⟨ys,.inl (SqL.of a),h⟩
theorem vLenLs(a:SqL K H p ys)(h:Q (.int ys.length) H):qdX K [.ref p] H Q:=.inl ⟨ys,.inl a,h⟩
theorem qhb(a:H p=some (.tup ys))(h:Q (.int ys.length) H):qdX K [.ref p] H Q:=.inl ⟨ys,.inr (SqT.of a),h⟩
theorem qhR{lo a:Option Int}(b:z.length<=sizeLine)(h:Q (.str (Txt.slice z lo a)) H):qhB K (.str z) lo a H Q:=⟨b,h⟩
theorem vSl{f:V->Option Int->Option Int->Hp->VK->Prop}{tl a:TO}(h:te σ H λx b=>tl σ b λl c=>a σ c λu d=>f x l u d Q):tSl f te tl a σ H Q:=h
theorem vNoPart(h:QO none H):qe6 σ H QO:=h
theorem vPart(h:te σ H λx a=>∃ i,x=.int i/\QO (some i) a):qg5 te σ H QO:=h
theorem vExI{P:Int->Prop}(h:P i):∃ j,V.int i=.int j/\P j:=⟨i,rfl,h⟩
theorem vBM(h:te σ H λx a=>tyV K T x a/\tas σ a λxs b=>f x xs b Q):tBM K T f te tas σ H Q:=h
theorem vBM0(h:te σ H λx a=>tyV K T x a/\f x [] a Q):qhw K T f te σ H Q:=h
theorem vComp(h:wi σ H λJ a=>qeR J g c te (qeW nl ixs σ) a Q):qf8 wi g c te nl ixs σ H Q:=h
theorem vFor (h:wi σ H λJ e=>∃ W:Nat->Nat->St->Hp->Prop,(∃ m,W 0 m σ e)/\∀ i m σ H,W i m σ H ->
 (J.stop i H/\D.nx σ H)\/(J.go i H/\∃ N:St->Hp->Prop,(∀ b a,N b a->∃ d,d<m/\W (i+1) d b a)/\∀ x a,J.yld i H x a->g x σ a λc f=>t { D with nx:=N,ct:=N,bk:=D.nx } c f)):qhK wi g t D σ H:=h
theorem vRng1(h:tas σ H λvs a=>∃ j:Int,vs=[.int j]/\-(2 ^ 62)<=j/\j<2 ^ 62/\R (Itr 0 j.toNat) a):qg2 tas σ H R:=h
theorem vAny (h:te σ H λv b=>match v with
 | .str x=>R (Its x) b
 | .ref a=>((∃ xs,SqL K b a xs)/\R (Itl K a) b)\/((∃ xs,SqT K b a xs)/\R (Itt K a) b)
 | _=>False):qhq K te σ H R:=h
theorem vGN{i:Nat}{a:St->Hp->Prop}(h:a (σ.set i (some v)) H):qco i v σ H a:=h
end
section
variable{X:Cx}{K:yf}{o e:Expr}{es:List Expr}{to ta:TE}{t:TA}{name f:Str}{apos cpos pos:Pos}{T id:String}{r:V->List V->Hp->VK->Prop}{tg:Expr}
theorem j8(a:X.K=K):qag X (.builtin "len") (qdX K):=by subst a;show call_lenU
theorem qhc(a:X.K=K)(hc:X.calm=true):qag X (.builtin "all") (qhP K):=by subst a;show call_all hc
theorem qgL(a:X.K=K):SlR X (qhB K):=by subst a;show u_sl
theorem j9(a:X.K=K):OpR X (binaryOp .Add) (qfd K):=by subst a;show u_add
theorem qF(b:X.K=K)(c:PE X e ta)(a:∀ it v,letOwnedTupleGo tg it v=pure ():=by intro _ _;rfl):PI X tg e (qhq K ta):=by subst b;show pi_any c a
theorem qhd(e:X.K=K)(h:PlainAttrs T)(c:Slot T name id)(d:typeOf (.builtin id)=pure (.type "method_descriptor"))(f:MtR X id r)(g:PE X o to)
  (a:attributeBase o name X.env (eval o X.env)=eval o X.env:=by rfl) (b:(apos.endLine==cpos.line)=true:=by rfl):PE X (.Call (.Attribute o name apos) [] [] cpos) (qhw K T r to):=by
 subst e;show pe_bm0 h c d f g a b
theorem qcO(h:X.K=K)(n:PlainAttrs T)(f:Slot T name id)(g:typeOf (.builtin id)=pure (.type "method_descriptor"))(j:MtR X id r)(l:PE X o to)(i:PA X (e::es) t)
  (b:attributeBase o name X.env (eval o X.env)=eval o X.env:=by rfl)
  (d:((backTo cpos (starEach (e::es) X.env)).all (λx=>!x.1)&&(backToKw cpos (keywordEach [] X.env)).all (λx=>x.1.isSome)
   && decide ((e::es).length+([]:List Keyword).length+(if ([]:List Keyword).isEmpty then 0 else 1)<30))=true:=by rfl)
  (c:(apos.endLine==cpos.line)=true:=by rfl) (m:starEach (e::es) X.env=(false,eval e X.env)::starEach es X.env:=by rfl) (a:(backTo cpos (starEach es X.env)).any (·.1)=false:=by rfl) :
  PE X (.Call (.Attribute o name apos) (e::es) [] cpos) (tBM K T r to t):=by
 subst h;show pe_bm n f g j l i b d c m a
end
structure DefOk(P:Program)(w:World)(K:yf)(mg:Str->Option Value)(base:Heap)(CX:CXT)(k:Nat)(x:Str)(ps:LS)(sp:Sp):Prop where
 ex:∃ f fd,FnOk P w K mg base CX k f fd ps sp/\mg x=some (.ref f)/\PySem.W.keepIn K (.ref f)=true/\Binds K fd ps []
section
variable{X:Cx}{CX:CXT}{k:Nat}{ps:LS}{sp:Sp}{E:XK}{x:Str}{p pos:Pos}{e:Expr}{es:List Expr}{t:TA}
theorem qk(D:DefOk X.prog X.w X.K X.mg X.base CX k x ps sp)(j:Room k X.A)(l:qbz CX X E)(c:PA X (e::es) t)(g:Gl X x:=by rfl)(a:(x==("__debug__":Str))=false:=by decide)
  (d:starEach (e::es) X.env=(false,eval e X.env)::starEach es X.env:=by rfl) (b:(backTo pos (starEach es X.env)).any (·.1)=false:=by rfl):PE X (.Call (.Name x p) (e::es) [] pos) (qf5 sp [] E t):=by
 obtain⟨f,m,F,i,h,hb⟩:=D.ex;show pe_call F j g i h hb .nil l c a d b
theorem qa0(c:Gl X x)(a:∃ tk,X.mg x=some (.int i tk))(b:(x==("__debug__":Str))=false:=by decide):PE X (.Name x pos) (tC (.int i)):=by
 obtain⟨tk,a⟩:=a;show pe_glob c a ⟨tk,rfl⟩ b
end
def isaT(t c:String):Bool:=t==c||(t=="bool"&&c=="int")
theorem qam(K:yf):∀ t∈["NoneType","bool","int","str","list","tuple","dict"],∀ c∈["bool","int","str","list","tuple","dict"],PySem.W.kitOne K (.type t) (.type c)=some (isaT t c):=by
 intro t a c hc;simp only[yN,Yq,xX] at a hc;rcases a with rfl | rfl | rfl | rfl | rfl | rfl | rfl<;>rcases hc with rfl | rfl | rfl | rfl | rfl | rfl<;>rfl
def qgk:List Value->Bool
 | [.type a,.type b,.type c,.type d]=>a=="ValueError"&&b=="Exception"&&c=="BaseException"&&d=="object"
 | .ref _::r=>qgk r
 | _=>false
def xcIn(K:yf)(C:Addr):Bool:=match K.lookup C with
 | some ⟨.type "type",_,.cls cd,sl⟩=>(match cd.mro,sl.toList with
  | .ref D::bm,[_,_,_,_,some (.builtin n),_]=>D==C&&!cd.hasDel&&qgk bm&&n=="ValueError.__new__"
  | _,_=>false)
 | _=>false
structure XAt(K:yf)(C:Addr):Prop where
 ga:PySem.W.findIn K (.ref C) "__getattribute__"=some (some (.builtin "BaseException.__getattribute__"))
 gn:PySem.W.findIn K (.ref C) "__getattr__"=some none
 bx:PySem.W.mroIn K C (.type "BaseException")=some true
 ob:PySem.W.mroIn K C (.type "object")=some true
 hd:PySem.W.hasDictIn K C=true
 cl:PySem.W.findIn K (.ref C) "__class__"=some (some (.builtin "object.__class__"))
 cg:PySem.W.specialIn K (.builtin "object.__class__") "__get__"=some (some (.builtin "getset_descriptor.__get__"))
 ct:PySem.W.takesIn K (.builtin "object.__class__")=some true
 sa:PySem.W.findIn K (.ref C) "__setattr__"=some (some (.builtin "object.__setattr__"))
 mr:(PySem.W.clsIn K C).any (λcd=>qgk cd.mro)=true
 xc:xcIn K C=true
theorem bexc_ga_slot:Slot "ValueError" "__getattribute__" "BaseException.__getattribute__":=PySem.F.attr_ValueError.ga
section
variable{prog:Program}{w:World}{A:Around}{E:Value->Shared->Prop}{s:Shared}{K:yf}{x C:Addr}{ox:Obj}{od:Option Obj}{name:Str}{v:Value}
theorem xga_value{Q:Fin->Shared->Prop}(X:K.In s.heap)(I:PySem.W.InstAt s.heap x ox C od)(a:PySem.W.findObj K C od name=some (.value v))(h:Q (.done (.ret v)) s) :
  wpAny (model prog w) A (Builtin.«object.__getattribute__» ⟨[.ref x,.str name tk],[]⟩) Q E s:=by
 have F:=PySem.W.looks_find (M:=model prog w) X I a;show yr (yE (yr (yE (yr (I.type.here (yr (F.here ?_)))))));show yE h
theorem xga_call{R:Result->Shared->Prop}(X:K.In s.heap)(I:PySem.W.InstAt s.heap x ox C od)(hb:PySem.W.mroIn K C (.type "BaseException")=some true)
  (h:wpAny (model prog w) A.in1 (Builtin.«object.__getattribute__» ⟨[.ref x,.str name tk],[]⟩) (λb a=>match b with | .done f=>R (.ok f) a | .again c'=>c'.quiet=true/\codeAny (model prog w) A c' R a) (λe a=>R (.error e) a) s) :
  codeAny (model prog w) A (.call (.builtin "BaseException.__getattribute__") ⟨[.ref x,.str name tk],[]⟩) R s:=by
 show xy bexc_ga_slot.plain PySem.F.entry_bexc_ga ?_;show @PySem.W.check_slot (model prog w) _ _ s "BaseException.__getattribute__" "BaseException" "__getattribute__" (.ref x) [.str name tk] [] _ (by room) (by room) (I.type.andThen (xE X hb)) (PySem.F.args_bexc_ga _ _) h
theorem qfe{b:Bool}{Q:Value->Shared->Prop}(X:K.In s.heap)(I:PySem.W.InstAt s.heap x ox C od)(c:XAt K C)
  (h:wpAny (model prog w) A.in1 (Builtin.«object.__getattribute__» ⟨[.ref x,.str name tk],[]⟩) (λa d=>match a with | .done (.ret v)=>wpAny (model prog w) A (handedOut v) Q E d | _=>False) (λ_ _=>False) s) :
  wpAny (model prog w) A (getAttrBy (.ref x) (.str name tk) b expr) Q E s:=by
 unfold getAttrBy;show YN (yr (I.type.here (yr ((YU X c.ga).here ?_))))
 have e:(onTheHeap (Value.ref C)&&Value.builtin "BaseException.__getattribute__"==Value.builtin "object.__getattribute__")=false:=by
  rw[show(Value.builtin "BaseException.__getattribute__"==Value.builtin "object.__getattribute__")=false by room];rfl
 dsimp only;rw[e,yC (by decide)];unfold getAttrByItsOwn hookBefore;rw[yG (show onTheHeap (Value.ref C)=true from rfl)];show yr ((YU X c.gn).here (yr (wpAny_attempt (YN ?_))));have f:(expr&&onTheHeap (Value.builtin "BaseException.__getattribute__"))=false:=by cases expr<;>rfl
 unfold callGetattribute;rw[f,yC (by decide)];unfold boundAndCalled;rw[bexc_ga_slot.bind];show yr (yE ?_);show wpAny _ _ (call (.builtin "BaseException.__getattribute__") [.ref x,.str name tk]) _ _ _;show XB (xga_call X I c.bx (Y8 h (λa d z=>?_) λ_ _ z=>z.elim));rcases a with(_ | _ | _ | _) | _<;>first | show z | show z.elim
theorem xget{Q:Value->Shared->Prop}(X:K.In s.heap)(I:PySem.W.InstAt s.heap x ox C od)(c:XAt K C)(a:PySem.W.findObj K C od name=some (.value v))(b:PySem.W.handedIn v=true)
  (h:Q v { s with toks:=s.toks+1 }):wpAny (model prog w) A (getAttr (.ref x) name expr) Q E s:=by
 unfold getAttr;show yr (wpAny_mkText (qfe (s:={ s with toks:=s.toks+1 }) X I c (xga_value (s:={ s with toks:=s.toks+1 }) X I a ?_)));show wpAny _ _ (handedOut v) _ _ _;rw[PySem.W.handedOut_of b];show yE h
theorem xclass{Q:Option Value->Shared->Prop}(X:K.In s.heap)(I:PySem.W.InstAt s.heap x ox C od)(c:XAt K C)(a:PySem.W.findObj K C od "__class__"=some (.bind (.builtin "getset_descriptor.__get__") (.builtin "object.__class__")))
  (h:Q (some (.ref C)) { s with toks:=s.toks+1 }):wpAny (model prog w) A (getAttr? (.ref x) "__class__") Q E s:=by
 unfold getAttr? getAttrBy?;show yr (wpAny_mkText (yr (wpAny_attempt (qfe (s:={ s with toks:=s.toks+1 }) X I c ?_))));have F:=PySem.W.looks_find (M:=model prog w) X I a;show yr (yE (yr (yE (yr (I.type.here (s:={ s with toks:=s.toks+1 }) (yr (F.here (s:={ s with toks:=s.toks+1 }) ?_)))))));show wpAny _ _ (holding [Value.builtin "object.__class__"] (call (.builtin "getset_descriptor.__get__") [.builtin "object.__class__",.ref x,.ref C])>>=ret) _ _ _;show yr (YN (XB (PySem.W.class_get (s:={ s with toks:=s.toks+1 }) X I c.ob ?_)));show yE ?_;show wpAny _ _ (handedOut (.ref C)) _ _ _;show yE (yE h)
theorem findObj_class(c:XAt K C):PySem.W.findObj K C od "__class__"=some (.bind (.builtin "getset_descriptor.__get__") (.builtin "object.__class__")):=by
 obtain⟨a,hc,_⟩:=xK c.hd;unfold PySem.W.findObj;rw[hc,Option.bind_some,c.cl,Option.bind_some];simp[c.cg,c.ct]
theorem qex(c:XAt K C):PySem.W.KitX K (.ref x) (.ref C) (λh=>PySem.W.InstAt h x ox C od) where
 ty:=λ_ _ _ I=>I.type
 it:=λ_ _ X _=>by
  obtain⟨b,hc,_⟩:=xK c.hd;unfold PySem.W.clsIn at hc;split at hc
  .rename_i c1 d1 cd1 sl1 ho
   intro f i g l k q;unfold isType loadHead;show yr (wpAny_loadPart (k _ _ (X _ _ ho)) (yE q))
  .cases hc
 ne:=λh d j its n m X a=>by
  obtain⟨b,hc,_⟩:=xK c.hd;show Bool.eq_false_iff.mpr λq=>?_;have e:C=d:=Value.ref.inj (Yo.mp q);subst e;unfold PySem.W.clsIn at hc;split at hc
  .rename_i c1 d1 cd1 sl1 ho
   have z:=(X _ _ ho).symm.trans a;cases z
  .cases hc
 ca:=λX I k=>xclass X I c (findObj_class c) k
end
theorem qdq{r:List Value}(e:qgk (.ref c::r)=true):qgk r=true:=by
 cases r with
 | nil=>cases e
 | cons a r=>show e
theorem qdr:∀{l:List Value},qgk l=true->∃ f:LI,l=f.map Value.ref++[.type "ValueError",.type "Exception",.type "BaseException",.type "object"]
 | [],e=>by cases e
 | .ref c::r,e=>by
  obtain⟨f,q⟩:=qdr (qdq e);show⟨c::f,by rw[q];rfl⟩
 | .type a::r,e=>by
  match r,e with
  | [.type b,.type c,.type d],e =>
   simp only[qgk,y1,Yo] at e;obtain⟨⟨⟨rfl,rfl⟩,rfl⟩,rfl⟩:=e;show⟨[],rfl⟩
theorem refuse_exc(self:Value){l:List Value}(e:qgk l=true):refuseLoop self "__setattr__" l=pure ():=by
 obtain⟨a,rfl⟩:=qdr e
 induction a with
 | nil=>show PySem.F.store_ValueError.passes self
 | cons c a ih=>rw[Yk,XD,refuseLoop_ref];show ih (qdq e)
section
variable{prog:Program}{w:World}{A:Around}{E:Value->Shared->Prop}{s:Shared}{K:yf}{x C:Addr}{name:Str}{v:Value}{R:Result->Shared->Prop}
theorem xosa(X:K.In s.heap)(I:PySem.W.InstAt s.heap x ox C od)(c:XAt K C)(n:NoAttr K C name)
  (h:wpAny (model prog w) A.in1 (Builtin.ObjectAttr.storeInOwnDict (.ref x) (.ref C) (.str name tk) name v false)
   (λd b=>match d with | .done f=>R (.ok f) b | .again c'=>c'.quiet=true/\codeAny (model prog w) A c' R b) (λe b=>R (.error e) b) s) :
  codeAny (model prog w) A (.call (.builtin "object.__setattr__") ⟨[.ref x,.str name tk,v],[]⟩) R s:=by
 have a:=PySem.F.store_object;obtain⟨g,hc,j⟩:=xK c.mr;have i:PySem.W.Looks (model prog w) s.heap (mroOf (.ref C)) g.mro:=(XU X hc).andThen .now;show xy a.slot.plain a.entry (@PySem.W.check_slot (model prog w) _ _ s "object.__setattr__" "object" "__setattr__" (.ref x) [.str name tk,v] [] _ a.kind a.split (I.type.andThen (xE X c.ob)) (a.args (.ref x) (.str name tk) v) ?_);rw[PySem.W.osa_eq,refuse_eq];show yr (yr (I.type.here (yr (i.here ?_))));rw[refuse_exc _ j];show yE (yr (I.type.here (yr ((YU X n).here (yr (yE ?_))))));show h
theorem xset{vs:Array Value}(X:K.In s.heap)(m:s.heap.get? x=some ⟨.ref C,none,.fields vs,#[]⟩)(c:XAt K C)(n:NoAttr K C name){Q:Unit->Shared->Prop}
  (h:∀ h',h'.get? x=some ⟨.ref C,some s.heap.objs.size,.fields vs,#[]⟩->h'.Ns1 s.heap.objs.size (λy=>if y=name then some v else none)->(∀ b o,b≠x->s.heap.get? b=some o->h'.get? b=some o) ->
   Q () { s with heap:=h',toks:=s.toks+2 }):wpAny (model prog w) A (setAttr (.ref x) name v) Q E s:=by
 have I:PySem.W.InstAt s.heap x ⟨.ref C,none,.fields vs,#[]⟩ C none:=⟨m,rfl,rfl,YL⟩;obtain⟨J,hc,D⟩:=xK c.hd;show PySem.W.set_plain X I c.sa (xosa (s:={ s with toks:=s.toks+1 }) X I c n ?_);show yr (yE (yr (yr (wpAny_loadPart m (yr ((XU X hc).here (s:={ s with toks:=s.toks+1 }) ?_))))));rw[D];obtain⟨a,g,L,tk,N⟩:=s;show wpAny _ _ (alloc { cls:=.type "dict",data:=.dict #[] }>>=λd=>update x (λo=>{ cls:=o.cls,dict:=some d,data:=o.data,slots:=o.slots })>>=λ_=>pure (some d)) _ _ _;have l:x≠a.objs.size:=Yj (yR m);have i:=yz { cls:=.type "dict",data:=.dict #[] } m;show yr (wpAny_alloc' (yr (wpAny_update' i (yE ?_))));have j:=Heap.get?_update_self (λo:Obj=>{ cls:=o.cls,dict:=some a.objs.size,data:=o.data,slots:=o.slots }) i rfl;have f:=(Heap.get?_update_ne (a.push { cls:=.type "dict",data:=.dict #[] }) a.objs.size x (λo:Obj=>{ cls:=o.cls,dict:=some a.objs.size,data:=o.data,slots:=o.slots }) l.symm).trans (Heap.get?_push_at rfl rfl);generalize G:(a.push { cls:=.type "dict",data:=.dict #[] }).update x (λo:Obj=>{ cls:=o.cls,dict:=some a.objs.size,data:=o.data,slots:=o.slots })=h2 at j f ⊢;have nd:h2.Ns a.objs.size (λ_=>none):=⟨_,#[],_,f,rfl,λe F=>absurd F (by simp),λ_=>rfl⟩;show wpAny _ _ (Builtin.ObjectAttr.storeInDict a.objs.size (.str name tk) name v) _ _ _;unfold Builtin.ObjectAttr.storeInDict Builtin.ObjectAttr.newKeyGuard;show yr (yE (yr (wpAny_nsSet1 (Heap.Ns1.of_empty nd) λh' u z=>?_)));obtain⟨M,p,B,t,r,q⟩:=u.count (PySem.Within.cons name v PySem.Within.nil);have H:p.size<=sizeLine:=yh q (by rw[Yd,YY,xR];lk);show yr (wpAny_lookBehind t (by rw[r];show pastItsLine_dict (X4 H)) ?_);show yE (h h' ((z.2 x l).trans j) u λb o hb e=>(z.2 b (Yj (yR e))).trans ?_);rw[<- G];show(Heap.get?_update_ne _ _ _ _ hb).trans (yz _ e)
abbrev xfs(a:Addr):Array Value:=#[.ref a,.none,.none,.none,.bool false,.none]
end
section
variable{prog:Program}{w:World}{A:Around}{R:Result->Shared->Prop}{E:Value->Shared->Prop}{h:Heap}{g:Array GenState}{d:Drawn}{t:Nat}{os:OsState}
variable{nm q:Str}{C N:Addr}{bs bm:List Value}{hdct:Bool}{sn:LS}{sub:List Value}{ab:Bool}{col:Option Bool}{dd:Option Addr}{k0 k1 k2 k3 k5:Option Value}
end
def XN(e C:Addr)(dx:Option Addr):HO:=.ext λh=>∃ a,h.get? e=some ⟨.ref C,dx,.fields (xfs a),#[]⟩
def XO(e C:Addr)(dx:Option Addr):HO:=.ext λh=>∃ vs,h.get? e=some ⟨.ref C,dx,.fields vs,#[]⟩
theorem XN.ok{b:Addr}(q:h.get? e=some ⟨.ref C,dx,.fields (xfs b),#[]⟩):ObjOk P w H h e (XN e C dx):=
 ⟨⟨b,q⟩,⟨_,q⟩,λ_ _ ⟨a,x⟩ k=>⟨a,k _ x⟩⟩
def IsX(H:Hp)(e C:Addr)(dx:Option Addr):Prop:=H e=some (XN e C dx)\/H e=some (XO e C dx)
theorem IsX.get(q:IsX H e C dx)(b:HOk P w H h):∃ vs,h.get? e=some ⟨.ref C,dx,.fields vs,#[]⟩:=by
 rcases q with q | q
 .obtain⟨⟨a,x⟩,_⟩:=(show ObjOk P w H h e (XN e C dx) from b e _ q);show⟨_,x⟩
 .obtain⟨⟨a,x⟩,_⟩:=(show ObjOk P w H h e (XO e C dx) from b e _ q);show⟨_,x⟩
section
variable{X:Cx}{pins:List (Addr×Obj)}{σ:St}{H:Hp}{s:Shared}{e C:Addr}{dx:Option Addr}
theorem qgl(I:Inv X pins σ H s){d:Addr}{fs:List (Str×V)}(h:H d=some (.xd fs)):∃(od:Obj) (a:Str->Option Value),s.heap.get? d=some od/\(∀ name,PySem.W.lookIn name od=some (a name))/\∀ f,RelO (fs.lookup f) (a f):=by
 obtain⟨a,n,r⟩:=(show ObjOk X.prog X.w H s.heap d (.xd fs) from I.hok d _ h);obtain⟨od,h1,b⟩:=qdd n;show⟨od,a,h1,b,r⟩
end
section
variable{X:Cx}{pins:List (Addr×Obj)}{σ:St}{H:Hp}{s:Shared}{a d:Addr}{h':Heap}{o u:HO}{t':Nat}
theorem Inv.both(I:Inv X pins σ H s)(i:Mut (H a))(l:s.heap.objs.size<=d)(k:∀ b v,b≠a->s.heap.get? b=some v->h'.get? b=some v)(m:∃ v,h'.get? a=some v)
  (p:ObjOk X.prog X.w (upd (upd H d u) a o) h' a o) (t:ObjOk X.prog X.w (upd (upd H d u) a o) h' d u) (ne:d≠a):Inv X pins σ (upd (upd H d u) a o) { s with heap:=h',toks:=t' }:=by
 have nd:H d=none:=I.hok.fresh l;have f:∀ b q,H b=some q->¬ Mut (some q)->b≠a:=λb q e nm z=>by subst z;rw[e] at i;show nm i
 have j:∀ b,H b=none->b≠a:=λb e z=>by subst z;rw[e] at i;show i
 have big:∀ b v,s.heap.get? b=some v->b≠d:=λb v e=>Yj (yi (yR e) l);have h:∀ b q,H b=some q->b≠a->upd (upd H d u) a o b=some q:=λb q e n=>by rw[qj n,qj (qI e nd)];show e
 show I.un ⟨λb v e n _ _=>k b v (j b n) e,λb v e n _ _=>⟨v.slots,k b v (j b n) e⟩,λb v e n _=>by rw[qj (j b n),qj (big b v e)];show n,λb v e _=>?_,λb xs e=>h b _ e (f b _ e λz=>z),λb q xs e=>h b _ e (f b _ e λz=>z),
  λb x e=>⟨#[],by rw[h b _ e (f b _ e λz=>z)];simp⟩⟩ λb q e=>?_
 .by_cases hb:b=a
  .subst hb;show m
  .show⟨v,k b v hb e⟩
 .by_cases hb:b=a
  .subst hb;rw[qb] at e;cases e;show p
  .rw [qj hb] at e;by_cases g:b=d
   .subst g;rw[qb] at e;cases e;show t
   .rw [qj g] at e;show(I.hok b q e).stay (λc v hc r=>k c v ?_ r) (λc r=>h c _ r (f c _ r λz=>z)) λc xs r=>h c _ r (f c _ r λz=>z);rcases hc with rfl | hc
    .show hb
    .show f c _ hc λz=>z
end
inductive FldR(K:yf)(f:Str)(x:V)(H:Hp)(Q:VK):Prop|mk (a C dx:Addr) (fs:List (Str×V)) (v:V) (_:x=.ref a) (_:H a=some (.ins C dx fs)) (_:Cls K C) (_:NoAttr K C f) (_:fs.lookup f=some v) (_:Q v H)
inductive XFlR(K:yf)(f:Str)(x:V)(H:Hp)(Q:VK):Prop|mk (a C dx:Addr) (fs:List (Str×V)) (v:V) (_:x=.ref a) (_:IsX H a C (some dx)) (_:XAt K C) (_:NoAttr K C f) (_:H dx=some (.xd fs)) (_:fs.lookup f=some v) (_:Q v H)
inductive FlUR(K:yf)(f:Str)(x:V)(H:Hp)(Q:VK):Prop | inl (_:FldR K f x H Q) | inr (_:XFlR K f x H Q)
inductive SFdR(K:yf)(f:Str)(x y:V)(H:Hp)(k:Hp->Prop):Prop|mk (a C dx:Addr) (fs:List (Str×V)) (_:x=.ref a) (_:H a=some (.ins C dx fs)) (_:Cls K C) (_:NoAttr K C f) (_:fs.length<1000) (_:k (upd H a (.ins C dx (jC f y fs))))
inductive SXdR(K:yf)(f:Str)(x y:V)(H:Hp)(k:Hp->Prop):Prop|mk (a C:Addr) (_:x=.ref a) (_:H a=some (XN a C none)) (_:XAt K C) (_:NoAttr K C f) (_:∀ dx,H dx=none->k (upd (upd H dx (.xd [(f,y)])) a (XN a C (some dx))))
inductive SFUR(K:yf)(f:Str)(x y:V)(H:Hp)(k:Hp->Prop):Prop | inl (_:SFdR K f x y H k) | inr (_:SXdR K f x y H k)
def qhe(K:yf)(b:TE)(f:Str):TE:=fun σ H Q=>b σ H λx a=>FlUR K f x a Q
def qhf(K:yf)(c d:TE)(f:Str):TS:=λD σ H=>d σ H λy a=>c σ a λx b=>SFUR K f x y b (D.nx σ)
section
variable{X:Cx}{o e value:Expr}{f:Str}{pos pos':Pos}{ta tv:TE}{K:yf}
theorem jx(w:X.K=K)(z:PE X e ta)(hb:attributeBase e f X.env (eval e X.env)=eval e X.env):PE X (.Attribute e f pos) (qhe K ta f):=by
 subst w;intro pins s σ H Q I h;show attr_of hb (thn (z pins s σ H _ I h) λu E ⟨x,j,b,m,i⟩=>?_);rcases i with⟨a,C,dx,fs,v,rfl,g,c,n,l,q⟩ | ⟨a,C,dx,fs,v,rfl,g,c,n,y,l,q⟩
 .obtain rfl:u=Value.ref a:=m;show getattr_ok b g c n l λD F p d=>⟨v,j,p,d,q⟩
 .obtain rfl:u=Value.ref a:=m;obtain⟨vs,i⟩:=g.get b.hok;obtain⟨od,B,h1,t,r⟩:=qgl b y;obtain⟨D,A,d⟩:=RelO.some_of (v:=v) (o:=B f) (by rw[<- l];show r f);show xget b.kIn (od:=some od) ⟨i,rfl,rfl,h1⟩ c (PySem.W.findObj_own c.hd n rfl (by rw[t,A])) (qde d) ⟨v,j,b.tok _,d,q⟩
theorem qb0(J:X.K=K)(L:PE X o ta)(hv:PE X value tv)(M:swapsWith value (some (.Attribute o f pos')) pos.line X.env=pure false):PS X (.Assign [.Attribute o f pos'] value pos) (qhf K ta tv f):=by
 subst J;intro pins s σ H D I h;show plainObj_wpAny_Assign_Attribute (thn (hv pins s σ H _ I h) λu N ⟨y,A,B,z,q⟩=>thn (L pins N σ A _ B q) λt i ⟨x,p,b,v,e⟩=>?_) M;rcases e with⟨a,C,dx,fs,rfl,d,c,n,l,m⟩ | ⟨a,C,rfl,d,c,n,m⟩
 .obtain rfl:t=Value.ref a:=v;show setattr_ok b d c n l z λP E=>⟨σ,_,E,m⟩
 .obtain rfl:t=Value.ref a:=v;obtain⟨⟨O,e⟩,_⟩:=(show ObjOk X.prog X.w p i.heap a (XN a C none) from b.hok a _ d);show xset b.kIn e c n λh' r F G=>?_;have nd:p i.heap.objs.size=none:=b.hok.fresh (yg _);have ne:i.heap.objs.size≠a:=Xk (yR e);show⟨σ,_,b.both (o:=XN a C (some i.heap.objs.size)) (u:=.xd [(f,y)]) (by rw[d];show YL) (yg _) G ⟨_,r⟩ (XN.ok r) ⟨_,F,λg=>?_⟩ ne,m _ nd⟩;by_cases j:g=f
  .subst j;simp only[List.lookup,xN,Xl];show z
  .have hb:(g==f)=false:=YA.mpr j;simp only[List.lookup,hb,yC j];show YL
end
def tXMake(C:Addr)(sp:Sp)(E:XK)(t:TA):TE:=fun σ H Q=>t σ H λvs a=>vs.length<=1000/\∀ x,a x=none->sp (.ref x::vs) (upd a x (XN x C none)) (λv b=>v=.non/\Q (.ref x) b) E
structure XMk(K:yf)(C f:Addr):Prop where
 at_:XAt K C
 init:PySem.W.findIn K (.ref C) "__init__"=some (some (.ref f))
 fn:PySem.W.isFn K (.ref f)=true
 kp:PySem.W.keepIn K (.ref C)=true
section
variable{X:Cx}{CX:CXT}{k:Nat}{f C:Addr}{fd:FuncData}{ps:LS}{sp:Sp}{E:XK}{x m:Str}{p pos apos:Pos}{e o:Expr}{es:List Expr}{ta:TE}{t:TA}
structure CMeth(K:yf)(C:Addr)(m:Str)(f:Addr):Prop where
 rd:PySem.W.readsIn K C (.type "type")=true
 at_:PySem.W.findCls K (.ref C) (.type "type") m=some (.val (.ref f))
 ga:PySem.W.specialIn K (.ref C) "__getattribute__"=some (some (.builtin "type.__getattribute__"))
 kp:PySem.W.keepIn K (.ref f)=true
end
def tVinit(K:yf)(t:TA):TE:=fun σ H Q=>t σ H λvs b=>∃ a C y,vs=[.ref a,y]/\b a=some (XN a C none)/\XAt K C/\Q .non b
structure VInit(K:yf):Prop where
 ga:PySem.W.findIn K (.type "type") "__getattribute__"=some (some (.builtin "type.__getattribute__"))
 su:PySem.W.subIn K (.type "type") (.type "type")=some true
 at_:PySem.W.findCls K (.type "ValueError") (.type "type") "__init__"=some (.val (.builtin "ValueError.__init__"))
section
variable{X:Cx}{p pos apos:Pos}{e:Expr}{es:List Expr}{t:TA}{K:yf}
end
structure Keep(fs zs:LI)(h h':Heap):Prop where
 keep:∀ b o,h.get? b=some o->b∉zs->b∉fs->h'.get? b=some o
 slot:∀ b o,h.get? b=some o->b∉zs->b∈fs->∃ sl,h'.get? b=some { o with slots:=sl }
structure Trc(h:Heap)(e:Addr)(C:Value)(dx:Option Addr)(T:Addr)(fl:Value):Prop where
 ex:∃ vs,h.get? e=some ⟨C,dx,.fields vs,#[]⟩/\vs[1]?=some (.ref T)/\vs[2]?=some .none
 tb:∃ ts,h.get? T=some ⟨.type "traceback",none,.fields ts,#[]⟩/\ts[3]?=some fl
 ne:T≠e
section
variable{M:Model}{A:Around}{E:Value->Shared->Prop}{s:Shared}{base:Heap}{env:Env}{outer:List Env}{L e:Addr}{C:Value}{dx:Option Addr}{vs:Array Value}
end
def CX1(P:Program)(w:World):CXT:=λb H s E e d=>∃(a C:Addr) (dx:Option Addr) (T:Addr) (c:Hp),e=.ref a/\d.os=s.os/\AllBare d.gens/\Un (frs b) [] H c s.heap d.heap/\HOk P w c d.heap /\
 c a=some (XO a C dx)/\Trc d.heap a (.ref C) dx T .none/\s.heap.objs.size<=T/\c T=none/\E (.ref C) dx c
section
variable{X:Cx}{pins:List (Addr×Obj)}{σ:St}{H:Hp}{s:Shared}
end
structure XOk(X:Cx)(EK:St->XK):Prop where
 pass:∀(pins:List (Addr×Obj)) (σ:St) (H:Hp) (s:Shared) (e:Value) (s':Shared),Inv X pins σ H s->CX1 X.prog X.w X.stack H s (EK σ) e s'->X.xe e s'
 rais:∀(pins:List (Addr×Obj)) (σ:St) (H:Hp) (s:Shared) (a C:Addr) (dx:Option Addr),Inv X pins σ H s->H a=some (XN a C dx)->EK σ (.ref C) dx (upd H a (XO a C dx))->X.xe (.ref a) s
 calm:X.calm=true
section
variable{P:Program}{w:World}{K:yf}{mg:Str->Option Value}{base:Heap}{N:LS}{qual:Str}{scope:Scope}{f:Addr}{cd:Value}{A:Around}{outer:List Env}{s0:Shared}{H0:Hp}{E:XK}
end
def tRaise(K:yf)(c:St->XK)(te:TE):TS:=λ_ σ H=>te σ H λx b=>∃ a C dx,x=.ref a/\b a=some (XN a C dx)/\XAt K C/\c σ (.ref C) dx (upd b a (XO a C dx))
section
variable{X:Cx}{EK:St->XK}{e:Expr}{te:TE}{pos:Pos}{K:yf}
end
def tCallS(sp:Sp)(a:St->XK)(t:TA):TE:=fun σ H Q=>t σ H λvs b=>sp vs b Q (a σ)
def tMethS(C:Addr)(m:Str)(sp:Sp)(b:St->XK)(d:TE)(t:TA):TE:=fun σ H Q=>d σ H λx a=>MeR C m x a (t σ a λvs c=>sp (x::vs) c Q (b σ))
def tMakeS(C:Addr)(sp:Sp)(b:St->XK)(t:TA):TE:=fun σ H Q=>t σ H λvs a=>∀ x dx,a x=none->a dx=none->dx≠x ->
 sp (.ref x::vs) (upd (upd a dx (.own x)) x (.ins C dx [])) (λv c=>v=.non/\Q (.ref x) c) (b σ)
structure MethOk(P:Program)(w:World)(K:yf)(mg:Str->Option Value)(base:Heap)(CX:CXT)(k:Nat)(C:Addr)(m:Str)(ps:LS)(sp:Sp):Prop where
 ex:∃ f fd,FnOk P w K mg base CX k f fd ps sp/\Meth K C m f/\Binds K fd ps []
 cl:Cls K C
structure MakeOk(P:Program)(w:World)(K:yf)(mg:Str->Option Value)(base:Heap)(CX:CXT)(k:Nat)(C:Addr)(x:Str)(ps:LS)(sp:Sp):Prop where
 ex:∃ f fd,FnOk P w K mg base CX k f fd ps sp/\Mk K C f/\Binds K fd ps []
 mg_:mg x=some (.ref C)
structure XMakeOk(P:Program)(w:World)(K:yf)(mg:Str->Option Value)(base:Heap)(k:Nat)(C:Addr)(x:Str)(ps:LS)(sp:Sp):Prop where
 ex:∃ f fd,wq9 k f fd ps sp/\XMk K C f/\Binds K fd ps []
 mg_:mg x=some (.ref C)
section
variable{X:Cx}{EK:St->XK}{k:Nat}{f C:Addr}{fd:FuncData}{ps:LS}{sp:Sp}{x m:Str}{p pos apos:Pos}{e o:Expr}{es:List Expr}{ta:TE}{t:TA}
theorem qH(D:MethOk X.prog X.w X.K X.mg X.base CX0 k C m ps sp)(h:Room k X.A)(d:PE X o ta)(c:PA X (e::es) t)
  (b:starEach (e::es) X.env=(false,eval e X.env)::starEach es X.env:=by rfl) (a:(backTo pos (starEach es X.env)).any (·.1)=false:=by rfl)
  (i:eval (.Call (.Attribute o m apos) (e::es) [] pos) X.env=(do
   let ov <- eval o X.env
   standAt apos.atName
   let (f,first) <- holding [ov] (getMethod ov m pl)
   callWith pos f first (backTo pos (starEach (e::es) X.env)) (backToKw pos (keywordEach [] X.env))):=by rfl) :
  PE X (.Call (.Attribute o m apos) (e::es) [] pos) (qe4 C m sp [] E0 ta t):=by
 obtain⟨f,fd,F,g,hb⟩:=D.ex;show pe_meth (pl:=pl) d D.cl g F h hb .nil qt c b a i
theorem qT(D:MethOk X.prog X.w X.K X.mg X.base CX0 k C m ps sp)(c:Room k X.A)(a:PE X o ta)
  (d:eval (.Call (.Attribute o m apos) [] [] pos) X.env=(do
   let ov <- eval o X.env
   standAt apos.atName
   let (f,first) <- holding [ov] (getMethod ov m pl)
   callWith pos f first (backTo pos (starEach [] X.env)) (backToKw pos (keywordEach [] X.env))):=by rfl) :
  PE X (.Call (.Attribute o m apos) [] [] pos) (qe4 C m sp [] E0 ta qgI):=by
 obtain⟨f,fd,F,b,hb⟩:=D.ex;show pe_meth0 (pl:=pl) a D.cl b F c hb .nil qt d
end
section
variable{P:Program}{w:World}{K:yf}{mg:Str->Option Value}{base:Heap}
end
abbrev Cx.tried(X:Cx)(pn:List (Addr×Obj))(E:Value->Shared->Prop):Cx:={ X with pn:=pn,xe:=E }
abbrev Cx.hand(X:Cx)(a:Addr):Cx:={ X with A:=X.A.mark (some (.ref a)),calm:=false,xe:=λ_ _=>False }
section
variable{X:Cx}{pins pins':List (Addr×Obj)}{σ:St}{H:Hp}{s:Shared}{E:Value->Shared->Prop}{a:Addr}
structure Loose(X:Cx)(pins:List (Addr×Obj))(H:Hp)(T:Addr):Prop where
 hn:H T=none
 lo:X.s₀.heap.objs.size<=T
 nl:T≠X.env.locals
 nf:T∉X.fs
 nc:∀ x c,X.env.cells.lookup x=some c->c≠T
 np:∀ p∈X.pn++pins,p.1≠T
end
structure Held(X:Cx)(pins:List (Addr×Obj))(H:Hp)(h:Heap)(a C:Addr)(dx:Option Addr):Prop where
 at_:H a=some (XO a C dx)
 tr:∃ T,Trc h a (.ref C) dx T .none/\Loose X pins H T
section
variable{X:Cx}{a C D:Addr}{dx:Option Addr}{c n:Str}{cp pos:Pos}{b0:Stmt}{body:List Stmt}{qdM:List ExceptHandler}{tb tr:TS}{i:Nat}{K:yf}
end
section
variable{X:Cx}{body orelse:List Stmt}{h0:ExceptHandler}{hs:List ExceptHandler}{pos:Pos}{te:TS}
end
def TyX(K:yf)(H:Hp)(x:V)(t:Value):Prop:=TyOf K H x t\/∃ a C dx,x=.ref a/\t=.ref C/\IsX H a C dx/\XAt K C/\∀ d,dx=some d->∃ fs,H d=some (.xd fs)
theorem TyX.kit{x:V}(I:Inv X pins σ H s)(e:RelV x u)(ty:TyX X.K H x t):∃ P:Heap->Prop,PySem.W.KitX X.K u t P/\P s.heap/\u≠.builtin "__main__.__loader__#opaque":=by
 rcases ty with ty | ⟨a,C,dx,rfl,rfl,hx,c,hd⟩
 .show ty.kit I e
 .cases e;obtain⟨vs,b⟩:=hx.get I.hok
  cases dx with
  | none=>show⟨_,qex (od:=none) c,⟨b,rfl,rfl,YL⟩,λz=>nomatch z⟩
  | some d =>
   obtain⟨fs,f⟩:=hd d rfl;obtain⟨od,g,h1,_⟩:=qgl I f;show⟨_,qex (od:=some od) c,⟨b,rfl,rfl,h1⟩,λz=>nomatch z⟩
def qhg(K:yf):List V->Hp->VK->Prop:=λxs H Q=>∃ x y t c b,xs=[x,y]/\TyX K H x t/\qdo y=some c/\PySem.W.kitOne K t c=some b/\Q (.bl b) H
def qff(K:yf):List V->Hp->VK->Prop:=λxs H Q=>∃ x p ys t a b,xs=[x,.ref p]/\TyX K H x t/\H p=some (.tup ys)/\ys.map qdo=a.map some/\PySem.W.kitAny K t a=some b/\Q (.bl b) H
section
variable{X:Cx}{K:yf}
theorem qbA(a:X.K=K):qag X (.builtin "isinstance") (qhg K):=by
 subst a;intro pins s σ H xs us Q I r h;obtain⟨x,y,t,c,b,rfl,ty,d,hb,q⟩:=h;obtain⟨u,v,rfl,f,g⟩:=qf4 r;have e:=qcz d g;subst e;obtain⟨P,Z,p,ne⟩:=ty.kit I f;show PySem.W.kia_one Z I.kIn p hb ne λtk=>⟨.bl b,H,I.tok tk,rfl,q⟩
theorem qfg(i:X.K=K):qag X (.builtin "isinstance") (qff K):=by
 subst i;intro pins s σ H xs us Q I r h;obtain⟨x,p,ys,t,B,b,rfl,ty,m,y,hb,q⟩:=h;obtain⟨u,v,rfl,A,f⟩:=qf4 r;cases f;obtain⟨P,Z,z,ne⟩:=ty.kit I A;obtain⟨_,its,f,o,l,hc,n,j⟩:=(show ObjOk X.prog X.w H s.heap p (.tup ys) from I.hok p _ m);have e:=qbZ y f;subst e;obtain⟨c,C,g,D⟩:=o;have a:c=.type "tuple":=hc;have d:g=.seq its.toArray n:=j;subst a d;show PySem.W.kia_tup Z I.kIn z l hb ne λtk=>⟨.bl b,H,I.tok tk,rfl,q⟩
end
mutual
inductive EqD(K:yf)(H:Hp):Nat->V->V->Bool->Prop
 | flat {n:Nat} {x y:V} (fx:qaM x=true) (fy:qaM y=true):EqD K H n x y (eqV x y)
 | self {n:Nat} {a:Addr}:EqD K H n (.ref a) (.ref a) true
 | deep {n:Nat} {a b:Addr} {k:Bool} (h:EqT K H n a b k) (ne:a≠b):EqD K H n (.ref a) (.ref b) k
inductive EqT(K:yf)(H:Hp):Nat->Addr->Addr->Bool->Prop
 | lst {n:Nat} {a b:Addr} {xs ys:List V} {e:Nat->Bool} (ha:SqL K H a xs) (hb:SqL K H b ys) (hl:xs.length=ys.length) (he:∀ j x y,xs[j]?=some x->ys[j]?=some y->EqD K H n x y (e j)):EqT K H (n+1) a b ((List.range xs.length).all e)
 | lstL {n:Nat} {a b:Addr} {xs ys:List V} (ha:SqL K H a xs) (hb:SqL K H b ys) (hl:xs.length≠ys.length):EqT K H (n+1) a b false
 | tup {n:Nat} {a b:Addr} {xs ys:List V} {e:Nat->Bool} (ha:SqT K H a xs) (hb:SqT K H b ys) (he:∀ j x y,xs[j]?=some x->ys[j]?=some y->EqD K H n x y (e j)):EqT K H (n+1) a b ((List.range (min xs.length ys.length)).all e&&xs.length==ys.length)
 | lt {n:Nat} {a b:Addr} {xs ys:List V} (ha:SqL K H a xs) (hb:SqT K H b ys):EqT K H (n+1) a b false
 | tl {n:Nat} {a b:Addr} {xs ys:List V} (ha:SqT K H a xs) (hb:SqL K H b ys):EqT K H (n+1) a b false
end
theorem jG:∀{xs:List V} {us:List Value} {j:Nat} {u:Value},Vals xs us->us[j]?=some u->∃ x,xs[j]?=some x/\RelV x u
 | _,_,_,_,.nil,e=>by simp at e
 | _,_,0,_,.cons r _,e=>by simp at e;subst e;show⟨_,rfl,r⟩
 | _,_,j+1,u,.cons _ t,e=>by
  obtain⟨x,h1,a⟩:=jG (j:=j) (u:=u) t (by simpa using e);show⟨x,by simpa using h1,a⟩
section
variable{X:Cx}{pins:List (Addr×Obj)}{σ:St}{H:Hp}{s:Shared}
theorem qdZ(I:Inv X pins σ H s):∀ n,(∀(A:Around) (x y:V) (k:Bool) (u v:Value),EqD X.K H n x y k->RelV x u->RelV y v->A.units+n<cLine->SeqAt.EqAt A s u v k)/\(∀(A:Around) (a b:Addr) (k:Bool),EqT X.K H n a b k->A.units+n<cLine->SeqAt.RcAt A s (.ref a) (.ref b) k):=by
 intro n
 induction n with
 | zero =>
  have G:∀(A:Around) (a b:Addr) (k:Bool),EqT X.K H 0 a b k->A.units+0<cLine->SeqAt.RcAt A s (.ref a) (.ref b) k:=λA a b k h=>by cases h
  show⟨λA x y k u v h g i B=>?_,G⟩
  cases h with
  | flat fx fy=>show qe8 g i fx fy
  | self=>cases g;cases i;show XJ _
  | deep h ne=>cases h
 | succ n ih =>
  have E:∀(A:Around) (a b:Addr) (k:Bool),EqT X.K H (n+1) a b k->A.units+(n+1)<cLine->SeqAt.RcAt A s (.ref a) (.ref b) k:=λA a b k h B=>by
   have f:A.units<cLine:=by lk
   have o:A.in1.units+n<cLine:=by show A.units+1+n<cLine;lk
   cases h with
   | @lst _ _ _ xs ys e ha hb hl he =>
    obtain⟨its,r,pl,q⟩:=I.list ha;obtain⟨c,m,d,l⟩:=I.list hb;have p:xs.length=its.toArray.size:=by rw[yB];show r.length
    have t:ys.length=c.toArray.size:=by rw[yB];show m.length
    rw[p];show SeqAt.RcAt.lists pl.isList d.isList (by rw[<- p,<- t,hl]) f λj h1 F=>?_;have w:its[j]?=some its.toArray[j]:=by simp
    have z:c[j]?=some c.toArray[j]:=by simp
    obtain⟨x,C,g⟩:=jG r w;obtain⟨y,D,i⟩:=jG m z;show ih.1 A.in1 x y (e j) _ _ (he j x y C D) g i o
   | @lstL _ _ _ xs ys ha hb hl =>
    obtain⟨its,r,pl,q⟩:=I.list ha;obtain⟨c,m,d,l⟩:=I.list hb;show SeqAt.RcAt.lists_lengths pl.isList d.isList ?_ f;rw[yB,yB,<- r.length,<- m.length];simp[hl]
   | @tup _ _ _ xs ys e ha hb he =>
    obtain⟨its,r,pl,q⟩:=I.tuple ha;obtain⟨c,m,d,l⟩:=I.tuple hb;have p:xs.length=its.toArray.size:=by rw[yB];show r.length
    have t:ys.length=c.toArray.size:=by rw[yB];show m.length
    rw[p,t];show SeqAt.RcAt.tuples pl d f λj h1 F=>?_;have w:its[j]?=some its.toArray[j]:=by simp
    have z:c[j]?=some c.toArray[j]:=by simp
    obtain⟨x,C,g⟩:=jG r w;obtain⟨y,D,i⟩:=jG m z;show ih.1 A.in1 x y (e j) _ _ (he j x y C D) g i o
   | lt ha hb =>
    obtain⟨its,r,pl,q⟩:=I.list ha;obtain⟨c,m,d,l⟩:=I.tuple hb;show SeqAt.RcAt.list_tuple pl.isList d f
   | tl ha hb =>
    obtain⟨its,r,pl,q⟩:=I.tuple ha;obtain⟨c,m,d,l⟩:=I.list hb;show SeqAt.RcAt.tuple_list pl d.isList f
  show⟨λA x y k u v h g i B=>?_,E⟩
  cases h with
  | flat fx fy=>show qe8 g i fx fy
  | self=>cases g;cases i;show XJ _
  | deep h ne=>cases g;cases i;show SeqAt.EqAt.of_refs ne (E A _ _ k h B)
theorem ne_refs(I:Inv X pins σ H s){n:Nat}{A:Around}{a b:Addr}{k:Bool}(h:EqT X.K H n a b k)(B:A.units+n<cLine):SeqAt.RcNeAt A s (.ref a) (.ref b) (!k):=by
 cases n with
 | zero=>cases h
 | succ n =>
  have w:=qdZ I n;have f:A.units<cLine:=by lk
  have l:A.in1.units+n<cLine:=by show A.units+1+n<cLine;lk
  cases h with
  | @lst _ _ _ xs ys e ha hb hl he =>
   obtain⟨its,r,pl,o⟩:=I.list ha;obtain⟨c,i,d,g⟩:=I.list hb;have m:xs.length=its.toArray.size:=by rw[yB];show r.length
   have p:ys.length=c.toArray.size:=by rw[yB];show i.length
   rw[m];show SeqAt.RcNeAt.lists pl.isList d.isList (by rw[<- m,<- p,hl]) f λj h1 z=>?_;obtain⟨x,q,u⟩:=jG r (show its[j]?=some its.toArray[j] by simp);obtain⟨y,t,v⟩:=jG i (show c[j]?=some c.toArray[j] by simp);show w.1 A.in1 x y (e j) _ _ (he j x y q t) u v l
  | @lstL _ _ _ xs ys ha hb hl =>
   obtain⟨its,r,pl,o⟩:=I.list ha;obtain⟨c,i,d,g⟩:=I.list hb;show SeqAt.RcNeAt.lists_lengths pl.isList d.isList ?_ f;rw[yB,yB,<- r.length,<- i.length];simp[hl]
  | @tup _ _ _ xs ys e ha hb he =>
   obtain⟨its,r,pl,o⟩:=I.tuple ha;obtain⟨c,i,d,g⟩:=I.tuple hb;have m:xs.length=its.toArray.size:=by rw[yB];show r.length
   have p:ys.length=c.toArray.size:=by rw[yB];show i.length
   rw[m,p];show SeqAt.RcNeAt.tuples pl d f λj h1 z=>?_;obtain⟨x,q,u⟩:=jG r (show its[j]?=some its.toArray[j] by simp);obtain⟨y,t,v⟩:=jG i (show c[j]?=some c.toArray[j] by simp);show w.1 A.in1 x y (e j) _ _ (he j x y q t) u v l
  | lt ha hb =>
   obtain⟨its,r,pl,o⟩:=I.list ha;obtain⟨c,i,d,g⟩:=I.tuple hb;show SeqAt.RcNeAt.list_tuple pl.isList d f
  | tl ha hb =>
   obtain⟨its,r,pl,o⟩:=I.tuple ha;obtain⟨c,i,d,g⟩:=I.list hb;show SeqAt.RcNeAt.tuple_list pl d.isList f
theorem qgm{A:Around}{x y:V}{u v:Value}(e:RelV x u)(c:RelV y v)(f:qaM x=true)(d:qaM y=true):SeqAt.RcAt A s u v (eqV x y)/\SeqAt.RcNeAt A s u v (!eqV x y):=by
 cases x with
 | non =>
  cases e
  cases y with
  | non=>cases c;show⟨SeqAt.RcAt.none_none,SeqAt.RcNeAt.none_none⟩
  | bl b=>cases c;show⟨SeqAt.RcAt.none_bool b,SeqAt.RcNeAt.none_bool b⟩
  | int b=>obtain⟨t,rfl⟩:=c;show⟨SeqAt.RcAt.none_int b t,SeqAt.RcNeAt.none_int b t⟩
  | str b=>obtain⟨t,rfl⟩:=c;show⟨SeqAt.RcAt.none_str b t,SeqAt.RcNeAt.none_str b t⟩
  | _=>cases d
 | bl a =>
  cases e
  cases y with
  | non=>cases c;show⟨SeqAt.RcAt.bool_none a,SeqAt.RcNeAt.bool_none a⟩
  | bl b=>cases c;show⟨SeqAt.RcAt.bool_bool a b,SeqAt.RcNeAt.bool_bool a b⟩
  | int b=>obtain⟨t,rfl⟩:=c;show⟨SeqAt.RcAt.bool_int a b t,SeqAt.RcNeAt.bool_int a b t⟩
  | str b=>obtain⟨t,rfl⟩:=c;show⟨SeqAt.RcAt.bool_str a b t,SeqAt.RcNeAt.bool_str a b t⟩
  | _=>cases d
 | int a =>
  obtain⟨t',rfl⟩:=e
  cases y with
  | non=>cases c;show⟨SeqAt.RcAt.int_none a t',SeqAt.RcNeAt.int_none a t'⟩
  | bl b=>cases c;show⟨SeqAt.RcAt.int_bool a t' b,SeqAt.RcNeAt.int_bool a t' b⟩
  | int b=>obtain⟨t,rfl⟩:=c;show⟨SeqAt.RcAt.int_int a t' b t,SeqAt.RcNeAt.int_int a t' b t⟩
  | str b=>obtain⟨t,rfl⟩:=c;show⟨SeqAt.RcAt.int_str a t' b t,SeqAt.RcNeAt.int_str a t' b t⟩
  | _=>cases d
 | str a =>
  obtain⟨t',rfl⟩:=e
  cases y with
  | non=>cases c;show⟨SeqAt.RcAt.str_none a t',SeqAt.RcNeAt.str_none a t'⟩
  | bl b=>cases c;show⟨SeqAt.RcAt.str_bool a t' b,SeqAt.RcNeAt.str_bool a t' b⟩
  | int b=>obtain⟨t,rfl⟩:=c;show⟨SeqAt.RcAt.str_int a t' b t,SeqAt.RcNeAt.str_int a t' b t⟩
  | str b=>obtain⟨t,rfl⟩:=c;show⟨SeqAt.RcAt.str_str a t' b t,SeqAt.RcNeAt.str_str a t' b t⟩
  | _=>cases d
 | _=>cases f
end
def qeX(K:yf)(c:Bool):R2:=λx y H Q=>(qaM x=true/\qaM y=true/\Q (.bl (if c then !eqV x y else eqV x y)) H) \/
 (∃ a b k n,x=.ref a/\y=.ref b/\n<=60/\EqT K H n a b k/\Q (.bl (if c then !k else k)) H) \/
 (∃ a kvs,x=.ref a/\y=.ref a/\H a=some (.dK kvs)/\Q (.bl (!c)) H)
theorem qb1{b:Type}[DecidableEq b]:∀{a:List (b×Value)} {k:b} {v:Value},(a.map (·.1)).Nodup->(k,v)∈a->valueAt a k=some v
 | [],_,_,_,h=>by cases h
 | (k',v')::r,k,v,hn,h=>by
  obtain⟨h1,c⟩:=yn.mp (show(k'::r.map (·.1)).Nodup from hn);unfold valueAt;rw[xi];by_cases e:k'=k
  .subst e;simp only[decide_true];rcases yN.mp h with z | z
   .cases z;rfl
   .show absurd (yJ.mpr ⟨(k',v),z,rfl⟩) h1
  .simp only[e,kE];rcases yN.mp h with z | z
   .cases z;show absurd rfl e
   .show qb1 c z
theorem qd0{A:Around}{s:Shared}{c:Type}[DecidableEq c](a:List (c×Value))(d:(a.map (·.1)).Nodup):∀ f:List (c×Value),(∀ p∈f,p∈a)->PySem.W.KeqHits A s a f true
 | [],_=>.nil
 | (k,v)::r,h=>by
  have hv:valueAt a k=some v:=qb1 d (h (k,v) yK);show .hit (e:=true) (b:=true) hv (XJ v) (qd0 a d r λp g=>h p (yy _ g))
section
variable{X:Cx}{K:yf}
theorem k_eqU(m:X.K=K)(p:X.A.units+100<cLine):OpR X (compareOp .Eq) (qeX K false):=by
 subst m;intro pins s σ H x y u v Q I c f h;rcases h with⟨j,l,q⟩ | ⟨a,b,k,n,rfl,rfl,o,e,q⟩ | ⟨a,kvs,rfl,rfl,i,q⟩
 .show(qgm c f j l).1 _ _ _ _ ⟨.bl _,H,I,rfl,q⟩
 .cases c;cases f;show(qdZ I n).2 X.A a b k e (by lk) _ _ _ _ ⟨.bl _,H,I,rfl,q⟩
 .cases c;cases f;obtain⟨_,g,vs,r,d⟩:=(show ObjOk X.prog X.w H s.heap a (.dK kvs) from I.hok a _ i);obtain⟨_,_,_,_,_,_,_,_,nd⟩:=id d;show PySem.W.keq_eq g g d d (by lk) (λ_=>qd0 vs nd vs λ_ h=>h) ?_;rw[xN];show⟨.bl true,H,I,rfl,q⟩
theorem zv(m:X.K=K)(p:X.A.units+100<cLine):OpR X (compareOp .NotEq) (qeX K true):=by
 subst m;intro pins s σ H x y u v Q I c f h;rcases h with⟨j,l,q⟩ | ⟨a,b,k,n,rfl,rfl,o,e,q⟩ | ⟨a,kvs,rfl,rfl,i,q⟩
 .show(qgm c f j l).2 _ _ _ _ ⟨.bl _,H,I,rfl,q⟩
 .cases c;cases f;show ne_refs I e (by lk) _ _ _ _ ⟨.bl _,H,I,rfl,q⟩
 .cases c;cases f;obtain⟨_,g,vs,r,d⟩:=(show ObjOk X.prog X.w H s.heap a (.dK kvs) from I.hok a _ i);obtain⟨_,_,_,_,_,_,_,_,nd⟩:=id d;show PySem.W.keq_ne g g d d (by lk) (λ_=>qd0 vs nd vs λ_ h=>h) ?_;rw[xN];show⟨.bl false,H,I,rfl,q⟩
end
section
variable{X:Cx}{K:yf}
def qhr(K:yf):R2:=λx y H Q=>rIx K x y H Q\/∃ a v,x=.ref a/\DGet H a y (some v)/\Q v H
theorem qz(f:X.K=K)(m:X.A.units+100<cLine):IxR X (qhr K):=by
 subst f;show IxR.or ix_seq ?_;intro d c pins s σ H x y v u Q I j l h i;obtain⟨a,z,rfl,g,q⟩:=h;cases j;show tail_any (dict_typeIs I g) PySem.F.slot_dict_getitem.lookup (d_getItem (by lk) I g l λo n e b=>⟨z,H,e,b,q⟩) i
def qgM:qg1:=λo i v H Q=>rSetL o i v H Q\/∃ a b,o=.ref a/\DPut H a i v b/\Q b
theorem qaK(j:X.A.units+100<cLine):qhu X qgM:=by
 intro pins s σ H o i v f iv u Q I c b d h;rcases h with h | ⟨a,H',rfl,g,q⟩
 .show set_list pins s σ H o i v f iv u Q I c b d h
 .cases c;show d_setItem (by lk) I g b d λl e=>⟨H',e,q⟩
def qgn(K:yf)(b:Bool):R2:=λx y H Q=>rIn K b x y H Q\/(∃ a o,y=.ref a/\DGet H a x o/\Q (.bl (if b then !o.isSome else o.isSome)) H) \/
 (∃ p xs e n,y=.ref p/\SqL K H p xs/\n<=60/\(∀ z∈xs,EqD K H n z x (e z))/\Q (.bl (if b then !xs.any e else xs.any e)) H)
theorem qfh{pins:List (Addr×Obj)}{σ:St}{H:Hp}{s:Shared}{xs:List V}{its:List Value}{x:V}{u:Value}{e:V->Bool}{n:Nat}{A:Around}(I:Inv X pins σ H s)(r:Vals xs its)(v:RelV x u)(t:A.units+n<cLine)(p:∀ z∈xs,EqD X.K H n z x (e z)) :
  ∃ i:Value->Bool,(∀ w,w∈its.toArray->SeqAt.EqAt A s w u (i w))/\its.toArray.any i=xs.any e:=by
 classical
 show⟨λw=>decide (∃ z∈xs,RelV z w/\e z=true),λw hw=>?_,?_⟩
 .have f:w∈its:=by simpa using hw
  obtain⟨j,d⟩:=List.mem_iff_getElem?.mp f;obtain⟨z,a,b⟩:=jG r d;have l:=ye a
  have o:decide (∃ z∈xs,RelV z w/\e z=true)=e z:=by
   cases q:e z with
   | true=>show yw ⟨z,l,b,q⟩
   | false =>
    show yk λ⟨y,_,g,m⟩=>?_;rw[RelV.inj g b,q] at m;cases m
  show SeqAt.EqAt A s w u (decide (∃ z∈xs,RelV z w/\e z=true));rw[o];show(qdZ I n).1 A z x (e z) w u (p z l) b v t
 .rw [yW,xo];constructor
  .intro h;have h':its.any (λw=>decide (∃ z∈xs,RelV z w/\e z=true))=true:=by simpa using h
   obtain⟨w,_,q⟩:=xo.mp h';obtain⟨z,a,_,c⟩:=yj q;show⟨z,a,c⟩
  .rintro ⟨z,a,c⟩;obtain⟨j,d⟩:=List.mem_iff_getElem?.mp a;obtain⟨w,hw,b⟩:=r.get d;have:its.any (λw=>decide (∃ z∈xs,RelV z w/\e z=true))=true:=xo.mpr ⟨w,ye hw,yw ⟨z,a,b,c⟩⟩;simpa using this
theorem qcP(j:X.K=K)(l:X.A.units+100<cLine):OpR X (compareOp .In) (qgn K false):=by
 subst j;intro pins s σ H x y u v Q I b c h;rcases h with h | ⟨a,o,rfl,g,q⟩ | ⟨p,xs,e,n,rfl,hl,hn,he,q⟩
 .show op_in_seq pins s σ H x y u v Q I b c h
 .cases c;show d_in (by lk) I g b λt d=>⟨.bl _,H,d,rfl,q⟩
 .cases c;obtain⟨its,r,pl,m⟩:=I.list hl;obtain⟨f,h1,i⟩:=qfh (A:=X.A.in1) I r b (by show X.A.units+1+n<cLine;lk) he;show SeqAt.in_listAt f pl.isList h1 (by rw[i];show⟨.bl _,H,I,rfl,q⟩)
theorem zb(j:X.K=K)(l:X.A.units+100<cLine):OpR X (compareOp .NotIn) (qgn K true):=by
 subst j;intro pins s σ H x y u v Q I b c h;rcases h with h | ⟨a,o,rfl,g,q⟩ | ⟨p,xs,e,n,rfl,hl,hn,he,q⟩
 .show op_notIn_seq pins s σ H x y u v Q I b c h
 .cases c;show d_notIn (by lk) I g b λt d=>⟨.bl _,H,d,rfl,q⟩
 .cases c;obtain⟨its,r,pl,m⟩:=I.list hl;obtain⟨f,h1,i⟩:=qfh (A:=X.A.in1) I r b (by show X.A.units+1+n<cLine;lk) he;show SeqAt.notIn_listAt f pl.isList h1 (by rw[i];show⟨.bl _,H,I,rfl,q⟩)
def rListU(K:yf):List V->Hp->VK->Prop:=λxs H Q=>(∃ p ys,xs=[.ref p]/\(SqL K H p ys\/SqT K H p ys)/\∀ l,H l=none->Q (.ref l) (upd H l (.lst ys))) \/
 (∃ p kvs,xs=[.ref p]/\H p=some (.dK kvs)/\∀ l,H l=none->Q (.ref l) (upd H l (.lst (kvs.map λa=>kV a.1)))) \/
 (∃ x,xs=[.str x]/\x.length<=1000/\∀ l,H l=none->Q (.ref l) (upd H l (.lst (x.cps.toList.map λc=>.str ⟨#[c]⟩))))
theorem qcA{c d:Type}{F:c->d->Prop}:∀{l:List c} {m:List d} {j:Nat} {a:c},Paired F l m->l[j]?=some a->∃ b,m[j]?=some b/\F a b
 | _,_,_,_,.nil,e=>by simp at e
 | _,_,0,_,.cons r _,e=>by simp at e;subst e;show⟨_,rfl,r⟩
 | _,_,j+1,a,.cons _ t,e=>by
  obtain⟨b,h1,f⟩:=qcA (j:=j) (a:=a) t (by simpa using e);show⟨b,by simpa using h1,f⟩
theorem qbp:∀{ys:List V} {us:List Value},ys.length=us.length->(∀(j:Nat) y u,ys[j]?=some y->us[j]?=some u->RelV y u)->Vals ys us
 | [],[],_,_=>.nil
 | [],_::_,h,_=>by cases h
 | _::_,[],h,_=>by cases h
 | y::ys,u::us,h,q=>.cons (q 0 y u rfl rfl) (qbp (Nat.succ.inj h) λj c b h1 a=>q (j+1) c b (by simpa using h1) (by simpa using a))
theorem qb2(L:X.K=K)(hc:X.calm=true):qag X (.type "list") (rListU K):=by
 subst L;intro pins s σ H xs us Q I r h;rcases h with h | ⟨p,kvs,rfl,ea,q⟩ | ⟨x,rfl,hx,q⟩
 .show call_list_of pins s σ H xs us Q I r h
 .obtain⟨u,rfl,N⟩:=qcM r;cases N;obtain⟨D,M,vs,E,d⟩:=(show ObjOk X.prog X.w H s.heap p (.dK kvs) from I.hok p _ ea);obtain⟨ep,n⟩:=d.dictAt;have hl:kvs.length=vs.length:=E.length;show PySem.W.kdl_call (PySem.W.kdl_dict (knd:=q8 X.prog X.w) (kvs:=vs) (ep:=ep) M) (I.ok.hd hc) n (by rw[<- hl];show D) λh' tk a f A e it=>?_;obtain⟨o,v⟩:=it
  have hv:Vals (kvs.map λb=>kV b.1) a.toList:=by
   show qbp (by rw[ya,hl,<- o];simp) λj y u h1 g=>?_;obtain⟨k,x,l,G⟩:=v j u (by simpa using g);rw[yd] at h1
   cases B:kvs[j]? with
   | none=>rw[B] at h1;cases h1
   | some b =>
    rw[B] at h1;cases h1;obtain⟨P,C,J,O⟩:=qcA E B;rw[l] at C;cases C;have F:b.1=k:=J;show RelV (kV b.1) u;rw[F];rcases qX (show qdR k u=true from G) with⟨i,t,rfl,rfl⟩ | ⟨z,t,rfl,rfl⟩
    .show⟨t,rfl⟩
    .show⟨t,rfl⟩
  show⟨.ref s.heap.objs.size,_,I.laid (t':=tk) A (yg _) (show ObjOk X.prog X.w _ h' _ (.lst (kvs.map λb=>kV b.1)) from⟨by rw[ya];show D,a.toList,f,hv,by simpa using e⟩),rfl,q _ (I.hok.fresh (yg _))⟩
 .obtain⟨u,rfl,t,rfl⟩:=qcM r;have hsz:x.cps.size<=sizeLine:=yI (qe hx);show call_list_str (I.ok.hd hc) x t (λh' tk a f A e it=>?_) hsz;obtain⟨o,v⟩:=it
  have hv:Vals (x.cps.toList.map λc=>V.str ⟨#[c]⟩) a.toList:=by
   show qbp (by rw[ya];simp[o]) λj y u h1 g=>?_;obtain⟨c,t',l,rfl⟩:=v j u (by simpa using g);rw[yd] at h1;have m:x.cps.toList[j]?=some c:=by simpa using l
   rw[m] at h1;cases h1;show⟨t',rfl⟩
  show⟨.ref s.heap.objs.size,_,I.laid (t':=tk) A (yg _) (show ObjOk X.prog X.w _ h' _ (.lst (x.cps.toList.map λc=>V.str ⟨#[c]⟩)) from⟨by rw[ya];simpa using hsz,a.toList,f,hv,by simpa using e⟩),rfl,q _ (I.hok.fresh (yg _))⟩
end
structure CMethOk(P:Program)(w:World)(K:yf)(mg:Str->Option Value)(base:Heap)(CX:CXT)(k:Nat)(C:Addr)(x m:Str)(ps:LS)(sp:Sp):Prop where
 ex:∃ f fd,FnOk P w K mg base CX k f fd ps sp/\CMeth K C m f/\Binds K fd ps []
 mg_:mg x=some (.ref C)
section
variable{X:Cx}{k:Nat}{C:Addr}{ps:LS}{sp:Sp}{x m:Str}{p pos apos:Pos}{e:Expr}{es:List Expr}{t:TA}
theorem qa1(D:MakeOk X.prog X.w X.K X.mg X.base CX0 k C x ps sp)(h:Room (k+1) X.A)(c:PA X (e::es) t)(g:Gl X x:=by rfl)(a:(x==("__debug__":Str))=false:=by decide)
  (d:starEach (e::es) X.env=(false,eval e X.env)::starEach es X.env:=by rfl) (b:(backTo pos (starEach es X.env)).any (·.1)=false:=by rfl):PE X (.Call (.Name x p) (e::es) [] pos) (qgJ C sp [] E0 t):=by
 obtain⟨f,i,F,M,hb⟩:=D.ex;show pe_make M F h g D.mg_ hb .nil qt c a d b
end
theorem own_eq_same{prog:Program}{w:World}{A:Around}{E:Value->Shared->Prop}{s:Shared}{K:yf}{x C:Addr}{ox:Obj}{od:Option Obj}{Q:Value->Shared->Prop}(m:A.units<cLine)(X:K.In s.heap)(I:PySem.W.InstAt s.heap x ox C od)
  (l:PySem.W.findIn K (.ref C) "__eq__"=some (some (.builtin "object.__eq__"))) (i:PySem.W.mroIn K C (.type "object")=some true) (h:Q (.bool true) s):wpAny (model prog w) A (richCompare .Eq (.ref x) (.ref x)) Q E s:=by
 have a:∀{g:Around} {f:Value->Shared->Prop},f (.bool true) s->wpAny (model prog w) g (call (.builtin "object.__eq__") [.ref x,.ref x]) f E s:=λ{g f} q=>by
  show XB (xy PySem.F.slot_object_eq.plain PySem.F.entry_object_eq (@PySem.W.check_slot (model prog w) _ _ s "object.__eq__" "object" "__eq__" (.ref x) [.ref x] [] _ (by room) (by room) (I.type.andThen (xE X i)) (PySem.F.args_object_eq_2 _ _) ?_));show yr (yE (yr (wpAny_isSame_ref_self ?_)));show yE q
 have one:wpAny (model prog w) A (tryCompare (.ref x) "__eq__" (.ref x)) (λr c=>∃ v,r=some v/\Q v c) E s:=by
  unfold tryCompare;show yr ?_;simp only[callSpecialIfBound?,bindSpecialIfBound?];show YN (yr (yr (yr (I.type.here ((YU X l).here ?_)))));show yr (kh (wpAny_ite ?_));have b:=PySem.F.slot_object_eq.bind (.ref x)
  have d:wpAny (model prog w) A (call (.builtin "object.__eq__") ([.ref x]++[.ref x])>>=λv=>pure (some v)) (λr c=>wpAny (model prog w) A (match r with | some .notImplemented | none=>pure none | some v=>pure (some v)) (λr c=>∃ v,r=some v/\Q v c) E c) E s:=
   yr (a (yE (yE ⟨_,rfl,h⟩)))
  split
  .show yr (Y0 b (yE d))
  .show wpAny_tryCatch (yr (Y0 b (yE d)))
 unfold richCompare;simp only[oneThing_ref];show YN (yr (wpAny_cRoomFor m ?_));show yr (I.type.here (yr (I.type.here ?_)));rw[yC (by simp)];show yr (yE ?_);simp only[Bool.false_eq_true,ky];show yr (Y8 one (λr c z=>?_) λ_ _ e=>e);obtain⟨v,rfl,j⟩:=z;show yE j
structure OEq(K:yf)(C:Addr):Prop where
 eq:PySem.W.findIn K (.ref C) "__eq__"=some (some (.builtin "object.__eq__"))
 ob:PySem.W.mroIn K C (.type "object")=some true
def qhS(K:yf):R2:=λx y H Q=>qeX K false x y H Q\/∃ a C dx fs,x=.ref a/\y=.ref a/\H a=some (.ins C dx fs)/\OEq K C/\Q (.bl true) H
theorem k_eqW{X:Cx}{K:yf}(d:X.K=K)(e:X.A.units+100<cLine):OpR X (compareOp .Eq) (qhS K):=by
 subst d;intro pins s σ H x y u v Q I b c h;rcases h with h | ⟨a,C,dx,fs,rfl,rfl,ea,oe,q⟩
 .show k_eqU rfl e pins s σ H x y u v Q I b c h
 .cases b;cases c;obtain⟨f,O,_⟩:=qbl I.hok ea;obtain⟨od,J,_⟩:=O.look;show own_eq_same (by lk) I.kIn J oe.eq oe.ob ⟨.bl true,H,I,rfl,q⟩
theorem qJ{X:Cx}:MtR X "list.append" rAppend:=mt_append
theorem mtR_pop{X:Cx}:MtR X "list.pop" rPop:=mt_pop
theorem mtR_popAt{X:Cx}:MtR X "list.pop" rPopAt:=mt_popAt
section
variable{D:Ends}{σ:St}{H:Hp}{Q:VK}{t u:TS}{te ta tb tc:TE}{tas:TA}{K:yf}{sp:Sp}{E:XK}{EK:St->XK}{C:Addr}{f m:Str}
theorem vFldU(h:ta σ H λx a=>FlUR K f x a Q):qhe K ta f σ H Q:=h
theorem vSFldU(h:te σ H λy a=>ta σ a λx b=>SFUR K f x y b (D.nx σ)):qhf K ta te f D σ H:=h
theorem vXMake(h:tas σ H λvs a=>vs.length<=1000/\∀ x,a x=none->sp (.ref x::vs) (upd a x (XN x C none)) (λv b=>v=.non/\Q (.ref x) b) E):tXMake C sp E tas σ H Q:=h
theorem vMake(h:tas σ H λvs a=>∀ x dx,a x=none->a dx=none->dx≠x->sp (.ref x::(vs++[])) (upd (upd a dx (.own x)) x (.ins C dx [])) (λv b=>v=.non/\Q (.ref x) b) E):qgJ C sp [] E tas σ H Q:=h
theorem vMeth(h:ta σ H λx a=>MeR C m x a (tas σ a λvs b=>sp (x::(vs++[])) b Q E)):qe4 C m sp [] E ta tas σ H Q:=h
theorem vVinit(h:tas σ H λvs b=>∃ a C y,vs=[.ref a,y]/\b a=some (XN a C none)/\XAt K C/\Q .non b):tVinit K tas σ H Q:=h
theorem vCallS(h:tas σ H λvs a=>sp vs a Q (EK σ)):tCallS sp EK tas σ H Q:=h
theorem vMethS(h:ta σ H λx a=>MeR C m x a (tas σ a λvs b=>sp (x::vs) b Q (EK σ))):tMethS C m sp EK ta tas σ H Q:=h
theorem vMakeS(h:tas σ H λvs a=>∀ x dx,a x=none->a dx=none->dx≠x->sp (.ref x::vs) (upd (upd a dx (.own x)) x (.ins C dx [])) (λv b=>v=.non/\Q (.ref x) b) (EK σ)):tMakeS C sp EK tas σ H Q:=h
theorem vRaise(h:te σ H λx b=>∃ a C dx,x=.ref a/\b a=some (XN a C dx)/\XAt K C/\EK σ (.ref C) dx (upd b a (XO a C dx))):tRaise K EK te D σ H:=h
theorem qds{x y:V}{t a:Value}{b:Bool}(ty:TyX K H x t)(c:qdo y=some a)(hb:PySem.W.kitOne K t a=some b)(h:Q (.bl b) H):qhg K [x,y] H Q:=⟨x,y,t,a,b,rfl,ty,c,hb,h⟩
end
section
variable{prog:Program}{w:World}{A:Around}{E:Value->Shared->Prop}{s:Shared}
theorem none_dict{a:Addr}{Q:Value->Shared->Prop}(d:s.TypeIs (.ref a) "dict")(e:A.units<cLine)(h:Q (.bool false) s):wpAny (model prog w) A (richCompare .Eq .none (.ref a)) Q E s:=by
 show SeqAt.rc_eq_decline_or (k:=false) rfl d (by decide) PySem.F.sub_dict_NoneType YO PySem.F.slot_dict_eq_refl
  (λ_ c=>call_gives YO rfl PySem.F.entry_NoneType_eq (PySem.F.args_NoneType_eq_2 _ _) (SeqAt.NoneType___eq___none_ref_0 a) c) (λf c=>?_) (λ_ c=>Y0 (rfl:isSame .none (.ref a)=pure false) c) (.inr e) h
 show wpAny_call_entry PySem.F.slot_dict_eq_refl d PySem.F.entry_dict_eq ?_ (PySem.F.args_dict_eq_2 _ _);show wpAny _ _ (Builtin.Dict.dictSlotArgs "__eq__" ⟨[.ref a,.none],[]⟩>>=_) _ _ s;show yr ?_;unfold Builtin.Dict.dictSlotArgs;show yr (wpAny_notOrdered_dict d ?_);show wpAny _ _ (pure (Value.ref a,Value.none)) _ _ s;show yE ?_;show yr (wpAny_isInstance (T:="NoneType") (b:=false) rfl PySem.F.sub_NoneType_dict ?_);simp only[Bool.not_false,Xl];show yr (wpAny_rule (yE ⟨_,rfl,c⟩))
theorem none_own{K:yf}{x C:Addr}{ox:Obj}{od:Option Obj}{Q:Value->Shared->Prop}(j:A.units<cLine)(X:K.In s.heap)(I:PySem.W.InstAt s.heap x ox C od)(g:OEq K C)(i:PySem.W.mroIn K C (.type "NoneType")=some false)
  (h:Q (.bool false) s):wpAny (model prog w) A (richCompare .Eq .none (.ref x)) Q E s:=by
 have l:wpAny (model prog w) A (tryCompare .none "__eq__" (.ref x)) (λr a=>r=none/\a=s) E s:=by
  unfold tryCompare;show yr ?_;simp only[callSpecialIfBound?,bindSpecialIfBound?];show YN (yr (yr ?_));show yr (Y0 (rfl:typeOf .none=pure (.type "NoneType")) ?_);show Y0 YO.lookup ?_;show yr (kh (wpAny_ite ?_))
  have d:wpAny (model prog w) A (call (.builtin "NoneType.__eq__") ([.none]++[.ref x])>>=λv=>pure (some v)) (λr a=>wpAny (model prog w) A (match r with | some .notImplemented | none=>pure none | some v=>pure (some v)) (λr a=>r=none/\a=s) E a) E s:=
   yr (call_gives YO rfl PySem.F.entry_NoneType_eq (PySem.F.args_NoneType_eq_2 _ _) (SeqAt.NoneType___eq___none_ref_0 x) (yE (yE ⟨rfl,rfl⟩)))
  split
  .show yr (Y0 (YO.bind .none) (yE d))
  .show wpAny_tryCatch (yr (Y0 (YO.bind .none) (yE d)))
 have m:wpAny (model prog w) A (tryCompare (.ref x) "__eq__" .none) (λr a=>r=none/\a=s) E s:=by
  unfold tryCompare;show yr ?_;simp only[callSpecialIfBound?,bindSpecialIfBound?];show YN (yr (yr (yr (I.type.here ((YU X g.eq).here ?_)))));show yr (kh (wpAny_ite ?_));have b:=PySem.F.slot_object_eq.bind (.ref x)
  have c:∀{f:Value->Shared->Prop},f .notImplemented s->wpAny (model prog w) A (call (.builtin "object.__eq__") [.ref x,.none]) f E s:=λ{f} q=>by
   show XB (xy PySem.F.slot_object_eq.plain PySem.F.entry_object_eq (@PySem.W.check_slot (model prog w) _ _ s "object.__eq__" "object" "__eq__" (.ref x) [.none] [] _ (by room) (by room) (I.type.andThen (xE X g.ob)) (PySem.F.args_object_eq_2 _ _) ?_));show yr (yE (yr (Y0 (rfl:isSame (.ref x) .none=pure false) ?_)));show yE q
  have d:wpAny (model prog w) A (call (.builtin "object.__eq__") ([.ref x]++[.none])>>=λv=>pure (some v)) (λr a=>wpAny (model prog w) A (match r with | some .notImplemented | none=>pure none | some v=>pure (some v)) (λr a=>r=none/\a=s) E a) E s:=
   yr (c (yE (yE ⟨rfl,rfl⟩)))
  split
  .show yr (Y0 b (yE d))
  .show wpAny_tryCatch (yr (Y0 b (yE d)))
 unfold richCompare;show YN (yr (wpAny_cRoomFor j ?_));show wpAny _ _ (typeOf .none>>=_) _ _ _;show yr (Y0 (rfl:typeOf .none=pure (.type "NoneType")) (yr (I.type.here ?_)));rw[yG (by rfl)];show yr ((xE X i).here ?_);simp only[Bool.false_eq_true,ky];show yr (Y8 l (λr a z=>?_) λ_ _ e=>e);obtain⟨rfl,rfl⟩:=z;simp only[Bool.not_false,Xl];show yr (Y8 m (λr a z=>?_) λ_ _ e=>e);obtain⟨rfl,rfl⟩:=z;show yr (wpAny_rule (yr (Y0 (rfl:isSame .none (.ref x)=pure false) (yE h))))
end
def rNoneRef(K:yf):R2:=λx y H Q=>∃ a,x=.non/\y=.ref a/\((∃ xs,SqL K H a xs\/SqT K H a xs)\/(∃ kvs,H a=some (.dK kvs))\/∃ C dx fs,H a=some (.ins C dx fs)/\OEq K C/\PySem.W.mroIn K C (.type "NoneType")=some false)/\Q (.bl false) H
def qgN(K:yf):R2:=λx y H Q=>qhS K x y H Q\/rNoneRef K x y H Q
theorem jX{X:Cx}{K:yf}(e:X.K=K)(j:X.A.units+100<cLine):OpR X (compareOp .Eq) (qgN K):=by
 intro pins s σ H x y u v Q I f g h;rcases h with h | ⟨a,rfl,rfl,h,q⟩
 .show k_eqW e j pins s σ H x y u v Q I f g h
 .subst e;cases f;cases g;have b:EP X pins σ Q (.bool false) s:=⟨.bl false,H,I,rfl,q⟩;rcases h with⟨xs,hl | hl⟩ | ⟨kvs,c⟩ | ⟨C,dx,fs,c,l,i⟩
  .obtain⟨its,r,pl,_⟩:=I.list hl;show SeqAt.RcAt.none_list pl.isList (by lk) _ _ _ _ b
  .obtain⟨its,r,pl,_⟩:=I.tuple hl;show SeqAt.RcAt.none_tuple pl (by lk) _ _ _ _ b
  .obtain⟨_,_,vs,_,d⟩:=(show ObjOk X.prog X.w H s.heap a (.dK kvs) from I.hok a _ c);show none_dict d.typeIs (by lk) b
  .obtain⟨m,O,_⟩:=qbl I.hok c;obtain⟨od,J,_⟩:=O.look;show none_own (by lk) I.kIn J l i b
def XL(K:yf)(C:Addr)(d:List Value):Prop:=∃ nm l N bs a sn b c col e f g h i j,K.lookup C=some (excClassObj nm l C N bs d a sn b c col e f g h i j "ValueError.__new__")
section
variable{K:yf}{C D:Addr}{bm bn:List Value}
end
end L2
namespace HT
open PySem PySem.Spec PyProof.Rows
section
variable{prog:Program}{w:World}{A:Around}{E:Value->Shared->Prop}{s:Shared}
end
end HT
namespace L2
open PySem PySem.Spec PyProof.Rows
variable{H:Hp}{X:Cx}{es:List Expr}{pos:Pos}{σ:St}
def tRev(K:yf)(d:TE)(e:TO):TE:=fun σ H Q=>d σ H λx c=>e σ c λo b=>o=some (-1)/\∃ a y z,x=.ref a/\SqT K b a [y,z]/\∀ p,b p=none->Q (.ref p) (upd b p (.tup [z,y]))
theorem vRev{K:yf}{c:TE}{d:TO}{Q:VK}(h:c σ H λx e=>d σ e λo b=>o=some (-1)/\∃ a y z,x=.ref a/\SqT K b a [y,z]/\∀ p,b p=none->Q (.ref p) (upd b p (.tup [z,y]))):tRev K c d σ H Q:=h
section
variable{X:Cx}{K:yf}{e st:Expr}{te:TE}{ts:TO}{p2 pos:Pos}
def rTupleU(K:yf):List V->Hp->VK->Prop:=λxs H Q=>∃ p ys,xs=[.ref p]/\((SqL K H p ys/\∀ l,H l=none->Q (.ref l) (upd H l (.tup ys)))\/(SqT K H p ys/\Q (.ref p) H))
theorem qey(a:X.K=K):qag X (.type "tuple") (rTupleU K):=by subst a;show call_tuple_of
end
theorem Inv.turnedL{a:List (Addr×Obj)}{s:Shared}{h':Heap}{t':Nat}{fp:LI}(I:Inv X a σ H s)(k:∀ b o,b∉fp->s.heap.get? b=some o->h'.get? b=some o)(f:∀ b∈fp,qdN X a H b):Inv X a σ H { s with heap:=h',toks:=t' }:=by
 have d:∀ b u,H b=some u->b∉fp:=λb u e z=>by rw[(f b z).1] at e;cases e
 have l:X.env.locals∉fp:=λz=>(f _ z).2.1 rfl;show I.step (g':=s.gens) (d':=s.drawn) (ch:=fp) (λb hb=>?_) (λb o _ _ hc e _=>k b o hc e) (λb o _ _ hc e _=>⟨o.slots,k b o hc e⟩) (λ_ _ _ _ n=>n)
  (λb o hc e=>⟨o,k b o hc e⟩) (λ_ _ e=>e) (λ_ _ _ e=>e) (λb y e=>⟨#[],by rw[e];simp⟩) (λm p=>?_) (λb u e=>?_) I.bare
 .obtain⟨w,g,x,h,i,j⟩:=f b hb;show⟨h,g,i,j⟩
 .obtain⟨o,es,ep,t,r⟩:=p;show⟨o,es,ep,k _ o l t,r⟩
 .show(I.hok b u e).stay (λc v hc q=>k c v ?_ q) (λ_ q=>q) λ_ _ q=>q;rcases hc with z | z
  .rw [z];show d b u e
  .show d c _ z
def Ite(K:yf)(a:Addr):It:=
 ⟨λi H=>∃ xs x,SqL K H a xs/\xs[i]?=some x,λi H x b=>∃ t y,x=.ref t/\H t=none/\b=upd H t (.tup [.int i,y])/\∀ xs,SqL K H a xs->xs[i]?=some y,λi H=>∃ xs,SqL K H a xs/\xs.length<=i⟩
theorem qdt{h:Heap}{o v:Obj}{b:Addr}(e:(h.push o).get? b=some v)(ne:b≠h.objs.size):h.get? b=some v:=(Heap.get?_push_cases e).elim (λz=>absurd z.1 ne) λz=>z
theorem turn_enum{P:Program}{w:World}{K:yf}{x1}(a e it:Addr)(q:e≠it):Turn P w K (.Tuple es x1 pos) (Ite K a) [e,it] e (λi h=>(∃ g,IsEnum h e it i g)/\h.IsListIter it a i) where
 mem:=by simp
 obj:=λi h st b hb=>by
  obtain⟨⟨g,m⟩,o,D,c,d⟩:=st;simp only[yN,Yq,xX] at hb;rcases hb with rfl | rfl
  .show⟨_,m,λv z=>by
    have T:Data.fields _=Data.cell v:=z;cases T⟩
  .show⟨o,D,λv z=>by rw[d] at z;cases z⟩
 keep:=λi h h' st k=>by
  obtain⟨⟨g,m⟩,j⟩:=st;show⟨⟨g,k e (by simp) _ m⟩,j.at λo x=>k it (by simp) o x⟩
 item:=by
  intro X G hw F hc i l s σ H E I L st M;subst G hw F;obtain⟨⟨g,m⟩,j⟩:=st;obtain⟨xs,x,B,N⟩:=M;obtain⟨O,S,p,C⟩:=I.list B;obtain⟨u,hu,ru⟩:=S.get N;show wpAny_pyNext_enum_item m j p.isList (x:=u) (by simpa using hu) q λh' ho t hT hsz hk=>?_;show⟨_,rfl,wpAny_letOwnedTupleGo_enum ho λU J n=>?_⟩;have fre:H s.heap.objs.size=none:=I.hok.fresh (yg _);have A:s.heap.objs.size≠e:=Xk (yR m);have R:s.heap.objs.size≠it:=by obtain⟨o,D,_⟩:=j;show Xk (yR D)
  have W:Inv X l σ (upd H s.heap.objs.size (.tup [.int i,x])) { s with heap:=s.heap.push { cls:=.type "tuple",data:=.seq #[.int i s.toks,u] },toks:=s.toks+1 }:=
   I.laid (λb u e=>yz _ e) (yg _) ⟨wqqd,[.int i s.toks,u],.cons ⟨_,rfl⟩ (.cons ru .nil),⟨_,yY _ rfl,rfl,_,rfl⟩⟩
  have r:∀ b∈[e,it],qdN X l (upd H s.heap.objs.size (.tup [.int i,x])) b:=λb hb=>by
   obtain⟨f0,f⟩:=L b hb;show⟨?_,f⟩;rw[qj]
   .show f0
   .simp only[yN,Yq,xX] at hb;rcases hb with rfl | rfl
    .show A.symm
    .show R.symm
  have kk:∀ b o,b∉[e,it]->(s.heap.push { cls:=.type "tuple",data:=.seq #[.int i s.toks,u] }).get? b=some o->U.get? b=some o:=λb o hb z=>by
   simp only[yN,Yq,xX,not_or] at hb;by_cases C:b=s.heap.objs.size
   .subst C;rw[yY _ rfl] at z;cases z;show(n.2 _ A).trans hT
   .show(n.2 b hb.1).trans (hk b o hb.1 hb.2 (qdt z C))
  have Y:=W.turnedL (h':=U) (t':=s.toks+1) (fp:=[e,it]) kk r;show⟨.ref s.heap.objs.size,_,Y,rfl,⟨_,x,rfl,fre,rfl,λys hy=>by rw[I.list_inj hy B];show N⟩,⟨⟨_,by simpa using J⟩,t.at λo y=>(n.2 it q.symm).trans y⟩,λb hb=>(r b hb).1⟩
 done:=by
  intro X G hw F hc i l s σ H E I L st M;subst G hw F;obtain⟨⟨g,m⟩,j⟩:=st;obtain⟨xs,B,N⟩:=M;obtain⟨O,S,p,C⟩:=I.list B;have hl:=S.length;show wpAny_pyNext_enum_end (I.ok.hd hc) m j p.isList (Xv (by simp;lk)) λh' Z=>⟨rfl,I.turnedL (t':=s.toks) (fp:=[e,it]) (λb o hb z=>Z b o (λT=>hb (by simp[T])) z) L⟩
 self:=λ_ _ _ _ _ st h=>by
  obtain⟨⟨g,m⟩,_⟩:=st;show wpAny_pyIter_enum m h
theorem boot_enumerate:bootBuiltins "enumerate"=some (.type "enumerate"):=by room
def qhh(K:yf)(c:TA):TI:=fun σ H R=>c σ H λvs b=>∃ a xs,vs=[.ref a]/\SqL K b a xs/\R (Ite K a) b
theorem qfi{K:yf}{a:Expr}{i:TA}{x1}{A p:Pos}(l:X.K=K)(n:Gl X "enumerate")(u:X.mg "enumerate"=none)(m:PA X [a] i)(w:starEach [a] X.env=[(false,eval a X.env)]:=by rfl):PI X (.Tuple es x1 A) (.Call (.Name "enumerate" p) [a] [] pos) (qhh K i):=by
 subst l;intro d s σ H R I h;show Call_ (qbO I n u boot_enumerate (YV (thn (m pos d s σ H _ I h) λus f ⟨vs,j,c,z,y⟩=>?_) w rfl));obtain⟨a,xs,e,v,q⟩:=y;subst e
 cases z with
 | cons r rr =>
  cases rr;cases r;obtain⟨x,C,pl,B⟩:=c.list v;show call_enumerate_list pl.isList λh' g o hsz t=>wpAny_pyIter_enum g ?_;show⟨_,[f.heap.objs.size+1,f.heap.objs.size],_,_,j,rfl,c.kept (t':=f.toks) t,turn_enum a _ _ (Nat.succ_ne_self _),⟨⟨_,g⟩,o⟩,λb hb=>?_,q⟩;simp only[yN,Yq,xX] at hb;rcases hb with rfl | rfl
  .show c.fpOk (xm _) (c.hok.fresh (xm _))
  .show c.fpOk (yg _) (c.hok.fresh (yg _))
theorem qez{K:yf}{a:Addr}{xs:List V}{g:TG}{n:TS}{D:Ends}(b:Nat->St->Hp->Prop)(o:b 0 σ H)(hl:∀ i σ H,i<=xs.length->b i σ H->SqL K H a xs)
  (u:∀ i x t σ H,xs[i]?=some x->H t=none->b i σ H->g (.ref t) σ (upd H t (.tup [.int i,x])) λf j=>n { D with nx:=b (i+1),ct:=b (i+1),bk:=D.nx } f j) (r:∀ σ H,b xs.length σ H->D.nx σ H) :
  ∃ W:Nat->Nat->St->Hp->Prop,(∃ m,W 0 m σ H)/\∀ i m σ H,W i m σ H ->
   ((Ite K a).stop i H/\D.nx σ H)\/((Ite K a).go i H/\∃ N:St->Hp->Prop,(∀ d c,N d c->∃ l,l<m/\W (i+1) l d c)/\∀ x c,(Ite K a).yld i H x c->g x σ c λf j=>n { D with nx:=N,ct:=N,bk:=D.nx } f j):=by
 show⟨λi m σ H=>m=xs.length-i/\i<=xs.length/\b i σ H,⟨xs.length,by simp,YM _,o⟩,?_⟩;rintro i m σ H ⟨rfl,s,p⟩;have q:=hl i σ H s p;by_cases h:i<xs.length
 .show .inr ⟨⟨xs,xs[i],q,by simp[h]⟩,b (i+1),λd c z=>⟨xs.length-(i+1),by lk,rfl,h,z⟩,λx c y=>?_⟩;obtain⟨t,v,rfl,w,rfl,y⟩:=y;show u i v t σ _ (y xs q) w p
 .have e:i=xs.length:=by lk
  subst e;show .inl ⟨⟨xs,q,yg _⟩,r σ H p⟩
theorem vEnum{K:yf}{b:TA}{R:It->Hp->Prop}(h:b σ H λvs c=>∃ a xs,vs=[.ref a]/\SqL K c a xs/\R (Ite K a) c):qhh K b σ H R:=h
section
variable{X:Cx}
end
end L2
namespace L2
open PySem PySem.Spec PyProof.Rows PySem.Builtin PySem.Builtin.Str
theorem lt99{a c:Nat}(h:a+100<c):a+1<c:=by lk
theorem vDGet2{e ty f:TE}{b:St}{H:Hp}{Q:VK}(h:e b H λx c=>∃ a,x=.ref a/\IsD c a/\ty b c λy g=>f b g λz d=>∃ o,DGet d a y o/\Q (o.getD z) d):qgj e ty f b H Q:=h
end L2
namespace L2
open PySem PySem.Spec PyProof.Rows
theorem eqV_strD(a b:Str):eqV (.str a) (.str b)=decide (a=b):=by
 have e:eqV (.str a) (.str b)=(a==b):=by simp[eqV]
 rw[e,yW,Yo,yD]
theorem qdu:∀(ys:LS) (y:Str) (m:Nat) (b:m<ys.length),m<ys.idxOf y->ys[m]≠y
 | [],_,_,b,_=>by simp at b
 | a::r,y,m,b,h=>by
  rw[List.idxOf_cons] at h;by_cases e:a=y
  .subst e;simp at h
  .have hb:(a==y)=false:=YA.mpr e;rw[hb] at h
   cases m with
   | zero=>show e
   | succ k =>
    have c:k<r.idxOf y:=by
     have h:k+1<r.idxOf y+1:=h;lk
    show qdu r y k (by simpa using b) c
section
variable{X:Cx}{K:yf}
def rIndex(K:yf):V->List V->Hp->VK->Prop:=λx vs H Q=>∃(p:Addr) (ys:LS) (y:Str),x=.ref p/\vs=[.str y]/\SqL K H p (ys.map V.str)/\y∈ys/\Q (.int (ys.idxOf y:Nat)) H
theorem k_index(B:X.K=K):MtR X "list.index" (rIndex K):=by
 subst B;intro z s O H x vs v us Q I L J h;obtain⟨p,ys,y,rfl,rfl,C,E,q⟩:=h;cases L;obtain⟨u,rfl,G⟩:=J.one;obtain⟨a,r,pl,t⟩:=I.list C;obtain⟨⟨cls,A,data,M⟩,o,hc,n,l⟩:=id pl.isList;simp only at hc l;subst hc l;have fs:(ys.map V.str).all qaM=true:=by rw[kD];show Yy.mpr λ_ _=>rfl
 have b:(ys.map V.str).length=a.length:=r.length;rw[ya] at b;have d:ys.idxOf y<ys.length:=List.idxOf_lt_length_iff.mpr E
 have at_:∀(m:Nat) (i:m<ys.length) (c:m<a.toArray.size),eqU (.str y) a.toArray[m]=decide (ys[m]=y):=λm i c=>by
  have g:(ys.map V.str)[m]?=some (.str ys[m]):=by rw[yd,yb i];rfl
  obtain⟨w,hw,j⟩:=r.get g
  have e:a.toArray[m]=w:=by
   have:a.toArray[m]?=some w:=by simpa using hw
   rw[Array.getElem?_eq_getElem c] at this;show yl this
  rw[e,qe9 j rfl,eqV_strD]
 have N:ys.length<=sizeLine:=by rw[ya] at t;show t
 have D:sizeLine<2 ^ 63-1:=by decide
 show XX PySem.F.slot_list_index ⟨_,o,rfl⟩ PySem.F.entry_list_index (PySem.F.args_list_index_2 _ _)
  (SeqAt.list_indexAt p a.toArray n A M u (eqU (.str y)) (ys.idxOf y) (by simpa [<- b] using d) (by lk) ?_ ?_) ⟨o,λw hw=>qaw G rfl r fs w (by simpa using hw),.int _,H,I.tok _,⟨_,rfl⟩,q⟩
 .rw [at_ _ d];show yw (Yw d)
 .intro m i f;rw[at_ m (by lk)];show yk λe=>qdu ys y m (by lk) f e
end
theorem cutV_take(xs:List V)(k:Nat):qdO xs none (some (k:Int))=xs.take k:=by
 unfold qdO;rw[HT.sIx_none,HT.sIx_nat,List.drop_zero,Nat.sub_zero];by_cases h:k<=xs.length
 .rw [xY h]
 .rw [ki (by lk),YI (yg _),YI (by lk)]
theorem qdv(xs:List V)(k:Nat):qdO xs (some (k:Int)) none=xs.drop k:=by
 unfold qdO;rw[HT.sIx_none,HT.sIx_nat];by_cases h:k<=xs.length
 .rw [xY h,YI (by rw[XC];lk)]
 .rw [ki (by lk),List.drop_length,List.drop_of_length_le (by lk)];simp
section
variable{X:Cx}{K:yf}
def rNotT(K:yf):R2:=λx y H Q=>∃ p xs e n,y=.ref p/\SqT K H p xs/\n<=60/\(∀ z∈xs,EqD K H n z x (e z))/\Q (.bl (!xs.any e)) H
theorem k_notinT(d:X.K=K)(m:X.A.units+100<cLine):OpR X (compareOp .NotIn) (rNotT K):=by
 subst d;intro a s t H x y u v Q I i j h;obtain⟨p,xs,e,n,rfl,hl,l,f,q⟩:=h;cases j;obtain⟨g,r,pl,o⟩:=I.tuple hl;obtain⟨b,h1,c⟩:=qfh (A:=X.A.in1) I r i (by show X.A.units+1+n<cLine;lk) f;show SeqAt.notIn_tupleAt b pl h1 (by rw[c];show⟨.bl _,H,I,rfl,q⟩)
end
end L2
namespace HT
open PySem PySem.Spec PyProof.Rows
section
variable{prog:Program}{w:World}{A:Around}{E:Value->Shared->Prop}{s:Shared}
end
end HT
namespace L2
open PySem PySem.Spec PyProof.Rows
def tStep(K:yf)(e:TE)(f:TO):TE:=λc H Q=>e c H λx d=>f c d λo b=>∃ a y z,x=.ref a/\SqT K b a [y,z]/\((o=some (-1)/\∀ p,b p=none->Q (.ref p) (upd b p (.tup [z,y])))\/(o=some 1/\Q (.ref a) b))
theorem vStep{K:yf}{d:TE}{e:TO}{c:St}{H:Hp}{Q:VK}(h:d c H λx f=>e c f λo b=>∃ a y z,x=.ref a/\SqT K b a [y,z]/\((o=some (-1)/\∀ p,b p=none->Q (.ref p) (upd b p (.tup [z,y])))\/(o=some 1/\Q (.ref a) b))):tStep K d e c H Q:=h
section
variable{X:Cx}{K:yf}{e st:Expr}{te:TE}{ts:TO}{p2 pos:Pos}
end
def FG(K:yf)(nm:Str)(st:Stmt):Prop:=∃ f a,PySem.W.nsIn K mainGlobals nm=some (some (.ref f))/\Fun K nm nm st f a
def FM(K:yf)(C:Addr)(m b:Str)(st:Stmt):Prop:=∃ f a,PySem.W.findIn K (.ref C) m=some (some (.ref f))/\PySem.W.isFn K (.ref f)=true/\Fun K m b st f a
structure XQ(K:yf)(C:Addr):Prop where
 xa:PySem.W.findIn K (.ref C) "__getattribute__"=some (some (.builtin "BaseException.__getattribute__"))
 xb:PySem.W.findIn K (.ref C) "__getattr__"=some none
 xd:PySem.W.mroIn K C (.type "BaseException")=some true
 xe:PySem.W.mroIn K C (.type "object")=some true
 xf:PySem.W.hasDictIn K C=true
 xg:PySem.W.findIn K (.ref C) "__class__"=some (some (.builtin "object.__class__"))
 xh:PySem.W.findIn K (.ref C) "__setattr__"=some (some (.builtin "object.__setattr__"))
 p:PySem.W.keepIn K (.ref C)=true
section
variable{P:Program}{w:World}{K:yf}{mg:Str->Option Value}{base h:Heap}{CX:CXT}{k:Nat}{sp:Sp}{st:Stmt}{f:Addr}{fd:FuncData}{ps:LS}{nm m ql x:Str}{C:Addr}
theorem lN0{P:List Value->Prop}(h:P []):∀ us:List Value,us.length=0->P us:=λus e=>by rw[List.eq_nil_of_length_eq_zero e];show h
theorem lNs{P:List Value->Prop}{n:Nat}(h:∀ a r,r.length=n->P (a::r)):∀ us:List Value,us.length=n+1->P us:=λus e=>by
 cases us with
 |nil=>cases e
 |cons a r=>show h a r (Nat.succ.inj e)
theorem lN1{P:List Value->Prop}(h:∀ a,P [a]):∀ us:List Value,us.length=1->P us:=lNs λa=>lN0 (h a)
theorem lN2{P:List Value->Prop}(h:∀ a b,P [a,b]):∀ us:List Value,us.length=2->P us:=lNs λa=>lN1 (h a)
theorem lN3{P:List Value->Prop}(h:∀ a b c,P [a,b,c]):∀ us:List Value,us.length=3->P us:=lNs λa=>lN2 (h a)
theorem lN4{P:List Value->Prop}(h:∀ a b c d,P [a,b,c,d]):∀ us:List Value,us.length=4->P us:=lNs λa=>lN3 (h a)
theorem lN5{P:List Value->Prop}(h:∀ a b c d e,P [a,b,c,d,e]):∀ us:List Value,us.length=5->P us:=lNs λa=>lN4 (h a)
abbrev BA(x ql:Str)(st:Stmt)(ps:LS):Prop:=∀(kV b d:Value) (c:Option Addr) (a ct:Value) (us:List Value),us.length=ps.length->bindArgs (PySem.W.fnOf x ql (qaN st) (zC st) (qf st) .none kV b d c a ct) ⟨us,[]⟩=pure (ps.zip us)
theorem fg_mk(X:K.In h)(G:h.Ns mainGlobals mg)(a:PySem.W.nsIn K mainGlobals nm=some (some (.ref f)))(F:Fun K nm nm st f fd)(o:FnOk P w K mg base CX k f fd ps sp)
  (hb:BA nm nm st ps:=by first | (show λ_ _ _ _ _ _=>lN1 λ_=>rfl) | (show λ_ _ _ _ _ _=>lN2 λ_ _=>rfl) | (show λ_ _ _ _ _ _=>lN3 λ_ _ _=>rfl) | (show λ_ _ _ _ _ _=>lN4 λ_ _ _ _=>rfl)) :
  DefOk P w K mg base CX k nm ps sp:=⟨_,_,o,PySem.W.mg_of X G a,F.kp,F.binds hb⟩
theorem fm_mk(b:Cls K C)(a:PySem.W.findIn K (.ref C) m=some (some (.ref f)))(n:PySem.W.isFn K (.ref f)=true)(F:Fun K m ql st f fd)(o:FnOk P w K mg base CX k f fd ps sp)
  (hb:BA m ql st ps:=by first | (show λ_ _ _ _ _ _=>lN1 λ_=>rfl) | (show λ_ _ _ _ _ _=>lN2 λ_ _=>rfl) | (show λ_ _ _ _ _ _=>lN3 λ_ _ _=>rfl) | (show λ_ _ _ _ _ _=>lN4 λ_ _ _ _=>rfl)) :
  MethOk P w K mg base CX k C m ps sp:=⟨⟨_,_,o,⟨a,n,F.kp⟩,F.binds hb⟩,b⟩
theorem fw_mk(X:K.In h)(G:h.Ns mainGlobals mg)(c:PySem.W.nsIn K mainGlobals x=some (some (.ref C)))(b:PySem.W.makesIn K C=true)(d:PySem.W.keepIn K (.ref C)=true)(a:PySem.W.findIn K (.ref C) "__init__"=some (some (.ref f)))(n:PySem.W.isFn K (.ref f)=true)(F:Fun K "__init__" ql st f fd)(o:FnOk P w K mg base CX k f fd ps sp)
  (hb:BA "__init__" ql st ps:=by first | (show λ_ _ _ _ _ _=>lN1 λ_=>rfl) | (show λ_ _ _ _ _ _=>lN2 λ_ _=>rfl) | (show λ_ _ _ _ _ _=>lN3 λ_ _ _=>rfl)) :
  MakeOk P w K mg base CX k C x ps sp:=⟨⟨_,_,o,⟨b,a,n,d⟩,F.binds hb⟩,PySem.W.mg_of X G c⟩
end
end L2
namespace HT
open PySem PySem.Spec PyProof.Rows
section
variable{prog:Program}{w:World}{A:Around}{E:Value->Shared->Prop}{s:Shared}
end
end HT
namespace L2
open PySem PySem.Spec PyProof.Rows
variable{H:Hp}{R:It->Hp->Prop}{es:List Expr}{pos:Pos}{te:TE}{σ:St}
section
variable{X:Cx}{K:yf}{pos p:Pos}{x:Str}
end
section
variable{X:Cx}{K:yf}{e lo st:Expr}{te:TE}{tl ts:TO}{p2 pos:Pos}
def qhT(K:yf)(te:TE):TI:=fun σ H R=>te σ H λv b=>∃ a xs,v=.ref a/\SqL K b a xs/\R (Itl K a) b
theorem qf9{K:yf}(h:te σ H λv b=>∃ a xs,v=.ref a/\SqL K b a xs/\R (Itl K a) b):qhT K te σ H R:=h
theorem qeA{t:Expr}(j:X.K=K)(l:PE X e te):PI X t e (qhT K te):=by
 subst j;intro c s σ H R I h;show thn (l c s σ H _ I h) λv d ⟨y,g,f,r,a,xs,i,m,q⟩=>?_;subst i;cases r
 have fp:∀ b∈[d.heap.objs.size],qdN X c g b:=λb hb=>by
  have e:b=d.heap.objs.size:=by simpa using hb
  subst e;show f.fpOk (yg _) (f.hok.fresh (yg _))
 obtain⟨n,w,p,u⟩:=f.list m;show X3 p.isList ⟨d.heap.objs.size,[d.heap.objs.size],_,_,g,rfl,f.kept (t':=d.toks) λb o e=>yz _ e,qc8 a _,⟨_,yY _ rfl,rfl,rfl⟩,fp,q⟩
end
def Itz(K:yf)(a b:Addr):It:=
 ⟨λi H=>∃ xs ys x y,SqL K H a xs/\SqL K H b ys/\xs[i]?=some x/\ys[i]?=some y,λi H v c=>∃ t x y,v=.ref t/\H t=none/\c=upd H t (.tup [x,y])/\(∀ xs,SqL K H a xs->xs[i]?=some x)/\∀ ys,SqL K H b ys->ys[i]?=some y,λi H=>∃ xs ys,SqL K H a xs/\SqL K H b ys/\(xs.length<=i\/ys.length<=i)⟩
def tnZ(z TI TO c d a b:Addr)(i:Nat)(h:Heap):Prop:=IsZip h z TI TO .none/\IsPair h TI (.ref c) (.ref d)/\(∃ u v,IsPair h TO u v)/\h.IsListIter c a i/\h.IsListIter d b i
theorem turn_zip{P:Program}{w:World}{K:yf}{x1}(a b z TI TO q r:Addr)(D:ZipApart z TI TO q r a b):Turn P w K (.Tuple es x1 pos) (Itz K a b) [z,TI,TO,q,r] z (tnZ z TI TO q r a b) where
 mem:=by simp
 obj:=λi h st c hc=>by
  obtain⟨l,d,⟨u,v,g⟩,⟨o1,e1,c1,d1⟩,⟨o2,e2,c2,d2⟩⟩:=st;simp only[yN,Yq,xX] at hc;rcases hc with rfl | rfl | rfl | rfl | rfl
  .show⟨_,l,λv z=>by have G:Data.fields _=Data.cell v:=z;cases G⟩
  .show⟨_,d,λv z=>by have G:Data.seq _ _=Data.cell v:=z;cases G⟩
  .show⟨_,g,λv z=>by have G:Data.seq _ _=Data.cell v:=z;cases G⟩
  .show⟨o1,e1,λv z=>by rw[d1] at z;cases z⟩
  .show⟨o2,e2,λv z=>by rw[d2] at z;cases z⟩
 keep:=λi h h' st k=>by
  obtain⟨l,d,⟨u,v,g⟩,h1,A⟩:=st;show⟨k z (by simp) _ l,k TI (by simp) _ d,⟨u,v,k TO (by simp) _ g⟩,h1.at λo x=>k q (by simp) o x,A.at λo x=>k r (by simp) o x⟩
 item:=by
  intro X T hw S hc i m s σ H E I U st W;subst T hw S;obtain⟨l,d,⟨u,v,g⟩,h1,A⟩:=st;obtain⟨xs,ys,x,y,L,n,hx,hy⟩:=W;obtain⟨ae,rv,p,_⟩:=I.list L;obtain⟨F,t,p2,_⟩:=I.list n;obtain⟨M,Y,ah⟩:=rv.get hx;obtain⟨N,Z,ai⟩:=t.get hy;show wpAny_pyNext_zip_item D l d g h1 A p.isList p2.isList (x:=M) (y:=N) (by simpa using Y) (by simpa using Z) λh' ac B O R hT hsz J=>?_;show⟨_,rfl,wpAny_letOwnedTupleGo_zip ac λh3 ad j=>?_⟩;have fre:H s.heap.objs.size=none:=I.hok.fresh (yg _);have lt:∀{c o},s.heap.get? c=some o->s.heap.objs.size≠c:=λe=>Xk (yR e);have nz:=lt l;have af:=lt d;have ag:=lt g;have n1:s.heap.objs.size≠q:=by obtain⟨_,e,_⟩:=h1;show lt e
  have n2:s.heap.objs.size≠r:=by obtain⟨_,e,_⟩:=A;show lt e
  have I1:Inv X m σ (upd H s.heap.objs.size (.tup [x,y])) { s with heap:=s.heap.push { cls:=.type "tuple",data:=.seq #[M,N] },toks:=s.toks }:=
   I.laid (λb u e=>yz _ e) (yg _) ⟨wqqd,[M,N],.cons ah (.cons ai .nil),⟨_,yY _ rfl,rfl,_,rfl⟩⟩
  have C:∀ c∈[z,TI,TO,q,r],qdN X m (upd H s.heap.objs.size (.tup [x,y])) c:=λc hc=>by
   obtain⟨f0,f⟩:=U c hc;show⟨?_,f⟩;rw[qj]
   .show f0
   .simp only[yN,Yq,xX] at hc;rcases hc with rfl | rfl | rfl | rfl | rfl
    .show nz.symm
    .show af.symm
    .show ag.symm
    .show n1.symm
    .show n2.symm
  have kk:∀ c o,c∉[z,TI,TO,q,r]->(s.heap.push { cls:=.type "tuple",data:=.seq #[M,N] }).get? c=some o->h3.get? c=some o:=λc o hc e=>by
   simp only[yN,Yq,xX,not_or] at hc;show j.extBut _ _ hc.1 ?_;by_cases l:c=s.heap.objs.size
   .subst l;rw[yY _ rfl] at e;cases e;show hT
   .show J c o hc.1 hc.2.2.1 hc.2.2.2.1 hc.2.2.2.2 (qdt e l)
  have I2:=I1.turnedL (h':=h3) (t':=s.toks) (fp:=[z,TI,TO,q,r]) kk C;show⟨.ref s.heap.objs.size,_,I2,rfl,⟨_,x,y,rfl,fre,rfl,λaj aa=>by rw[I.list_inj aa L];show hx,λys' ab=>by rw[I.list_inj ab n];show hy⟩,⟨ad,?_,⟨_,_,j.extBut _ _ D.TOz B⟩,O.extBut j.extBut D.i1z,R.extBut j.extBut D.i2z⟩,λc hc=>(C c hc).1⟩;show j.extBut _ _ D.TIz (J _ _ D.TIz D.TITO D.TIi1 D.TIi2 d)
 done:=by
  intro X T hw S hc i m s σ H E I U st W;subst T hw S;obtain⟨l,d,⟨u,v,g⟩,h1,A⟩:=st;obtain⟨xs,ys,L,n,he⟩:=W;obtain⟨ae,rv,p,_⟩:=I.list L;obtain⟨F,t,p2,_⟩:=I.list n;have l1:=rv.length;have l2:=t.length;show wpAny_pyNext_zip_end (I.ok.hd hc) D l d g h1 A p.isList p2.isList (he.imp (λe=>Xv (by simp;lk)) λe=>Xv (by simp;lk)) λh' J=>⟨rfl,I.turnedL (t':=s.toks) (fp:=[z,TI,TO,q,r]) (λc o hc e=>?_) U⟩;simp only[yN,Yq,xX,not_or] at hc;show J c o hc.1 hc.2.2.1 hc.2.2.2.1 hc.2.2.2.2 e
 self:=λ_ _ _ _ _ st h=>wpAny_pyIter_zip st.1 h
theorem boot_zip:bootBuiltins "zip"=some (.type "zip"):=by room
def qhU(K:yf)(d:TA):TI:=fun σ H R=>d σ H λvs c=>∃ a b xs ys,vs=[.ref a,.ref b]/\SqL K c a xs/\SqL K c b ys/\R (Itz K a b) c
theorem vZip{K:yf}{c:TA}(h:c σ H λvs d=>∃ a b xs ys,vs=[.ref a,.ref b]/\SqL K d a xs/\SqL K d b ys/\R (Itz K a b) d):qhU K c σ H R:=h
theorem pi_zip{X:Cx}{K:yf}{a b:Expr}{y:TA}{x1}{O p:Pos}(A:X.K=K)(C:Gl X "zip")(E:X.mg "zip"=none)(B:PA X [a,b] y)(G:starEach [a,b] X.env=[(false,eval a X.env),(false,eval b X.env)]:=by rfl)(g:starEach [b] X.env=[(false,eval b X.env)]:=by rfl):PI X (.Tuple es x1 O) (.Call (.Name "zip" p) [a,b] [] pos) (qhU K y):=by
 subst A;intro i s σ H R I h;show Call_ (qbO I C E boot_zip (YV (thn (B pos i s σ H _ I h) λus f ⟨vs,z,d,M,L⟩=>?_) (by rw[G,g]) (by rw[g];rfl)));obtain⟨a,b,xs,ys,e,F,t,q⟩:=L;subst e
 cases M with
 | cons r rr =>
  cases rr with
  | cons r2 rr =>
   cases rr;cases r;cases r2;obtain⟨J,P,pl,_⟩:=d.list F;obtain⟨x,N,j,_⟩:=d.list t;have u:a<f.heap.objs.size:=by obtain⟨_,e,_⟩:=pl.isList;show yR e
   have v:b<f.heap.objs.size:=by obtain⟨_,e,_⟩:=j.isList;show yR e
   show call_zip_2 pl.isList j.isList λh' w l m n o hsz D=>wpAny_pyIter_zip w ?_;show⟨_,[f.heap.objs.size+4,f.heap.objs.size+2,f.heap.objs.size+3,f.heap.objs.size,f.heap.objs.size+1],_,_,z,rfl,d.kept (t':=f.toks) D,turn_zip a b _ _ _ _ _ (PySem.W.ktu_apart _ _ _ u v),⟨w,l,⟨_,_,m⟩,n,o⟩,λc hc=>?_,q⟩;simp only[yN,Yq,xX] at hc;rcases hc with rfl | rfl | rfl | rfl | rfl
   .show d.fpOk (xP _ _) (d.hok.fresh (xP _ _))
   .show d.fpOk (xP _ _) (d.hok.fresh (xP _ _))
   .show d.fpOk (xP _ _) (d.hok.fresh (xP _ _))
   .show d.fpOk (yg _) (d.hok.fresh (yg _))
   .show d.fpOk (xm _) (d.hok.fresh (xm _))
def qhV(K:yf)(te:TE)(d:TO):TE:=fun σ H Q=>te σ H λx c=>d σ c λo b=>o=some (-1)/\∃ a xs,x=.ref a/\SqL K b a xs/\∀ p,b p=none->Q (.ref p) (upd b p (.lst xs.reverse))
theorem vRvL{K:yf}{c:TO}{Q:VK}(h:te σ H λx d=>c σ d λo b=>o=some (-1)/\∃ a xs,x=.ref a/\SqL K b a xs/\∀ p,b p=none->Q (.ref p) (upd b p (.lst xs.reverse))):qhV K te c σ H Q:=h
theorem qeB:∀{xs:List V} {us:List Value},Vals xs us->Vals xs.reverse us.reverse
 | _,_,.nil=>.nil
 | _,_,.cons r t=>by
  rw[List.reverse_cons,List.reverse_cons];show(qeB t).append (.cons r .nil)
section
variable{X:Cx}{K:yf}{e st:Expr}{te:TE}{ts:TO}{p2 pos:Pos}
theorem pe_rvL(y:X.K=K)(z:PE X e te)(B:PO X (some st) ts):PE X (.Subscript e (.Slice none none (some st) p2) pos) (qhV K te ts):=by
 subst y;intro c s σ H Q I h;show Subscript_ (thn (z c s σ H _ I h) λv L ⟨x,l,n,J,G⟩=>?_);show wpAny_Slice ?_;rw[evalPart_none];show yE ?_;show yE ?_;show thn (B c L σ l _ n G) λj d ⟨o,m,p,pt,t,a,xs,u,C,q⟩=>?_;subst t u;cases J;have f:Inv X c σ m { d with heap:=d.heap.push { cls:=.type "slice",data:=.fields #[.none,.none,j] } }:=p.kept (t':=d.toks) λb F q=>yz _ q;obtain⟨E,r,i,D⟩:=f.list C;have g:=r.length;show wpAny (model X.prog X.w) X.A (subscriptTail e (.Slice none none (some st) p2) (.ref a) (.ref d.heap.objs.size)) (EP X c σ Q) X.xe { d with heap:=d.heap.push { cls:=.type "slice",data:=.fields #[.none,.none,j] } };show tail_any (ops:=[.ref a,.ref d.heap.objs.size]) i.isList.typeIs X1.lookup (wpAny_getItem_list_slice i.isList (Heap.IsSliceOf.new ..) .none .none pt (by decide) ?_ (by rw[yB]<;>lk)) (by with_unfolding_all rfl);rw[PySem.W.krv_pick];show⟨.ref _,_,f.laid (t':=d.toks) (o:=.lst xs.reverse) (λb F q=>yz _ q) (yg _) ?_,rfl,q _ (f.hok.fresh (yg _))⟩;show⟨by rw[xF];show D,_,0,qeB r,yY _ rfl⟩
end
section
variable{X:Cx}{a:Expr}{ta:TA}{p p2 pos pos2:Pos}
end
end L2
namespace L2
variable{L:LN}{b n v x:Nat}
theorem qan(x:Nat):x ^^^ x=0:=Nat.xor_self x
theorem qaO(x y:Nat):x ^^^ y=y ^^^ x:=Nat.xor_comm x y
theorem qV(x y z:Nat):(x ^^^ y) ^^^ z=x ^^^ (y ^^^ z):=Nat.xor_assoc x y z
theorem jy(x y:Nat):(x ^^^ y) ^^^ y=x:=by rw[qV,qan,YQ]
theorem qaP(x y z:Nat):(x ^^^ y) ^^^ z=(x ^^^ z) ^^^ y:=by rw[qV,qaO y z,<- qV]
structure Sb(V:Nat->Prop):Prop where
 z:V 0
 a:∀ x y,V x->V y->V (x ^^^ y)
def jn(V:Nat->Prop)(x:Nat):Nat->Prop:=λy=>V y\/V (y ^^^ x)
def Spn:LN->Nat->Prop
 | []=>λy=>y=0
 | a::L=>jn (Spn L) a
theorem Sb.jn{V:Nat->Prop}(s:Sb V)(x:Nat):Sb (jn V x):=by
 show⟨.inl s.z,λy z h1 h2=>?_⟩;rcases h1 with h1 | h1<;>rcases h2 with h2 | h2
 .show .inl (s.a _ _ h1 h2)
 .show .inr ?_;have:=s.a _ _ h1 h2
  rwa[<- qV] at this
 .show .inr ?_;have:=s.a _ _ h1 h2
  rwa[qaP] at this
 .show .inl ?_;have:=s.a _ _ h1 h2;rw[qaP,<- qV,qaP,qV,qan,YQ] at this
  first | show this | (rw[qaO];show this)
theorem j3:∀ L,Sb (Spn L)
 | []=>⟨rfl,λx y h1 b=>by rw[show x=0 from h1,show y=0 from b];rfl⟩
 | a::L=>(j3 L).jn a
theorem jY:∀{L:LN} {a:Nat},a∈L->Spn L a
 | b::L,a,h=>by
  rcases yN.mp h with rfl | h
  .show .inr ?_;rw[qan];show(j3 L).z
  .show .inl (jY h)
theorem zF{V:Nat->Prop}(s:Sb V):∀{L:LN},(∀ a∈L,V a)->∀ x,Spn L x->V x
 | [],_,x,h=>by rw[show x=0 from h];show s.z
 | b::L,hl,x,h=>by
  rcases h with h | h
  .show zF s (λa c=>hl a (yy _ c)) x h
  .have:=s.a _ _ (zF s (λa c=>hl a (yy _ c)) _ h) (hl b (yK ..))
   rwa[jy] at this
theorem qb3{a:Nat}:Spn (L++[a]) x↔jn (Spn L) a x:=by
 constructor
 .show λh=>zF ((j3 L).jn a) (λb hb=>?_) x h;rcases yO.mp hb with z | z
  .show .inl (jY z)
  .rw [yx.mp z];show .inr ?_;rw[qan];show(j3 L).z
 .have c:∀ y,Spn L y->Spn (L++[a]) y:=λy d=>zF (j3 _) (λb hb=>jY (YG _ hb)) y d;rintro(h | h)
  .show c _ h
  .have:=(j3 (L++[a])).a _ _ (c _ h) (jY (yT _ (yx.mpr rfl)))
   rwa[jy] at this
open Classical in
def qcq:Nat->Nat->(Nat->Prop)->Nat
 | 0,_,_=>0
 | n+1,b,V=>if ∃ v,V v/\v.testBit b=true then 1+qcq n (b+1) (λv=>V v/\v.testBit b=false) else qcq n (b+1) V
theorem Sb.low{V:Nat->Prop}(s:Sb V)(b:Nat):Sb (λv=>V v/\v.testBit b=false):=
 ⟨⟨s.z,Ym b⟩,λx y h1 c=>⟨s.a _ _ h1.1 c.1,by rw[Yb,h1.2,c.2];rfl⟩⟩
def Bnd(b n v:Nat):Prop:=∀ i,v.testBit i=true->b<=i/\i<b+n
theorem Bnd.zero(h:Bnd b 0 v):v=0:=by
 show YH λi=>?_;rw[Ym]
 cases e:v.testBit i with
 | false=>rfl
 | true=>have:=h i e;lk
theorem Bnd.low(h:Bnd b (n+1) v)(hb:v.testBit b=false):Bnd (b+1) n v:=λi a=>by
 have h1:=h i a;by_cases e:i=b
 .rw [e,hb] at a;cases a
 .omega
theorem Bnd.xor{w:Nat}(h:Bnd b n v)(h':Bnd b n w):Bnd b n (v ^^^ w):=λi a=>by
 rw[Yb] at a
 cases e:v.testBit i with
 | true=>show h i e
 | false =>
  rw[e] at a;show h' i ?_
  cases c:w.testBit i with
  | true=>rfl
  | false=>rw[c] at a;cases a
theorem zG{V W:Nat->Prop}(h:∀ v,V v↔W v):qcq n b V=qcq n b W:=by
 have:V=W:=funext λv=>propext (h v);rw[this]
open Classical in
theorem qeC:∀(n b:Nat) {V:Nat->Prop} {x:Nat},Sb V->(∀ v,V v->Bnd b n v)->Bnd b n x->qcq n b (jn V x)=qcq n b V+if V x then 0 else 1
 | 0,b,V,x,s,hV,hx=>by
  have:x=0:=hx.zero;rw[this,yG s.z];rfl
 | n+1,b,V,x,s,hV,hx=>by
  by_cases hv:∃ v,V v/\v.testBit b=true
  .obtain⟨p,d,r⟩:=hv;have j:qcq (n+1) b V=1+qcq n (b+1) (λv=>V v/\v.testBit b=false):=yG ⟨p,d,r⟩;have g:qcq (n+1) b (jn V x)=1+qcq n (b+1) (λv=>jn V x v/\v.testBit b=false):=yG ⟨p,.inl d,r⟩
   have key:∃ f,f.testBit b=false/\Bnd b (n+1) f/\(V f↔V x)/\∀ v,jn V x v↔jn V f v:=by
    cases e:x.testBit b with
    | false=>show⟨x,e,hx,kF,λ_=>kF⟩
    | true =>
     show⟨x ^^^ p,by rw[Yb,e,r];rfl,hx.xor (hV p d),⟨λh=>?_,λh=>s.a _ _ h d⟩,λv=>⟨λh=>?_,λh=>?_⟩⟩
     .have:=s.a _ _ h d;rwa[jy] at this
     .show h.imp id λh=>?_;rw[<- qV];show s.a _ _ h d
     .show h.imp id λh=>?_;have:=s.a _ _ h d
      rwa[<- qV,jy] at this
   obtain⟨f,l,o,i,t⟩:=key;have u:=qeC n (b+1) (x:=f) (s.low b) (λv hv=>(hV v hv.1).low hv.2) (o.low l);rw[j,g,zG (W:=jn (λv=>V v/\v.testBit b=false) f) λv=>?_,u]
   .by_cases h:V x
    .rw [yG h,yG ⟨i.mpr h,l⟩];rfl
    .rw [yC h,yC λz=>h (i.mp z.1)];lk
   .constructor
    .rintro ⟨h,hb⟩;rcases(t v).mp h with h | h
     .show .inl ⟨h,hb⟩
     .show .inr ⟨h,by rw[Yb,hb,l];rfl⟩
    .rintro (⟨h,hb⟩ | ⟨h,hb⟩)
     .show⟨.inl h,hb⟩
     .show⟨(t v).mpr (.inr h),?_⟩;rw[Yb,l] at hb
      cases e:v.testBit b with
      | false=>rfl
      | true=>rw[e] at hb;cases hb
  .have c:∀ v,V v->v.testBit b=false:=λv h=>by
    cases e:v.testBit b with
    | false=>rfl
    | true=>show absurd ⟨v,h,e⟩ hv
   have j:qcq (n+1) b V=qcq n (b+1) V:=yC hv;have m:∀ v,V v->Bnd (b+1) n v:=λv h=>(hV v h).low (c v h)
   cases e:x.testBit b with
   | false =>
    have g:qcq (n+1) b (jn V x)=qcq n (b+1) (jn V x):=yC λ⟨v,h,hb⟩=>by
     rcases h with h | h
     .rw [c v h] at hb;cases hb
     .have:=c _ h;rw[Yb,hb,e] at this;cases this
    rw[j,g];show qeC n (b+1) s m (hx.low e)
   | true =>
    have g:qcq (n+1) b (jn V x)=1+qcq n (b+1) (λv=>jn V x v/\v.testBit b=false):=yG ⟨x,.inr (by rw[qan];show s.z),e⟩;have q:¬ V x:=λh=>by rw[c x h] at e;cases e
    rw[j,g,yC q,zG (W:=V) λv=>?_,Nat.add_comm];constructor
    .rintro ⟨h | h,hb⟩
     .show h
     .have:=c _ h;rw[Yb,hb,e] at this;cases this
    .show λh=>⟨.inl h,c v h⟩
def swp:Nat->Nat->LN->Nat
 | 0,_,_=>0
 | n+1,b,L=>match L.filter (λv=>v.testBit b) with
  | []=>swp n (b+1) L
  | p::t=>1+swp n (b+1) (L.filter (λv=>!v.testBit b)++t.map λv=>v ^^^ p)
open Classical in
theorem qao:∀(n b:Nat) (L:LN),swp n b L=qcq n b (Spn L)
 | 0,_,_=>rfl
 | n+1,b,L=>by
  cases e:L.filter (λv=>v.testBit b) with
  | nil =>
   have h1:swp (n+1) b L=swp n (b+1) L:=by
    show(match L.filter (λv=>v.testBit b) with | []=>_ | p::t=>_)=_;rw[e]
   have s:qcq (n+1) b (Spn L)=qcq n (b+1) (Spn L):=yC λ⟨v,h,hb⟩=>by
    have:=zF (V:=λv=>Spn L v/\v.testBit b=false) ((j3 L).low b) (λa d=>⟨jY d,by
     cases w:a.testBit b with
     | false=>rfl
     | true =>
      have:a∈L.filter (λv=>v.testBit b):=yo.mpr ⟨d,w⟩;rw[e] at this;cases this⟩) v h
    rw[this.2] at hb;cases hb
   rw[h1,s,qao n (b+1) L]
  | cons p t =>
   have h1:swp (n+1) b L=1+swp n (b+1) (L.filter (λv=>!v.testBit b)++t.map λv=>v ^^^ p):=by
    show(match L.filter (λv=>v.testBit b) with | []=>_ | p::t=>_)=_;rw[e]
   have u:∀ q∈p::t,q∈L/\q.testBit b=true:=λq l=>by rw[<- e] at l;show yo.mp l
   have j:=u p (yK ..);have s:qcq (n+1) b (Spn L)=1+qcq n (b+1) (λv=>Spn L v/\v.testBit b=false):=yG ⟨p,jY j.1,j.2⟩;rw[h1,s,qao n (b+1)]
   congr 1
   show zG λv=>⟨λh=>?_,λh=>?_⟩
   .show zF (V:=λv=>Spn L v/\v.testBit b=false) ((j3 L).low b) (λa d=>?_) v h;rcases yO.mp d with z | z
    .have:=yo.mp z;show⟨jY this.1,by simpa using this.2⟩
    .obtain⟨q,l,rfl⟩:=yJ.mp z;have i:=u q (yy _ l);show⟨(j3 L).a _ _ (jY i.1) (jY j.1),by rw[Yb,i.2,j.2];rfl⟩
   .generalize A:L.filter (λv=>!v.testBit b)++t.map (λv=>v ^^^ p)=r;have S:=j3 r
    have hw:Sb (λv=>(v.testBit b=false->Spn r v)/\(v.testBit b=true->Spn r (v ^^^ p))):=by
     show⟨⟨λ_=>S.z,λh=>by rw[Ym] at h;cases h⟩,λx y m o=>?_⟩;have c:=Yb x y b;cases f:x.testBit b<;>cases g:y.testBit b<;>rw[f,g] at c
     .show⟨λ_=>S.a _ _ (m.1 f) (o.1 g),λh=>by rw[c] at h;cases h⟩
     .show⟨λh=>(by rw[c] at h;cases h),λ_=>?_⟩;rw[qV];show S.a _ _ (m.1 f) (o.2 g)
     .show⟨λh=>(by rw[c] at h;cases h),λ_=>?_⟩;rw[qaP];show S.a _ _ (m.2 f) (o.1 g)
     .show⟨λ_=>?_,λh=>by rw[c] at h;cases h⟩;have:=S.a _ _ (m.2 f) (o.2 g);rw[qaO y p,<- qV,jy] at this;show this
    have:=zF hw (L:=L) (λa d=>?_) v h.1
    .show this.1 h.2
    .subst A;show⟨λhb=>jY (YG _ (yo.mpr ⟨d,by rw[hb];rfl⟩)),λhb=>?_⟩;have:a∈p::t:=by rw[<- e];show yo.mpr ⟨d,hb⟩
     rcases yN.mp this with rfl | h3
     .rw [qan];show S.z
     .show jY (yT _ (yJ.mpr ⟨a,h3,rfl⟩))
def rk(L:LN):Nat:=swp 30 0 L
theorem qhi(h:v<2 ^ 30):Bnd 0 30 v:=λi a=>⟨YM _,by
 by_cases hl:i<30
 .omega
 .have:=Yx (yi h (Yl (by decide) (XE hl)));rw[this] at a;cases a⟩
theorem qgo:Sb (Bnd b n):=⟨λi a=>(by rw[Ym] at a;cases a),λx y c d=>c.xor d⟩
open Classical in
theorem qdw(b:∀ v∈L,v<2 ^ 30)(d:x<2 ^ 30):rk (L++[x])=rk L+if Spn L x then 0 else 1:=by
 unfold rk;rw[qao,qao,zG λv=>qb3];show qeC 30 0 (j3 L) (zF qgo λa c=>qhi (b a c)) (qhi d)
theorem rk_in(a:∀ v∈L,v<2 ^ 30)(b:x<2 ^ 30)(h:Spn L x):rk (L++[x])=rk L:=by
 rw[qdw a b,yG h];rfl
theorem rk_out(a:∀ v∈L,v<2 ^ 30)(b:x<2 ^ 30)(h:¬ Spn L x):rk (L++[x])=rk L+1:=by
 rw[qdw a b,yC h]
def les:Nat×Nat->List (Nat×Nat)->Nat×Nat
 | s,[]=>s
 | s,o::os=>if s.1 ^^^ o.1<s.1 then les (s.1 ^^^ o.1,s.2 ^^^ o.2) os else les s os
structure Ech(os:List (Nat×Nat)):Prop where
 nz:∀ o∈os,o.1≠0
 pw:os.Pairwise λa b=>b.1.testBit a.1.log2=false
theorem qfj{y i:Nat}(c:x.testBit i=false)(d:y.testBit i=true)(h:∀ j,i<j->x.testBit j=y.testBit j):x<y:=by
 have e:x / 2 ^ (i+1)=y / 2 ^ (i+1):=YH λj=>by
  rw[Nat.testBit_div_two_pow,Nat.testBit_div_two_pow];show h _ (by lk)
 have h1:x % 2 ^ (i+1)<2 ^ i:=Xm _ λj g=>by
  rw[Nat.testBit_mod_two_pow];by_cases e:j=i
  .rw [e,c,Yt]
  .rw [yk (by lk)];rfl
 have f:2 ^ i<=y % 2 ^ (i+1):=XE λz=>by
  have:=Yx z;rw[Nat.testBit_mod_two_pow,d,yw (by lk)] at this;cases this
 have a:=kt x (2 ^ (i+1));have b:=kt y (2 ^ (i+1));rw[e] at a;lk
theorem qax{o:Nat}(c:o≠0):x ^^^ o<x↔x.testBit o.log2=true:=by
 have hb:o.testBit o.log2=true:=kj c;have b:∀ j,o.log2<j->o.testBit j=false:=λj a=>Yx (yi Nat.lt_log2_self (Yl (by decide) a));constructor
 .intro h
  cases e:x.testBit o.log2 with
  | true=>rfl
  | false =>
   have:x<x ^^^ o:=qfj (i:=o.log2) e (by rw[Yb,e,hb];rfl) λj a=>by rw[Yb,b j a,Yp]
   lk
 .intro h;show qfj (i:=o.log2) (by rw[Yb,h,hb];rfl) h λj a=>by rw[Yb,b j a,Yp]
theorem Ech.tail{o:Nat×Nat}{b:List (Nat×Nat)}(h:Ech (o::b)):Ech b:=⟨λa c=>h.nz a (yy _ c),(xV.mp h.pw).2⟩
theorem qfk(b:Nat):Sb (λv=>v.testBit b=false):=⟨Ym b,λx y h1 a=>by rw[Yb,h1,a];rfl⟩
theorem qb4:∀(a:List (Nat×Nat)) (s:Nat×Nat),Spn (a.map (·.1)) (s.1 ^^^ (les s a).1)
 | [],s=>qan s.1
 | o::a,s=>by
  unfold les;split
  .have:=qb4 a (s.1 ^^^ o.1,s.2 ^^^ o.2);show .inr ?_;rw[qaP];show this
  .show .inl (qb4 a s)
theorem qbE:∀(b:List (Nat×Nat)) (s:Nat×Nat),Ech b->Spn (b.map (·.1)) s.1->(les s b).1=0
 | [],s,_,h=>h
 | o::b,s,e,h=>by
  have d:=e.nz o (yK ..)
  have c:∀ v,Spn (b.map (·.1)) v->v.testBit o.1.log2=false:=zF (qfk _) λa g=>by
   obtain⟨q,i,rfl⟩:=yJ.mp g;show(xV.mp e.pw).1 q i
  have hb:o.1.testBit o.1.log2=true:=kj d;unfold les;rcases h with h | h
  .rw [yC λz=>by have:=c _ h;rw[(qax d).mp z] at this;cases this];show qbE b s e.tail h
  .have:s.1.testBit o.1.log2=true:=by
    have:=c _ h;rw[Yb,hb] at this
    cases f:s.1.testBit o.1.log2 with
    | true=>rfl
    | false=>rw[f] at this;cases this
   rw[yG ((qax d).mpr this)];show qbE b _ e.tail h
theorem qbF:∀(c:List (Nat×Nat)) (s:Nat×Nat) (b:Nat),(∀ o∈c,o.1.testBit b=false)->(les s c).1.testBit b=s.1.testBit b
 | [],s,b,_=>rfl
 | o::c,s,b,h=>by
  unfold les;split
  .rw [qbF c _ b λa d=>h a (yy _ d),Yb,h o (yK ..),Yp]
  .show qbF c s b λa d=>h a (yy _ d)
theorem qd1:∀(b:List (Nat×Nat)) (s:Nat×Nat),Ech b->∀ o∈b,(les s b).1.testBit o.1.log2=false
 | o::b,s,e,q,hq=>by
  have c:=e.nz o (yK ..);have hb:o.1.testBit o.1.log2=true:=kj c;rcases yN.mp hq with rfl | hq
  .have d:∀ a∈b,a.1.testBit q.1.log2=false:=(xV.mp e.pw).1;unfold les;split
   .rename_i h
    rw[qbF b _ _ d,Yb,hb,(qax c).mp h];rfl
   .rename_i h
    rw[qbF b _ _ d]
    cases f:s.1.testBit q.1.log2 with
    | false=>rfl
    | true=>show absurd ((qax c).mpr f) h
  .unfold les;split
   .show qd1 b _ e.tail q hq
   .show qd1 b _ e.tail q hq
def csm:LN->Nat->Nat->Nat
 | [],_,_=>0
 | a::L,k,c=>(if c.testBit k then a else 0) ^^^ csm L (k+1) c
theorem qcQ:∀(L:LN) (k c d:Nat),csm L k (c ^^^ d)=csm L k c ^^^ csm L k d
 | [],_,_,_=>(YQ 0).symm
 | a::L,k,c,d=>by
  unfold csm;rw[qcQ L,Yb];cases c.testBit k<;>cases d.testBit k
  .show 0 ^^^ (csm L (k+1) c ^^^ csm L (k+1) d)=(0 ^^^ csm L (k+1) c) ^^^ (0 ^^^ csm L (k+1) d);rw[YJ,YJ,YJ]
  .show a ^^^ (csm L (k+1) c ^^^ csm L (k+1) d)=(0 ^^^ csm L (k+1) c) ^^^ (a ^^^ csm L (k+1) d);rw[YJ,<- qV,<- qV,qaO a]
  .show a ^^^ (csm L (k+1) c ^^^ csm L (k+1) d)=(a ^^^ csm L (k+1) c) ^^^ (0 ^^^ csm L (k+1) d);rw[YJ,<- qV]
  .show 0 ^^^ (csm L (k+1) c ^^^ csm L (k+1) d)=(a ^^^ csm L (k+1) c) ^^^ (a ^^^ csm L (k+1) d);rw[YJ,qaO a (csm L (k+1) d),<- qV,qaO a,qaP (csm L (k+1) c) a,jy]
theorem qcR:∀(L:LN) (k:Nat),csm L k 0=0
 | [],_=>rfl
 | a::L,k=>by unfold csm;rw[qcR L,Ym,yC (by decide),YQ]
theorem qbq(n i:Nat):(1 <<< n).testBit i=decide (i=n):=by
 rw[Nat.testBit_shiftLeft];by_cases h:i=n
 .subst h;simp
 .by_cases a:n<=i
  .have:i-n=(i-n-1)+1:=by lk
   rw[yw a,yk h,this,Nat.testBit_succ];simp
  .rw [yk a,yk h];rfl
theorem qeD:∀(L:LN) (k n:Nat),n<k->csm L k (1 <<< n)=0
 | [],_,_,_=>rfl
 | a::L,k,n,h=>by
  unfold csm;rw[qeD L (k+1) n (by lk),qbq,yk (by lk),yC (by decide),YQ]
theorem qfl:∀(L:LN) (k n:Nat) {v:Nat},L[n]?=some v->csm L k (1 <<< (k+n))=v
 | a::L,k,0,v,h=>by
  cases h;unfold csm;rw[qeD L (k+1) _ (by lk),qbq,yw (by lk)];show YQ _
 | a::L,k,n+1,v,h=>by
  unfold csm;rw[qbq,yk (by lk),show k+(n+1)=(k+1)+n by lk,qfl L (k+1) n h];show YJ _
theorem qd2:∀(b:List (Nat×Nat)) (s:Nat×Nat),(∀ o∈b,csm L 0 o.2=o.1)->csm L 0 s.2=s.1->csm L 0 (les s b).2=(les s b).1
 | [],s,_,h=>h
 | o::b,s,ho,h=>by
  unfold les;split
  .show qd2 b _ (λa c=>ho a (yy _ c)) (by rw[qcQ,h,ho o (yK ..)])
  .show qd2 b s (λa c=>ho a (yy _ c)) h
theorem qd3:∀(b:List (Nat×Nat)) (s:Nat×Nat),(∀ o∈b,csm L 0 o.2=o.1)->csm L 0 (les s b).2 ^^^ (les s b).1=csm L 0 s.2 ^^^ s.1
 | [],s,_=>rfl
 | o::b,s,ho=>by
  unfold les;split
  .rw [qd3 b _ λa c=>ho a (yy _ c)];show csm L 0 (s.2 ^^^ o.2) ^^^ (s.1 ^^^ o.1)=_;rw[qcQ,ho o (yK ..),<- qV,qaP (csm L 0 s.2) o.1,jy]
  .show qd3 b s λa c=>ho a (yy _ c)
theorem qcS:∀(b:List (Nat×Nat)) (s:Nat×Nat) (n i:Nat),(∀ o∈b,o.2<2 ^ n)->n<=i->(les s b).2.testBit i=s.2.testBit i
 | [],s,_,_,_,_=>rfl
 | o::b,s,n,i,h,hi=>by
  unfold les;split
  .rw [qcS b _ n i (λa c=>h a (yy _ c)) hi,Yb,Yx (yi (h o (yK ..)) (Yl (by decide) hi)),Yp]
  .show qcS b s n i (λa c=>h a (yy _ c)) hi
def stp(st:List (Nat×Nat))(n v:Nat):List (Nat×Nat):=if (les (v,1 <<< n) st).1=0 then st else st++[les (v,1 <<< n) st]
def sts(L:LN):Nat->List (Nat×Nat)
 | 0=>[]
 | n+1=>stp (sts L n) n (L.getD n 0)
structure Stp(L:LN)(n:Nat)(st:List (Nat×Nat)):Prop where
 ech:Ech st
 sum:∀ o∈st,csm L 0 o.2=o.1
 low:∀ o∈st,o.2<2 ^ n
 lt:∀ o∈st,o.1<2 ^ 30
 spn:∀ v,Spn (st.map (·.1)) v↔Spn (L.take n) v
 free:st.map (λo=>o.2.log2)=(List.range n).filter λi=>decide (rk (L.take i)<rk (L.take (i+1)))
 len:st.length<=n
theorem lt_bits(h:∀ i,n<=i->v.testBit i=false):v<2 ^ n:=Xm v h
theorem qfm:∀(b:List (Nat×Nat)) (s:Nat×Nat),(∀ o∈b,o.1<2 ^ n)->s.1<2 ^ n->(les s b).1<2 ^ n
 | [],s,_,h=>h
 | o::b,s,ho,h=>by
  unfold les;split
  .show qfm b _ (λa c=>ho a (yy _ c)) (XY h (ho o (yK ..)))
  .show qfm b s (λa c=>ho a (yy _ c)) h
theorem qcB(u:∀ v∈L,v<2 ^ 30):∀ n,n<=L.length->Stp L n (sts L n)
 | 0,_=>⟨⟨λ_ h=>(nomatch h),.nil⟩,λ_ h=>(nomatch h),λ_ h=>(nomatch h),λ_ h=>(nomatch h),λ_=>by rw[Xw];show kF,rfl,yg _⟩
 | n+1,hn=>by
  have I:=qcB u n (by lk);obtain⟨v,hv⟩:∃ v,L[n]?=some v:=⟨_,yb (by lk)⟩;have D:L.getD n 0=v:=by rw[yL,hv];rfl
  have m:v<2 ^ 30:=u v (ye hv);have s:L.take (n+1)=L.take n++[v]:=by rw[yA,hv];rfl
  have p:∀ a∈L.take n,a<2 ^ 30:=λa w=>u a (Yv w);show Stp L (n+1) (stp (sts L n) n (L.getD n 0));rw[D];generalize sts L n=st at I
  have B:(les (v,1 <<< n) st).1=0↔Spn (L.take n) v:=by
   rw[<- I.spn];constructor
   .intro h;have:=qb4 st (v,1 <<< n);rw[h,YQ] at this;show this
   .show qbE st (v,1 <<< n) I.ech
  have c:∀ o∈st,o.2<2 ^ (n+1):=λo d=>yi (I.low o d) (Yl (by decide) (by lk));unfold stp;split
  .rename_i h
   have t:=B.mp h;have C:rk (L.take (n+1))=rk (L.take n):=by rw[s];show rk_in p m t
   show⟨I.ech,I.sum,c,I.lt,λx=>?_,?_,X4 I.len⟩
   .rw [I.spn,s,qb3];show⟨.inl,λh=>h.elim id λh=>?_⟩;have:=(j3 (L.take n)).a _ _ h t
    rwa[jy] at this
   .rw [YR,yQ,<- I.free];have:decide (rk (L.take n)<rk (L.take (n+1)))=false:=yk (by lk);rw[yM,this];simp
  .rename_i h
   have t:¬ Spn (L.take n) v:=λz=>h (B.mpr z);have C:rk (L.take (n+1))=rk (L.take n)+1:=by rw[s];show rk_out p m t
   have j:=qd2 (L:=L) st (v,1 <<< n) I.sum (by have:=qfl L 0 n hv;rw[YS] at this;show this);have hb:(les (v,1 <<< n) st).2.testBit n=true:=by rw[qcS st _ n n I.low (yg _)];show(1 <<< n).testBit n=true;rw[qbq];simp
   have l:(les (v,1 <<< n) st).2<2 ^ (n+1):=lt_bits λi G=>by rw[qcS st _ n i I.low (by lk)];show(1 <<< n).testBit i=false;rw[qbq];simp;lk
   have e:=qd1 st (v,1 <<< n) I.ech;have f:=qfm (n:=30) st (v,1 <<< n) I.lt m;have r:=qb4 st (v,1 <<< n);generalize les (v,1 <<< n) st=y at h j hb l e f r
   have q:y.2.log2=n:=by
    have A:y.2≠0:=λz=>by rw[z,Ym] at hb;cases hb
    have h1:y.2.log2<n+1:=(Nat.log2_lt A).mpr l
    have F:n<=y.2.log2:=by
     show XE λE=>?_;have:=Yx (x:=y.2) (i:=n) ((Nat.log2_lt A).mp E);rw[this] at hb;cases hb
    lk
   show⟨⟨λo d=>?_,?_⟩,λo d=>?_,λo d=>?_,λo d=>?_,λx=>?_,?_,?_⟩
   .rcases yO.mp d with z | z
    .show I.ech.nz o z
    .rw [yx.mp z];show h
   .show Xg.mpr ⟨I.ech.pw,List.pairwise_singleton _ _,λa w b hb=>?_⟩;rw[yx.mp hb];show e a w
   .rcases yO.mp d with z | z
    .show I.sum o z
    .rw [yx.mp z];show j
   .rcases yO.mp d with z | z
    .show c o z
    .rw [yx.mp z];show l
   .rcases yO.mp d with z | z
    .show I.lt o z
    .rw [yx.mp z];show f
   .rw [yq,s,qb3];show Spn (st.map (·.1)++[y.1]) x↔_;rw[qb3];have g:Spn (L.take n) (v ^^^ y.1):=(I.spn _).mp r;show⟨λz=>z.imp (I.spn _).mp λz=>?_,λz=>z.imp (I.spn _).mpr λz=>?_⟩
    .have:=(j3 (L.take n)).a _ _ ((I.spn _).mp z) g
     rwa[qaO v,<- qV,jy] at this
    .show(I.spn _).mpr ?_;have:=(j3 (L.take n)).a _ _ z g
     rwa[<- qV,jy] at this
   .rw [YR,yQ,<- I.free,yq];have:decide (rk (L.take n)<rk (L.take (n+1)))=true:=yw (by lk);rw[yM,this];simp[q]
   .rw [yu];have:=I.len;simp;lk
def qcr(L:LN)(g:Nat):Nat:=(les (g,0) (sts L L.length)).2
theorem qb5(a:∀ v∈L,v<2 ^ 30)(g:Nat):(les (g,0) (sts L L.length)).1=0↔Spn L g:=by
 have I:=qcB a L.length (yg _);have e:=I.spn g;rw[yv] at e;rw[<- e];constructor
 .intro h;have:=qb4 (sts L L.length) (g,0);rw[h,YQ] at this;show this
 .show qbE (sts L L.length) (g,0) I.ech
theorem pick_sum(a:∀ v∈L,v<2 ^ 30){g:Nat}(h:Spn L g):csm L 0 (qcr L g)=g:=by
 have I:=qcB a L.length (yg _);have e:=qd3 (L:=L) (sts L L.length) (g,0) I.sum;rw[(qb5 a g).mpr h,YQ,qcR,YJ] at e;show e
def qap(L:LN):LN:=(List.range L.length).filter λi=>decide (rk (L.take i)<rk (L.take (i+1)))
def xsm(L:LN):Nat:=L.foldl (· ^^^ ·) 0
theorem qbG:∀(L:LN) (a:Nat),L.foldl (· ^^^ ·) a=a ^^^ xsm L
 | [],a=>(YQ a).symm
 | b::L,a=>by
  show L.foldl (· ^^^ ·) (a ^^^ b)=a ^^^ L.foldl (· ^^^ ·) (0 ^^^ b);rw[qbG L (a ^^^ b),YJ,qbG L b,qV]
theorem qgp:∀(L:LN) (k c:Nat),csm L k c=xsm (((List.range L.length).filter λi=>c.testBit (k+i)).map λi=>L.getD i 0)
 | [],k,c=>rfl
 | a::L,k,c=>by
  have b:∀ ys:LN,(ys.map Nat.succ).map (λi=>(a::L).getD i 0)=ys.map λi=>L.getD i 0:=λys=>by rw[YC];rfl
  have d:((List.range L.length).map Nat.succ).filter (λi=>c.testBit (k+i))=((List.range L.length).filter λi=>c.testBit (k+1+i)).map Nat.succ:=by
   rw[XS]
   congr 1
   show YD λi _=>?_;show c.testBit (k+(i+1))=_;rw[show k+(i+1)=k+1+i by lk]
  unfold csm;rw[qgp L,Yd,List.range_succ_eq_map,yM,d,Nat.add_zero];cases c.testBit k
  .rw [yC (by decide),yC (by decide),YJ,b]
  .rw [yG rfl,yG rfl,Yk,b];show _=(List.map _ _).foldl (· ^^^ ·) (0 ^^^ a);rw[qbG,YJ]
end L2
namespace L2
open PySem PySem.Spec PyProof.Rows
section
variable{X:Cx}
def rBitLen:V->List V->Hp->VK->Prop:=λx vs H Q=>∃ n:Nat,x=.int (n:Int)/\vs=[]/\n≠0/\Q (.int ((n.log2+1:Nat):Int)) H
theorem mt_bit_length:MtR X "int.bit_length" rBitLen:=by
 intro a s f H x vs v us Q I c b h;obtain⟨n,rfl,rfl,d,q⟩:=h;obtain⟨t,rfl⟩:=c;cases b;show call_gives PySem.F.slot_int_bit_length (typeIs_int s _ t) PySem.F.entry_int_bit_length (PySem.F.args_int_bit_length_1 _) (AutoIntG2.int_bit_length_int_0 (n:Int) t) ?_
 have e:Builtin.Int.intBits (n:Int)=n.log2+1:=by
  unfold Builtin.Int.intBits;rw[yC (by simp;lk),Int.natAbs_natCast]
 rw[e];show⟨.int _,H,I.tok _,⟨_,rfl⟩,q⟩
end
def Fl:V->Prop
 | .non=>True
 | .bl _=>True
 | .int i=>-999999999999<=i/\i<=999999999999
 | _=>False
def fD:V->PyData
 | .non=>.none
 | .bl b=>.bool b
 | .int i=>.int i
 | .str x=>.str x
 | _=>.none
def FlS(xs:List V):Prop:=xs.length<=1000/\∀ x∈xs,Fl x
def ShwT(H:Hp)(v:V)(t:Str):Prop:=match v with
 | .non=>t="None"
 | .bl b=>t=if b then Str.ofString "True" else Str.ofString "False"
 | .int i=>i.natAbs.log2<1920/\t=toString i
 | .str x=>(reprText x).length<=sizeLine/\t=reprText x
 | .ref p=>(∃ xs,H p=some (.lst xs)/\FlS xs/\t=(PyData.list (xs.map fD)).shown)\/∃ xs,H p=some (.tup xs)/\FlS xs/\t=(PyData.tuple (xs.map fD)).shown
 | _=>False
section
variable{X:Cx}{K:yf}
end
theorem qeE{b i j n:Nat}{K:yf}(o:i<b:=by decide)(p:j<b:=by decide):qfc b (qho K n (qgG (qco i) (qgG (qco j) qhI))):=by
 intro x t H Q ⟨a,xs,e,h,g,v,r,c,m,l,d,q⟩;obtain⟨f,q⟩:=q;show⟨a,xs,e,h,g,v,r,c,m,l,d,f,q,?_,λk s=>?_⟩
 .rw [XI,XI]
 .rw [xv (by lk),xv (by lk)]
section
variable{K:yf}{a:Addr}{xs:List V}{g:TG}{tc:TT}{te:TE}{σ':St}{H1:Hp}{Q:V->Hp->Prop}
end
theorem xor_and_add(a b:Nat):(a ^^^ b)+2*(a &&& b)=a+b:=by
 induction a using Nat.strongRecOn generalizing b with
 | ind a ih =>
  by_cases h:a=0
  .subst h;simp
  .have i:=ih (a / 2) (by lk) (b / 2);have x:=@Nat.xor_div_two a b;have y:=@Nat.and_div_two a b;have c:=@Nat.xor_mod_two_eq_one a b;have d:=@Nat.and_mod_two_eq_one a b;rw[<- x,<- y] at i;generalize a ^^^ b=p at *;generalize a &&& b=q at *;lk
theorem qdx(a b:Nat):Builtin.bitXor (a:Int) (b:Int)=((a ^^^ b:Nat):Int):=by
 have h:=xor_and_add a b;rw[PyProof.Rows.bitXor_and,PyProof.Rows.bitAnd_pp (by lk) (by lk),y6,y6];lk
theorem qb6(m j:Nat):decide (Builtin.bitAnd ((m:Int) / 2 ^ (j:Int).toNat) 1=1)=m.testBit j:=by
 rw[xW,Nat.testBit_eq_decide_div_mod_eq];rw[y6]
 have e:((m:Int) / 2 ^ j) % 2=((m / 2 ^ j % 2:Nat):Int):=by
  rw[Int.natCast_emod,Int.natCast_ediv,xZ];rfl
 rw[e];by_cases h:m / 2 ^ j % 2=1
 .rw [h];rfl
 .rw [yk h,yk (by lk)]
theorem bit0_nat(m j:Nat):decide (Builtin.bitAnd ((m:Int) / 2 ^ (j:Int).toNat) 1=0)=!m.testBit j:=by
 rw[<- qb6 m j,xW];have h:((m:Int) / 2 ^ (j:Int).toNat) % 2=0\/((m:Int) / 2 ^ (j:Int).toNat) % 2=1:=by lk
 rcases h with h | h<;>rw[h]<;>rfl
section
variable{K:yf}{a b:Addr}{xs ys:List V}{g:TG}{tc:TT}{te:TE}{σ':St}{H1:Hp}{Q:V->Hp->Prop}
theorem comp_zip(F:ys.length<=xs.length)(d:Nat->List V->Hp->Prop)(w:d 0 [] H1)(hl:∀ i c H,i<=ys.length->d i c H->SqL K H a xs/\SqL K H b ys)
  (B:∀ i x y t c H,xs[i]?=some x->ys[i]?=some y->H t=none->d i c H->g (.ref t) σ' (upd H t (.tup [x,y])) λh r=>tc h r λb n=>if b=true then te h n λv s=>c.length<sizeLine/\d (i+1) (c++[v]) s else d (i+1) c n)
  (z:∀ c H,d ys.length c H->c.length<=sizeLine/\∀ p,H p=none->Q (.ref p) (upd H p (.lst c))):qeR (Itz K a b) g tc te σ' H1 Q:=by
 show⟨λi m c H=>m=ys.length-i/\i<=ys.length/\d i c H,⟨ys.length,by simp,YM _,w⟩,?_⟩;rintro i m c H ⟨rfl,A,p⟩;obtain⟨q,l⟩:=hl i c H A p;by_cases f:i<ys.length
 .have j:i<xs.length:=by lk
  show .inr ⟨⟨xs,ys,xs[i],ys[i],q,l,by simp[j],by simp[f]⟩,d (i+1),λys' o D=>⟨ys.length-(i+1),by lk,rfl,f,D⟩,λx o y=>?_⟩;obtain⟨t,v,u,rfl,C,rfl,y,E⟩:=y;show B i v u t c _ (y xs q) (E ys l) C p
 .have e:i=ys.length:=by lk
  subst e;show .inl ⟨⟨xs,ys,q,l,.inr (yg _)⟩,z c H p⟩
end
section
variable{X:Cx}{K:yf}
def rSorted(K:yf):List V->Hp->VK->Prop:=λxs H Q=>∃(p:Addr) (ns:LQ),xs=[.ref p]/\SqL K H p (ns.map V.int)/\ns.length<64/\∀(l:Addr) (a:LQ),H l=none->a.Perm ns->a.Pairwise (·<=·)->Q (.ref l) (upd H l (.lst (a.map V.int)))
theorem qa2(m:X.K=K):qag X (.builtin "sorted") (rSorted K):=by
 subst m;intro f s z H xs us Q I r h;obtain⟨p,ns,rfl,v,j,q⟩:=h;obtain⟨u,rfl,x⟩:=qcM r;cases x;obtain⟨a,g,pl,y⟩:=I.list v;have l:IntsAre a ns:=intsAre_of g;have hl:a.length<64:=by have:=g.length;rw[ya] at this;lk
 show PyProof.Rows.sorted_ints (vs:=a) pl.isList l hl λout c h1 d i=>?_;obtain⟨e,n⟩:=PyProof.Rows.sortedAll_at s.heap a out;have t:H (s.heap.objs.size+1)=none:=I.hok.fresh (xm _);have hv:=qbW h1
 have new:ObjOk X.prog X.w (upd H (s.heap.objs.size+1) (.lst (c.map V.int))) (PyProof.Rows.sortedAll s.heap a out) (s.heap.objs.size+1) (.lst (c.map V.int)):=by
  show⟨?_,out.toList,e,hv,?_⟩
  .rw [ya,d.length_eq];show yI (qe (by lk))
  .rw [n]
 show⟨.ref (s.heap.objs.size+1),_,I.laid (t':=s.toks) (λb o e=>PyProof.Rows.sortedAll_old e) (xm _) new,rfl,q _ c t d i⟩
end
section
variable{X:Cx}{K:yf}{e st:Expr}{te:TE}{ts:TO}{p2 pos:Pos}
end
mutual
inductive Dat(H:Hp):V->PyData->Prop
 | non:Dat H .non .none
 | bl (b:Bool):Dat H (.bl b) (.bool b)
 | int (i:Int):Dat H (.int i) (.int i)
 | str (x:Str):Dat H (.str x) (.str x)
 | lst {a:Addr} {xs:List V} {ds:List PyData}:H a=some (.lst xs)->DatS H xs ds->Dat H (.ref a) (.list ds)
 | tup {a:Addr} {xs:List V} {ds:List PyData}:H a=some (.tup xs)->DatS H xs ds->Dat H (.ref a) (.tuple ds)
 | dnil {a:Addr}:H a=some (.dK [])->Dat H (.ref a) (.dict [])
inductive DatS(H:Hp):List V->List PyData->Prop
 | nil:DatS H [] []
 | cons {v:V} {vs:List V} {d:PyData} {ds:List PyData}:Dat H v d->DatS H vs ds->DatS H (v::vs) (d::ds)
end
structure Shw(d:PyData)(n m:Nat):Prop where
 s:d.showable=true
 l:d.leavesShort 13=true
 b:d.bulk<=n
 p:d.depth<=m
structure ShwS(ds:List PyData)(n m:Nat):Prop where
 s:PyData.showableAll ds=true
 l:PyData.leavesShortAll 13 ds=true
 b:PyData.bulkAll ds<=n
 p:PyData.depthAll ds<=m
section
variable{X:Cx}{K:yf}{pins:List (Addr×Obj)}{σ:List (Option V)}{H:Hp}{s:Shared}
end
section
variable{X:Cx}{tg elt iter:Expr}{ifs:List Expr}{scope sc1:Scope}{pos:Pos}{N N1:LS}{nl:Nat}{ixs:LN}{wi:TI}{g:TG}{tc:TT}{te:TE}{C1:Addr}{s1:Shared}{H1:Hp}{ex1:LI}
end
section
variable{X:Cx}{K:yf}
end
section
variable{prog:Program}{w:World}{A:Around}{E:Value->Shared->Prop}{s:Shared}
abbrev IsZp(h:Heap)(z TI TO:Addr)(b:Value)(a:Bool):Prop:=h.get? z=some { cls:=.type "zip",dict:=none,data:=.fields #[b,.bool a,.bool false,.ref TI,.ref TO],slots:=#[] }
def ZAt(z TI TO N:Nat)(h:Heap):Prop:=IsZip h z TI TO .none\/∃ T a o,N<=T/\IsZp h z TI TO (rawInt (T:Nat)) a/\h.get? T=some o
end
structure LZ(z TI TO i1 i2 a b S N:Nat)(xs ys:Array Value)(h0:Heap)(i:Nat)(acc:Array Value)(c:Nat)(h:Heap):Prop where
 zp:ZAt z TI TO N h
 ti:IsPair h TI (.ref i1) (.ref i2)
 tO:∃ u v,IsPair h TO u v
 j1:h.IsListIter i1 a i
 j2:h.IsListIter i2 b i
 la:h.IsList a xs
 lb:h.IsList b ys
 ls:h.get? S=some { cls:=.type "list",dict:=none,data:=.seq acc c,slots:=#[] }
 sz:N<=h.objs.size
 len:acc.size=i
 its:∀(j:Nat) v,acc[j]?=some v->∃ t x y,v=.ref t/\N<=t/\IsPair h t x y/\xs[j]?=some x/\ys[j]?=some y
 nd:∀(j k:Nat) v,acc[j]?=some v->acc[k]?=some v->j=k
 kp:∀ q o,q<N->q≠z->q≠TO->q≠i1->q≠i2->q≠S->h0.get? q=some o->h.get? q=some o
structure LE(z TO i1 i2 S N:Nat)(xs ys:Array Value)(h0:Heap)(n:Nat)(acc:Array Value)(c:Nat)(h:Heap):Prop where
 ls:h.get? S=some { cls:=.type "list",dict:=none,data:=.seq acc c,slots:=#[] }
 len:acc.size=n
 its:∀(j:Nat) v,acc[j]?=some v->∃ t x y,v=.ref t/\N<=t/\IsPair h t x y/\xs[j]?=some x/\ys[j]?=some y
 nd:∀(j k:Nat) v,acc[j]?=some v->acc[k]?=some v->j=k
 kp:∀ q o,q<N->q≠z->q≠TO->q≠i1->q≠i2->q≠S->h0.get? q=some o->h.get? q=some o
structure LA(z TI TO i1 i2 a b S N:Nat):Prop where
 D:ZipApart z TI TO i1 i2 a b
 lt:z<S/\TI<S/\TO<S/\i1<S/\i2<S/\a<S/\b<S
 S:S<N
section
variable{prog:Program}{w:World}{A:Around}{R:Result->Shared->Prop}{z TI TO i1 i2 a b S N:Nat}{xs ys:Array Value}{h0:Heap}
end
section
variable{prog:Program}{w:World}{A:Around}{E:Value->Shared->Prop}{s:Shared}
end
structure Zl(H H':Hp)(l:Addr)(ts:LI)(xs ys:List V):Prop where
 sm:L2.Same H H'
 fl:H l=none
 ls:H' l=some (.lst (ts.map V.ref))
 len:ts.length=min xs.length ys.length
 tp:∀(j:Nat) t,ts[j]?=some t->H t=none/\∃ x y,xs[j]?=some x/\ys[j]?=some y/\H' t=some (.tup [x,y])
theorem Inv.freeze{X:Cx}{f:List (Addr×Obj)}{l:St}{H:Hp}{s:Shared}{d:Addr}{kvs:List (Key×V)}{o:Obj}(I:Inv X f l H s)(e:H d=some (.dK kvs))(y:s.heap.get? d=some o):Inv X f l (upd H d (.frz o (.dK kvs))) s:=by
 have h:∀ b,H b=none->upd H d (.frz o (.dK kvs)) b=none:=λb hb=>by
  rw[qj (λz=>by rw[z,e] at hb;cases hb)];show hb
 have g:∀ b u,u≠.dK kvs->H b=some u->upd H d (.frz o (.dK kvs)) b=some u:=λb u B hb=>by
  rw[qj (λz=>by rw[z,e] at hb;show B (yl hb).symm)];show hb
 have st:∀ a u,ObjOk X.prog X.w H s.heap a u->ObjOk X.prog X.w (upd H d (.frz o (.dK kvs))) s.heap a u:=λa u x =>
  x.stay (λ_ _ _ q=>q) (λb q=>g b _ (λz=>by cases z) q) λb xs q=>g b _ (λz=>by cases z) q
 show⟨I.ok,I.os,I.bare,⟨I.base.keep,I.base.slot,λb i q n C=>h b (I.base.free b i q n C),I.base.there,λb xs q=>g b _ (λz=>by cases z) (I.base.tups b xs q),λb i u q=>g b _ (λz=>by cases z) (I.base.frzs b i u q),λb D q=>?_⟩,I.loc,I.cell,h _ I.free,λx c q=>h _ (I.freeC x c q),λp A=>?_,λa u q=>?_,I.len⟩
 .obtain⟨more,z⟩:=I.base.tbls b D q;show⟨more,g b _ (λz=>by cases z) z⟩
 .obtain⟨h1,m,r,t,v⟩:=I.pin p A;show⟨h1,h _ m,r,t,v⟩
 .by_cases j:a=d
  .subst j;rw[qb] at q;cases q;show⟨y,st _ _ (I.hok _ _ e)⟩
  .rw [qj j] at q;show st _ _ (I.hok _ _ q)
def Itk(d:Addr)(o:Obj)(kvs:List (Key×V)):It:=
 ⟨λi H=>H d=some (.frz o (.dK kvs))/\i<kvs.length,λi H x a=>a=H/\∃ k v,kvs[i]?=some (k,v)/\x=kV k,λi H=>H d=some (.frz o (.dK kvs))/\kvs.length=i⟩
theorem zH{a b:Type}{F:a->b->Prop}:∀{l:List a} {m:List b},Paired F l m->l.length=m.length
 | _,_,.nil=>rfl
 | _,_,.cons _ t=>congrArg (· + 1) (zH t)
theorem qdy{a b:Type}{F:a->b->Prop}:∀{l:List a} {m:List b},Paired F l m->∀{i:Nat} {x:a},l[i]?=some x->∃ y,m[i]?=some y/\F x y
 | _,_,.nil,i,x,h=>by simp at h
 | _,_,.cons r t,0,x,h=>by simp at h;subst h;show⟨_,rfl,r⟩
 | _,_,.cons r t,i+1,x,h=>by simp at h;simpa using qdy t h
theorem turn_keys{P:Program}{w:World}{K:yf}{tg:Expr}(d it:Addr)(o:Obj)(kvs:List (Key×V)){F:Array DictEntry}{ep:Nat}(B:o.data=.dict F ep):Turn P w K tg (Itk d o kvs) [it] it (λi h=>h.IsKeyIter it d i kvs.length ep) where
 mem:=by simp
 obj:=λi h st b hb=>by
  have e:b=it:=by simpa using hb
  subst e;obtain⟨o,e,c,d⟩:=st;show⟨o,e,λv z=>by rw[d] at z;cases z⟩
 keep:=λi h h' st k=>by
  obtain⟨o,e,c,d⟩:=st;show⟨o,k it (by simp) o e,c,d⟩
 item:=by
  intro X T hw S hc i j s σ H E I C st U;subst T hw S;obtain⟨R,hi⟩:=U;obtain⟨g,hz,aa,vs,A,o',G,D,f,l,a,W,Z,m⟩:=I.hok d _ R;rw[g] at f;cases f;rw[B] at a;cases a;obtain⟨⟨k,v⟩,y⟩:∃ q,kvs[i]?=some q:=⟨_,yb hi⟩;obtain⟨⟨k',u⟩,hu,Y,ru⟩:=qdy A y;have r:k=k':=Y;subst r;obtain⟨J,L,f2,M,N,O⟩:=C it (by simp);rw[zH A] at st;show wpAny_pyNext_dict_item (knd:=q8 X.prog X.w) st ⟨o,F,g,l,B,W,Z,m⟩ hu λkey h' p n sb=>?_;have I1:Inv X j σ H { s with heap:=h' }:=I.turned (t':=s.toks) (λb o hb e=>(sb.2 b hb).trans e) J L M N O
  have rk:RelV (kV k) key:=by
   rcases qX p with⟨i,t,rfl,rfl⟩ | ⟨x,t,rfl,rfl⟩
   .show⟨t,rfl⟩
   .show⟨t,rfl⟩
  rw[<- zH A] at n;obtain⟨o2,e2,c2,d2⟩:=id n;show⟨key,rfl,qf1 (s:={ s with heap:=h' }) e2 c2 d2 (by decide) ⟨kV k,H,I1,rk,⟨rfl,k,v,y,rfl⟩,n,λb hb=>(C b hb).1⟩⟩
 done:=by
  intro X T hw S hc i j s σ H E I C st U;subst T hw S;obtain⟨R,hi⟩:=U;obtain⟨g,hz,aa,vs,A,o',G,D,f,l,a,W,Z,m⟩:=I.hok d _ R;rw[g] at f;cases f;rw[B] at a;cases a;obtain⟨J,L,f2,M,N,O⟩:=C it (by simp);have hl:=zH A;rw[hl] at st;show wpAny_pyNext_dict_end (knd:=q8 X.prog X.w) (I.ok.hd hc) st ⟨o,F,g,l,B,W,Z,m⟩ (by rw[List.getElem?_eq_none_iff];lk) λh' eb=>⟨rfl,I.turned (t':=s.toks) (λb o hb e=>eb b o hb e) J L M N O⟩
 self:=λ_ _ _ _ _ st h=>wpAny_pyIter_keyiter st h
def qhW(c:TE):TI:=λd H R=>c d H λv b=>∃ a kvs,v=.ref a/\b a=some (.dK kvs)/\∀ o,R (Itk a o kvs) (upd b a (.frz o (.dK kvs)))
theorem qgq{X:Cx}{D e:Expr}{r:TE}(u:PE X e r):PI X D e (qhW r):=by
 intro d s E H R I h;show thn (u d s E H _ I h) λv f ⟨y,F,m,B,A⟩=>?_;obtain⟨a,kvs,rfl,n,q⟩:=A;cases B;obtain⟨G,l,vs,C,o,t,ep,p,i,c,x,z,j⟩:=m.hok a _ n;have hl:=zH C;have g:=m.freeze n p;show wpAny_pyIter_dict (knd:=q8 X.prog X.w) l ⟨o,t,p,i,c,x,z,j⟩ ?_;show⟨f.heap.objs.size,[f.heap.objs.size],_,_,_,rfl,g.kept (t':=f.toks) λb o e=>yz _ e,turn_keys a _ o kvs c,⟨_,yY _ rfl,rfl,by rw[hl];rfl⟩,λb hb=>?_,q o⟩;have e:b=f.heap.objs.size:=by simpa using hb
 subst e;show g.fpOk (yg _) (g.hok.fresh (yg _))
theorem qhj{c:TE}{d:St}{H:Hp}{R:It->Hp->Prop}(h:c d H λv b=>∃ a kvs,v=.ref a/\b a=some (.dK kvs)/\∀ o,R (Itk a o kvs) (upd b a (.frz o (.dK kvs)))):qhW c d H R:=h
theorem qdz{d:Addr}{o:Obj}{kvs:List (Key×V)}{g:TG}{s:TT}{t:TE}{h:St}{n:Hp}{Q:V->Hp->Prop}(c:Nat->List V->Hp->Prop)(A:c 0 [] n)(hl:∀ i a H,i<=kvs.length->c i a H->H d=some (.frz o (.dK kvs)))
  (D:∀ i k v a H,kvs[i]?=some (k,v)->c i a H->g (kV k) h H λj w=>s j w λb r=>if b=true then t j r λv z=>a.length<sizeLine/\c (i+1) (a++[v]) z else c (i+1) a r)
  (B:∀ a H,c kvs.length a H->a.length<=sizeLine/\∀ p,H p=none->Q (.ref p) (upd H p (.lst a))):qeR (Itk d o kvs) g s t h n Q:=by
 show⟨λi m a H=>m=kvs.length-i/\i<=kvs.length/\c i a H,⟨kvs.length,by simp,YM _,A⟩,?_⟩;rintro i m a H ⟨rfl,C,p⟩;have q:=hl i a H C p;by_cases f:i<kvs.length
 .show .inr ⟨⟨q,f⟩,c (i+1),λys' u E=>⟨kvs.length-(i+1),by lk,rfl,f,E⟩,λx u y=>?_⟩;obtain⟨e,k,v,l,rfl⟩:=y;subst e;show D i k v a _ l p
 .have e:i=kvs.length:=by lk
  subst e;show .inl ⟨⟨q,rfl⟩,B a H p⟩
structure MkO(K:yf)(C:Addr):Prop where
 makes:PySem.W.makesIn K C=true
 init:PySem.W.findIn K (.ref C) "__init__"=some (some (.builtin "object.__init__"))
 kp:PySem.W.keepIn K (.ref C)=true
structure MakeO(K:yf)(mg:Str->Option Value)(C:Addr)(x:Str):Prop where
 mk_:MkO K C
 mg_:mg x=some (.ref C)
def qgr(C:Addr):TE:=λ_ H Q=>∀ x a,H x=none->H a=none->a≠x->Q (.ref x) (upd (upd H a (.own x)) x (.ins C a []))
section
variable{X:Cx}{C:Addr}{x:Str}{p pos:Pos}
theorem run_makeO{a:List (Addr×Obj)}{c:St}{H:Hp}{s:Shared}{Q:VK}(M:MkO X.K C)(I:Inv X a c H s)(h:qgr C c H Q):wpAny (model X.prog X.w) X.A (call (.ref C) []) (EP X a c Q) X.xe s:=by
 have g:=h (s.heap.objs.size+1) s.heap.objs.size (I.hok.fresh (xm _)) (I.hok.fresh (yg _)) (Yj (XA _));have d:=Inv.made (C:=C) I;have Y:=kf (M:=model X.prog X.w) I.kIn M.makes;show XB (make_map0 I.kIn M.makes M.init (λz=>PySem.W.Looks.of_pure (PySem.W.oi_bind z)) ?_);have lt:(s.heap.push PySem.W.emptyDict).objs.size=s.heap.objs.size+1:=xL ..;have f:((s.heap.push PySem.W.emptyDict).push (PySem.W.instObj C s.heap.objs.size)).get? (s.heap.objs.size+1)=some (PySem.W.instObj C s.heap.objs.size):=Heap.get?_push_at lt.symm rfl;have ty:PySem.W.Looks (model X.prog X.w) ((s.heap.push PySem.W.emptyDict).push (PySem.W.instObj C s.heap.objs.size)) (typeOf (.ref (s.heap.objs.size+1))) (.ref C):=(PySem.W.Looks.ld f).andThen .now;have i:PySem.W.Looks (model X.prog X.w) ((s.heap.push PySem.W.emptyDict).push (PySem.W.instObj C s.heap.objs.size)) (isInstance (.ref (s.heap.objs.size+1)) (.type "object")) true:=ty.andThen (Y.top.keeps λb o e=>yz _ (yz _ e));show xy PySem.W.oi_plain PySem.W.entry_oi (@PySem.W.check_slot _ _ _ _ "object.__init__" "object" "__init__" (.ref (s.heap.objs.size+1)) [] [] _ PySem.W.oi_kind PySem.W.oi_split i (PySem.W.oi_args (.ref (s.heap.objs.size+1))) ?_);rw[PySem.W.oi_run];show yE ⟨rfl,⟨V.ref (s.heap.objs.size+1),_,d,rfl,g⟩⟩
theorem pe_makeO(D:MakeO X.K X.mg C x)(c:Gl X x:=by rfl)(a:(x==("__debug__":Str))=false:=by decide):PE X (.Call (.Name x p) [] [] pos) (qgr C):=by
 intro b s d H Q I h;show xS (qcJ I c D.mg_ ?_ a);show PySem.W.callWith_K0 I.kIn D.mk_.kp (run_makeO D.mk_ I h)
end
end L2
namespace K73
open PySem L2 PyProof.Rows
variable{A:Str->Str->Prop}{B G H H' H1 H2 J J':Hp}{C L M T e ns ps tr:LN}{D:Ends}{E:XK}{K:W.Frag}{N:Addr->Prop}{a b g i j n s v:Nat}{c cw d dx fo l p q t x:Addr}{cc:Nat->Addr}{cl:Nat->Bool}{first way:Int}{kps tps:LP}{kvs:List (Key×V)}{m m1:Str->Option (LS)}{o:HO}{ol:V}{r ss:LS}{ts us:LI}{xs ys:List V}{y z:Str}{α β:Type}{σ:L2.St}
theorem Sr(H:Hp):L2.Same H H:=L2.Same.refl H
theorem jT{k:Nat}{A:Around}(a:Room k A):A.units+100<cLine:=by have:=a.un;lk
theorem hmR{k:Nat}{A:Around}(a:Room k A)(h:j<=k:=by decide):Room j A:=a.mono h
local macro_rules | `(tactic| walk_at "w")=>`(tactic| first
 | with_reducible refine vSeq ?_ | with_reducible refine vAsg ?_ | with_reducible refine vAsgS ?_ | with_reducible refine vIfS ?_ | with_reducible refine vRet ?_ | with_reducible refine vNext ?_ | with_reducible refine vC ?_
 | ((with_reducible refine' vVar ?hv ?_);(case hv=>rfl)) | with_reducible refine vOp ?_ | with_reducible refine vChain ?_ | with_reducible refine vNil ?_ | with_reducible refine vCons ?_ | with_reducible refine vCB ?_ | with_reducible refine vCall ?_
 | with_reducible refine vLst ?_ | with_reducible refine vTup ?_ | with_reducible refine vTest ?_ | with_reducible refine vB ?_ | with_reducible refine vNot ?_ | with_reducible refine vAnd ?_ | with_reducible refine vOr ?_
 | with_reducible refine vAndV ?_ | with_reducible refine vOrV ?_ | with_reducible refine vNotV ?_ | with_reducible refine vYes ?_ | with_reducible refine vLeI ?_ | with_reducible refine vLeS ?_ | with_reducible refine vIsB ?_ | with_reducible refine vAddI ?_ | with_reducible refine vSl ?_ | with_reducible refine vNoPart ?_ | with_reducible refine vPart ?_ | with_reducible refine vExI ?_ | with_reducible refine vBM ?_ | with_reducible refine vBM0 ?_ | with_reducible refine vComp ?_ | with_reducible refine vFor ?_ | with_reducible refine vRng1 ?_ | with_reducible refine vAny ?_ | with_reducible refine vGN ?_ | with_reducible refine vI0 ?_ | with_reducible refine vEqI ?_ | with_reducible refine vEqB ?_ | with_reducible refine vEx ?_ | with_reducible refine vDrop ?_ | with_reducible refine vRetN ?_ | with_reducible refine vFldU ?_ | with_reducible refine vSFldU ?_ | with_reducible refine vXMake ?_ | with_reducible refine vMake ?_ | with_reducible refine vMeth ?_ | with_reducible refine vVinit ?_ | with_reducible refine vCallS ?_ | with_reducible refine vRaise ?_ | with_reducible refine vMethS ?_ | with_reducible refine vMakeS ?_ | with_reducible refine vUn ?_ | with_reducible refine vIf ?_ | with_reducible refine vRev ?_ | with_reducible refine vEnum ?_ | with_reducible refine vDGet2 ?_ | with_reducible refine vStep ?_)
local macro_rules | `(tactic| walk_at "v")=>`(tactic| repeat walk_at "w")
local macro_rules | `(tactic| ext)=>`(tactic| walk_at "v")
local macro_rules | `(tactic| apply $e)=>`(tactic| (ext;refine $e))
structure Txt(K:W.Frag)(mg:Str->Option Value)(cc:Nat->Addr)(cw:Addr):Prop where
 b_len:mg "len"=none
 b_int:mg "int"=none
 b_enumerate:mg "enumerate"=none
 b_all:mg "all"=none
 b_max:mg "max"=none
 b_min:mg "min"=none
 b_isinstance:mg "isinstance"=none
 b_bool:mg "bool"=none
 b_str:mg "str"=none
 b_range:mg "range"=none
 b_list:mg "list"=none
 b_tuple:mg "tuple"=none
 g_LONGEST_NAME:∃ tk,mg "LONGEST_NAME"=some (.int 6 tk)
 g_MOST_PLACES:∃ tk,mg "MOST_PLACES"=some (.int 14 tk)
 g_MOST_TIES:∃ tk,mg "MOST_TIES"=some (.int 30 tk)
 wcl:Cls K cw
 wn:NoAttr K cw "numbers"
 wo:NoAttr K cw "order"
 wr:NoAttr K cw "near"
 g_MOST_SUMMED:∃ tk,mg "MOST_SUMMED"=some (.int 40 tk)
 g_HIGHEST_SUMMED:∃ tk,mg "HIGHEST_SUMMED"=some (.int 1073741823 tk)
 m_Web:mg "Web"=some (.ref cw)
 m_Road:mg "Road"=some (.ref (cc 8))
 pcl:Cls K (cc 8)
 pb:NoAttr K (cc 8) "board"
 pp:NoAttr K (cc 8) "path"
 b_zip:mg "zip"=none
 b_sorted:mg "sorted"=none
theorem uU:FnScope wqn wqn (qf qaq):=fS
theorem uV:FnScope wqt wqt (qf qa3):=fS
theorem uN:FnScope wqu wqu (qf qay):=fS
theorem Ku:FnScope ["numbers","thing","both"] wqu (qf jJ):=fS
theorem qw(a:L2.Same H H1)(hl:H1 l=none):L2.Same H (upd H1 l o):=λc u e=>by
 have q:=a c u e;rw[qj (qI q hl)];show q
theorem qhk(a:L2.Same H H1)(hl:H l=none):L2.Same H (upd H1 l o):=λc u e=>by
 rw[qj (qI e hl)];show a c u e
def sg(c:Nat):Bool:=if (!decide (([c]:LN)<("a":Str).cps.toList))=true then !decide (("z":Str).cps.toList < [c]) else false
def qaQ(x:Str):Bool:=if 1<=x.length/\x.length<=6 then x.cps.toList.all sg else false
theorem nameS_at{x:Str}(h:qaQ x=true):1<=x.length/\x.length<=6/\x.cps.toList.all sg=true:=by
 unfold qaQ at h;split at h
 .rename_i z;show⟨z.1,z.2,h⟩
 .cases h
structure All2{α β:Type}(R:α->β->Prop)(l:List α)(m:List β):Prop where
 len:l.length=m.length
 at_:∀(k:Nat) a b,l[k]?=some a->m[k]?=some b->R a b
theorem All2.nil{R:α->β->Prop}:All2 R [] []:=⟨rfl,λk a b h=>by simp at h⟩
theorem All2.mono{R S:α->β->Prop}{l:List α}{m:List β}(h:All2 R l m)(f:∀ a b,R a b->S a b):All2 S l m:=⟨h.len,λk a b x y=>f a b (h.at_ k a b x y)⟩
theorem All2.snoc{R:α->β->Prop}{l:List α}{m:List β}{x:α}{y:β}(h:All2 R l m)(r:R x y):All2 R (l++[x]) (m++[y]):=by
 show⟨by rw[yu,yu,h.len];rfl,λk a b c hb=>?_⟩;by_cases d:k<l.length
 .rw [yX d] at c;rw[yX (by rw[<- h.len];show d)] at hb;show h.at_ k a b c hb
 .rw [Ye (by lk)] at c;rw[Ye (by rw[<- h.len];lk)] at hb
  have e:k-l.length=0:=by
   have:=(yc.mp c).1;simp at this;lk
  rw[<- h.len] at hb;rw[e] at c hb;cases c;cases hb;show r
theorem All2.mem{R:α->β->Prop}{l:List α}{m:List β}(h:All2 R l m){x:α}(c:x∈l):∃ y∈m,R x y:=by
 obtain⟨k,b,e⟩:=List.getElem_of_mem c;have a:k<m.length:=by rw[<- h.len];show b
 show⟨m[k],Yz a,h.at_ k x m[k] (by rw[yb b,e]) (yb a)⟩
def PL(H:Hp)(l:Addr)(ts:LI)(tps:LP):Prop:=H l=some (.lst (ts.map V.ref))/\All2 (λt a=>H t=some (.tup [.str a.1,.str a.2])) ts tps
theorem PL.same(h:PL H l ts tps)(s:L2.Same H H'):PL H' l ts tps:=⟨s _ _ h.1,h.2.mono λ_ _ z=>s _ _ z⟩
section
variable{P:Program}{w:World}{K:W.Frag}{mg:Str->Option Value}{base:Heap}{cc:Nat->Addr}{cw:Addr}{f:Addr}{fd:FuncData}
inductive spName(vs:List V)(H:Hp)(Q:VK)(E:XK):Prop|mk (x:Str) (_:vs=[.str x]) (_:qaQ x=true) (_:∀ H',L2.Same H H'->Q (.bl true) H')
theorem ok_name(F:Fun K "is_name" "is_name" qaq f fd)(T:Txt K mg cc cw):wq9 1 f fd wqn spName:=by
 show F.ok uU λ_ _ _ _ H vs Q E r h=>?_
 .obtain⟨x,rfl,j,q⟩:=h;obtain⟨s,n,p⟩:=nameS_at j;show⟨_,(qc (qR (PW.pt (qcn (jw (qY (qq (qbA (K:=K) rfl) rfl T.b_isinstance YT (qa (pv 0) (qa (j7 (v:=.ty "str") rfl T.b_str boot_str rfl) qd))))) (qbw (jw (pt_chain qgV qgV qh (qq (j8 (K:=K) rfl) rfl T.b_len YE (qa (pv 0) qd)) (qa0 rfl T.g_LONGEST_NAME)))))) (qg (qp qah)) qu)
 (qg (qp (qq (qhc (K:=K) rfl rfl) rfl T.b_all boot_all (qa (qL (sc:=qf qaq) (XN:=wqn) ["sign"] 1 [] rfl rfl rfl (by room) rfl (by room)
  (qF (K:=K) rfl (pv 0)) (λ_ _ _ _=>(qi (i:=0) (show(["sign"]:LS).Nodup by room) rfl (yF rfl))) qA
  (λ_ _ _ _=>jj)
  (λ_ _ _ _=>(qen qgV qgV qaI (pv 0) qaI))) qd))))),?_⟩
  apply qds (.inl (.str x)) rfl (qam K "str" (by simp) "str" (by simp)) ?_;apply yp ?_;apply vLenS (yh n (by decide)) ?_;apply qP (λh1=>?_) λh1=>absurd (yw (by lk)) h1;apply qP (λe=>by simp only[YF,Yn] at e;lk) λe=>?_;apply comp_str (λi ys H'=>H'=H/\ys=((x.cps.toList.take i).map sg).map V.bl) ⟨rfl,by simp⟩ (λi c ys H' hc d=>?_) λys H' d=>?_
  .obtain⟨rfl,rfl⟩:=d;apply zu ?_;ext
   have hl:(List.map V.bl (List.map sg (List.take i x.cps.toList))).length<sizeLine:=by
    rw[ya,ya,yH];show qe (yh (kg _ _) (by simpa [Str.length] using(show x.length<=1000 by lk)))
   have key:∀ b,b=sg c->(List.map V.bl (List.map sg (List.take i x.cps.toList)))++[V.bl b]=List.map V.bl (List.map sg (List.take (i+1) x.cps.toList)):=by
    intro b hb;have g:x.cps.toList[i]?=some c:=by simpa using hc
    rw[hb,yA,g];simp
   show qP (λa=>?_) λa=>⟨hl,rfl,key _ (by unfold sg;rw[yC a])⟩;apply⟨hl,rfl,key _ (by unfold sg;rw[yG a])⟩
  .obtain⟨rfl,rfl⟩:=d;have m:x.cps.toList.take x.cps.size=x.cps.toList:=by rw[<- Xp,yv]
   rw[m];show⟨?_,λl hl=>?_⟩
   .rw [ya,ya];show yI (qe (by simpa [Str.length] using(show x.length<=1000 by lk)))
   .ext;show⟨l,x.cps.toList.map sg,rfl,SqL.of qb,?_⟩;have z:=q _ (qw (Sr H') (o:=.lst ((x.cps.toList.map sg).map V.bl)) hl);rw[kD];rw[<- p] at z;show z
inductive spBit(vs:List V)(H:Hp)(Q:VK)(E:XK):Prop|mk (b n:Int) (_:vs=[.int b,.int n]) (_:0<=n) (_:Q (.bl (decide (Builtin.bitAnd (b / 2 ^ n.toNat) 1=1))) H)
theorem ok_bit(F:Fun K "has_bit" "has_bit" qa3 f fd):wq9 1 f fd wqt spBit:=by
 show F.ok uV λ_ _ _ _ H vs Q E c h=>?_
 .obtain⟨b,n,rfl,a,q⟩:=h;have d:=jT c;show⟨_,(qg (qp (jL (jX (K:=K) rfl d) (qC qdb (qC qda (pv 0) (pv 1)) qh) qh (qv _)))),?_⟩;apply vI a ?_;apply .inl (.inl (.inl ⟨rfl,rfl,?_⟩));show q
def qb7:LS->Nat->List (Key×V)
 | [],_=>[]
 | s::r,i=>(.inr s,.int i)::qb7 r (i+1)
theorem qdA(y:Str):∀(ss:LS) (i:Nat),qb7 (ss++[y]) i=qb7 ss i++[(.inr y,.int (i+ss.length:Nat))]
 | [],i=>rfl
 | s::r,i=>by
  show(_::qb7 (r++[y]) (i+1))=_::(qb7 r (i+1)++_);rw[qdA y r (i+1)];have:i+1+r.length=i+(s::r).length:=by simp;lk
  rw[this]
theorem zU:∀(ss:LS) (i:Nat),(qb7 ss i).length=ss.length
 | [],_=>rfl
 | _::r,i=>congrArg (· + 1) (zU r (i+1))
theorem qa4:∀{ss:LS} {i:Nat},y∉ss->zQ (qb7 ss i) (.inr y:Key)=none
 | [],_,_=>rfl
 | s::r,i,h=>by
  have h1:¬ s=y:=λe=>h (by rw[e];show yK);show zQ ((.inr s,V.int i)::qb7 r (i+1)) _=none;rw[jA (p:=((.inr s:Key),V.int i)) (λe=>h1 (kx e))];show qa4 λm=>h (yy _ m)
theorem j4:∀{ss:LS} {i:Nat},y∈ss->∃ j,j<ss.length/\ss[j]?=some y/\zQ (qb7 ss i) (.inr y:Key)=some (.int (i+j:Nat))
 | [],_,h=>by cases h
 | s::r,i,h=>by
  by_cases e:s=y
  .subst e;show⟨0,by simp,rfl,jI (p:=((.inr s:Key),V.int i)) rfl⟩
  .rcases yN.mp h with z | z
   .show absurd z.symm e
   .obtain⟨j,h1,b,c⟩:=j4 (i:=i+1) z;show⟨j+1,by simp;lk,by simpa using b,?_⟩;show zQ ((.inr s,V.int i)::qb7 r (i+1)) _=_;rw[jA (p:=((.inr s:Key),V.int i)) (λa=>e (kx a)),c];have:i+1+j=i+(j+1):=by lk
    rw[this]
theorem qb8(y:Str)(ss:LS)(i:Nat):(zQ (qb7 ss i) (.inr y:Key)).isSome=decide (y∈ss):=by
 by_cases h:y∈ss
 .obtain⟨j,_,_,e⟩:=j4 (i:=i) h;rw[e,yw h];rfl
 .rw [qa4 h,yk h];rfl
inductive spPlace(vs:List V)(H:Hp)(Q:VK)(E:XK):Prop|mk (d:Addr) (ss:LS) (x:Str) (_:vs=[.ref d,.str x]) (_:H d=some (.dK (qb7 ss 0))) (_:qaQ x=true) (_:x∈ss) (_:∀ H',L2.Same H H'->Q (.bl true) H')
theorem ok_place(F:Fun K "is_place" "is_place" qay f fd)(c:wq7 1 "is_name" wqn spName):wq9 2 f fd wqu spPlace:=by
 show F.ok uN λ_ _ _ _ H vs Q E a h=>?_
 .obtain⟨d,ss,x,rfl,e,g,j,q⟩:=h;have i:=jT a;show⟨_,(qg (qp (qbP (qk c (hmR a) qt (qa (pv 1) qd)) (qbx (jL (qcP (K:=K) rfl i) (pv 1) (pv 0) (by with_unfolding_all rfl)))))),?_⟩;apply⟨x,rfl,g,λH1 b=>?_⟩;apply zu ?_;apply .inr (.inl ⟨d,_,rfl,DGet.k (k:=Sum.inr x) (b d _ e),?_⟩);rw[qb8,yw j];show q H1 b
inductive spTwo(vs:List V)(H:Hp)(Q:VK)(E:XK):Prop|mk (d t:Addr) (ss:LS) (a b:Str) (_:vs=[.ref d,.ref t]) (_:H d=some (.dK (qb7 ss 0))) (_:H t=some (.tup [.str a,.str b])) (_:qaQ a=true) (_:qaQ b=true) (_:a∈ss) (_:b∈ss) (_:a≠b) (_:∀ H',L2.Same H H'->Q (.bl true) H')
theorem ok_two(F:Fun K "are_two_places" "are_two_places" jJ f fd)(T:Txt K mg cc cw)(o:wq7 2 "is_place" wqu spPlace):wq9 3 f fd wqu spTwo:=by
 show F.ok Ku λ_ _ _ _ H vs Q E m h=>?_
 .obtain⟨d,t,ss,a,b,rfl,p,c,s,u,r,hb,l,q⟩:=h;have g:=jT m;show⟨_,(qc (qR (PW.pt (qcn (jw (qY (qq (qbA (K:=K) rfl) rfl T.b_isinstance YT (qa (pv 1) (qa (j7 (v:=.ty "tuple") rfl T.b_tuple boot_tuple rfl) qd))))) (qbw (qm (zv (K:=K) rfl g) (qq (j8 (K:=K) rfl) rfl T.b_len YE (qa (pv 1) qd)) qh (qv _))))) (qg (qp qah)) qu)
 (qc (qo (i:=2) Ku.nd rfl (yF rfl) (qbP (qk o (hmR m) qt (qa (pv 0) (qa (qx (qz (K:=K) rfl g) (pv 1) qh (λ_ _=>rfl)) qd))) (qbx (qk o (hmR m) qt (qa (pv 0) (qa (qx (qz (K:=K) rfl g) (pv 1) qh (λ_ _=>rfl)) qd))))))
 (qg (qp (qbP (pv 2) (qbx (jL (zv (K:=K) rfl g) (qx (qz (K:=K) rfl g) (pv 1) qh (λ_ _=>rfl)) (qx (qz (K:=K) rfl g) (pv 1) qh (λ_ _=>rfl)) (qv _)))))))),?_⟩
  apply qds (.inl (.tup c)) rfl (qam K "tuple" (by simp) "tuple" (by simp)) ?_;apply yp ?_;apply qhb c ?_;apply .inl ⟨rfl,rfl,?_⟩;apply yp ?_;apply .inl (qcp c rfl ?_);apply⟨d,ss,a,rfl,p,s,r,λH1 j=>?_⟩;apply zu ?_;apply .inl (qcp (j _ _ c) rfl ?_);apply⟨d,ss,b,rfl,j _ _ p,u,hb,λH2 n=>?_⟩;apply zu ?_;apply .inl (qcp (n _ _ (j _ _ c)) rfl ?_);apply .inl (qcp (n _ _ (j _ _ c)) rfl ?_);show .inl ⟨rfl,rfl,?_⟩;have z:=q H2 (j.trans n);have e:(if true=true then !eqV (V.str a) (V.str b) else eqV (V.str a) (V.str b))=true:=by simp[eqV,l]
  rw[e];show z
theorem Ks:FnScope ["names","numbers","name"] wq2 (qf zx):=fS
theorem qb9(m j:Nat):decide (Builtin.bitAnd ((m:Int) / 2 ^ (j:Int).toNat) 1=1)=m.testBit j:=by
 rw[xW,Nat.testBit_eq_decide_div_mod_eq];rw[y6];have e:(m:Int) / 2 ^ j=((m / 2 ^ j:Nat):Int):=by rw[Int.natCast_ediv,xZ];rfl
 rw[e]
 congr 1
 apply propext;lk
theorem qgs(m j:Nat):Builtin.bitOr (m:Int) (1*2 ^ (j:Int).toNat)=((m ||| 2 ^ j:Nat):Int):=by
 have e:(1*2 ^ (j:Int).toNat:Int)=((2 ^ j:Nat):Int):=by rw[y6,X5,xZ];rfl
 rw[e];generalize 2 ^ j=k;have c:Builtin.bitNot (m:Int)=-(m:Int)-1:=rfl;have d:Builtin.bitNot (k:Int)=-(k:Int)-1:=rfl;unfold Builtin.bitOr Builtin.bitAnd;rw[c,d,yk (by lk),yk (by lk)];dsimp only;unfold Builtin.bitNot;have a:(-(-(m:Int)-1)-1).toNat=m:=by lk
 have b:(-(-(k:Int)-1)-1).toNat=k:=by lk
 rw[a,b];lk
def But(x:Addr)(H H':Hp):Prop:=∀ b o,b≠x->H b=some o->H' b=some o
theorem But.refl(x:Addr)(H:Hp):But x H H:=λ_ _ _ e=>e
theorem But.same(a:But x H H1)(b:L2.Same H1 H2):But x H H2:=λc o n e=>b c o (a c o n e)
theorem But.put(a:But x H H1):But x H (upd H1 x o):=λc u n e=>by rw[qj n];show a c u n e
theorem But.new(a:But x H H1)(hl:H1 l=none):But x H (upd H1 l o):=a.same (qw (Sr H1) hl)
theorem isi_lst{a:Addr}{Q:VK}(h:H a=some (.lst xs))(b:H q=some (.tup [.ty "list",.ty "tuple"]))(k:Q (.bl true) H):qff K [.ref a,.ref q] H Q:=
 ⟨_,q,_,_,[.type "list",.type "tuple"],true,rfl,.inl (.lst h),b,rfl,rfl,k⟩
def LTu(H:Hp)(a:Addr)(xs:List V):Prop:=H a=some (.lst xs)\/H a=some (.tup xs)
theorem LTu.same{a:Addr}(h:LTu H a xs)(s:L2.Same H H'):LTu H' a xs:=h.imp (s _ _) (s _ _)
theorem qgt{a:Addr}{Q:VK}(h:LTu H a xs)(b:H q=some (.tup [.ty "list",.ty "tuple"]))(k:Q (.bl true) H):qff K [.ref a,.ref q] H Q:=
 h.elim (λh=>isi_lst h b k) λh=>⟨_,q,_,_,[.type "list",.type "tuple"],true,rfl,.inl (.tup h),b,rfl,rfl,k⟩
theorem qgu{a:Addr}{Q:VK}(h:LTu H a xs)(q:Q (.int xs.length) H):qdX K [.ref a] H Q:=h.elim (λe=>zT e q) λe=>qhb e q
def qhX(g:TG)(t:TS)(D:Ends)(σ:L2.St)(J:It)(H1:Hp):Prop:=∃ W:Nat->Nat->L2.St->Hp->Prop,(∃ m,W 0 m σ H1)/\∀ i m σ H,W i m σ H ->
 (J.stop i H/\D.nx σ H)\/(J.go i H/\∃ N:L2.St->Hp->Prop,(∀ a H',N a H'->∃ c,c<m/\W (i+1) c a H')/\∀ x H',J.yld i H x H'->g x σ H' λb H2=>t { D with nx:=N,ct:=N,bk:=D.nx } b H2)
theorem qgv{a:Addr}{g:TG}{d:TS}(h:LTu H a xs)(n:L2.Same H H1)(b:Nat->L2.St->Hp->Prop)(j:b 0 σ H1)(hl:∀ i σ H',b i σ H'->L2.Same H H')
  (m:∀ i x σ H,xs[i]?=some x->b i σ H->g x σ H λf H2=>d { D with nx:=b (i+1),ct:=b (i+1),bk:=D.nx } f H2) (l:∀ σ H,b xs.length σ H->D.nx σ H) :
  ((∃ xs,SqL K H1 a xs)/\qhX g d D σ (Itl K a) H1)\/((∃ xs,SqT K H1 a xs)/\qhX g d D σ (Itt K a) H1):=by
 rcases h with e | e
 .show .inl ⟨⟨_,SqL.of (n _ _ e)⟩,ju (K:=K) b j (λi σ H' _ c=>SqL.of (hl i σ H' c _ _ e)) m l⟩
 .show .inr ⟨⟨_,SqT.of (n _ _ e)⟩,for_tup (K:=K) b j (λi σ H' _ c=>SqT.of (hl i σ H' c _ _ e)) m l⟩
inductive spNums(vs:List V)(H:Hp)(Q:VK)(E:XK):Prop|mk (a:Addr) (ss:LS) (_:vs=[.ref a]) (_:LTu H a (ss.map V.str)) (_:ss.length<=14) (_:ss.Nodup) (_:(∀ s∈ss,qaQ s=true)) (_:∀ d H',L2.Same H H'->H d=none->H' d=some (.dK (qb7 ss 0))->Q (.ref d) H')
theorem ok_nums(F:Fun K "numbers_of" "numbers_of" zx f fd)(T:Txt K mg cc cw)(L:wq7 1 "is_name" wqn spName) :
  wq9 4 f fd wq2 spNums:=by
 show F.ok Ks λ_ _ _ _ H vs Q E D h=>?_
 .obtain⟨a,ss,rfl,n,M,p,r,q⟩:=h;have G:=jT D;show⟨_,(qc (qR (jw (qY (qq (qfg (K:=K) rfl) rfl T.b_isinstance YT (qa (pv 0) (qa (jD (qa (j7 (v:=.ty "list") rfl T.b_list Xc rfl) (qa (j7 (v:=.ty "tuple") rfl T.b_tuple boot_tuple rfl) qd))) qd))))) (qg ji) qu)
 (qc (qR (qm qe1 (qq (j8 (K:=K) rfl) rfl T.b_len YE (qa (pv 0) qd)) (qa0 rfl T.g_MOST_PLACES) (qv _)) (qg ji) qu)
 (qc (qo (i:=1) Ks.nd rfl (yF rfl) qcN)
 (qc (je yS rfl (qF (K:=K) rfl (pv 0)) (qi (i:=2) Ks.nd rfl (yF rfl))
 (qc (qR (jw (qY (qk L (hmR D) qt (qa (pv 2) qd)))) (qg ji) qu)
 (qc (qR (qm (qcP (K:=K) rfl G) (pv 2) (pv 1) (by with_unfolding_all rfl)) (qg ji) qu)
 (qg (qaj (qq (j8 (K:=K) rfl) rfl T.b_len YE (qa (pv 1) qd)) (qaJ (pv 1) (pv 2) (qaK G)))))))
 (qg (qp (pv 1))))))),?_⟩
  apply⟨wqqd,λg N=>?_⟩;have l:=qw (Sr H) (o:=.tup [.ty "list",.ty "tuple"]) N;apply qgt (n.same l) qb ?_;apply yp ?_;apply qgu (n.same l) ?_;rw[ya];apply qP (λh=>by have:=yj h;lk) λ_=>?_;ext;intro d B;have J:=qw l (o:=.dK []) B;have c:H d=none:=l.free B;apply qgv (K:=K) n J (λi σ H'=>∃ u,σ=[some (.ref a),some (.ref d),u]/\L2.Same H H'/\H' d=some (.dK (qb7 (ss.take i) 0))) ⟨none,rfl,J,qb⟩ (λi σ H' e=>by obtain⟨_,_,z,_⟩:=e;show z) (λi y σ H' I e=>?_) fun σ H' e=>?_
  .obtain⟨u,rfl,t,b⟩:=e;rw[yd] at I;obtain⟨x,s,rfl⟩:=ym.mp I;have O:i<ss.length:=(yc.mp s).1;have j:ss.take (i+1)=ss.take i++[x]:=by rw[yA,s];rfl
   have C:x∉ss.take i:=λz=>by
    have A:(ss.take (i+1)).Nodup:=p.sublist (Xs _ _);rw[j] at A;show(xz.mp A).2.2 _ z x (by simp) rfl
   apply⟨x,rfl,r x (ye s),λH1 m=>?_⟩;have R:=t.trans m;apply yp ?_;apply .inr (.inl ⟨d,_,rfl,DGet.k (k:=Sum.inr x) (m _ _ b),?_⟩);rw[qb8,yk C];apply yp ?_;apply .inr ⟨_,m _ _ b,?_⟩;apply .inr ⟨d,_,rfl,DPut.k (k:=Sum.inr x) (m _ _ b) (qe (by rw[zU,yH];lk)),?_⟩;show⟨_,rfl,qhk R c,?_⟩;rw[qb,qer _ (qa4 C),j,qdA,zU];simp only[YS]
  .obtain⟨u,rfl,t,b⟩:=e;ext;rw[ya,yv] at b;show q d H' t c b
theorem uO:FnScope wqs wqs (qf qaz):=fS
theorem Kg:FnScope ["numbers","ties","near","tie","one","other"] wq6 (qf qa5):=fS
def qcC(ss:LS)(ns:LN)(c:LP):Prop:=ns.length=ss.length/\(∀ a,ns.getD a 0<2 ^ ss.length)/\∀ a b s t,ss[a]?=some s->ss[b]?=some t->(ns.getD a 0).testBit b=decide ((s,t)∈c\/(t,s)∈c)
theorem jf(h:ss.Nodup){s:Str}(i:ss[a]?=some s)(hb:ss[b]?=some s):a=b:=by
 have e:=Yg.mp h;obtain⟨f,c⟩:=yc.mp i;obtain⟨g,d⟩:=yc.mp hb;rcases Nat.lt_trichotomy a b with q | q | q
 .show absurd (c.trans d.symm) (e a b f g q)
 .show q
 .show absurd (d.trans c.symm) (e b a g f q)
theorem bits_zero:qcC ss (List.replicate ss.length 0) []:=by
 have z:∀ a,(List.replicate ss.length 0).getD a 0=0:=λa=>by
  simp only[List.getD,Xr];split<;>rfl
 show⟨by simp,λa=>by rw[z a];show Nat.two_pow_pos _,λa b s t c hb=>?_⟩;rw[z a];simp
theorem qa6(h:i<ns.length):(ns.set i v).getD j 0=if i=j then v else ns.getD j 0:=by
 simp only[List.getD,List.getElem?_set];by_cases e:i=j
 .subst e;simp[h]
 .simp [e]
theorem bits_step{f:LP}(hb:qcC ss ns f)(o:ss.Nodup){s t:Str}(d:ss[i]?=some s)(l:ss[j]?=some t)(n:s≠t) :
  qcC ss ((ns.set i (ns.getD i 0 ||| 2 ^ j)).set j (ns.getD j 0 ||| 2 ^ i)) (f++[(s,t)]):=by
 obtain⟨hl,m,h⟩:=hb;have B:i<ns.length:=by rw[hl];show(yc.mp d).1
 have C:j<ns.length:=by rw[hl];show(yc.mp l).1
 have D:i≠j:=λe=>by rw[e,l] at d;cases d;show n rfl
 have y:i<ss.length:=(yc.mp d).1;have A:j<ss.length:=(yc.mp l).1;show⟨by simp[hl],λa=>?_,λa b u v g c=>?_⟩
 .rw [qa6 (by simpa using C),qa6 B];split
  .show X6 (m _) (Xh (by decide) y)
  .split
   .show X6 (m _) (Xh (by decide) A)
   .show m _
 rw[qa6 (by simpa using C),qa6 B];have p:=h a b u v g c;have key:∀ P Q:Prop,(P↔Q)->∀ [Decidable P] [Decidable Q],decide P=decide Q:=λP Q e=>by intro _ _;show Yi.mpr e
 by_cases w:j=a
 .subst w;rw[l] at g;cases g;rw[yG rfl,xQ,p,xG];by_cases r:i=b
  .subst r;rw[d] at c;cases c;simp
  .have vs:v≠s:=λe=>by subst e;show r (jf o d c)
   simp only[r,kE,Xq];apply Yi.mpr;simp only[yO,yx,X9];constructor
   .rintro (z | z)
    .show .inl (.inl z)
    .show .inr (.inl z)
   .rintro ((z | ⟨z,_⟩) | (z | ⟨z,_⟩))
    .show .inl z
    .show absurd z.symm n
    .show .inr z
    .show absurd z vs
 .rw [yC w];by_cases q:i=a
  .subst q;rw[d] at g;cases g;rw[yG rfl,xQ,p,xG];by_cases x:j=b
   .subst x;rw[l] at c;cases c;simp
   .have F:v≠t:=λe=>by subst e;show x (jf o l c)
    simp only[x,kE,Xq];apply Yi.mpr;simp only[yO,yx,X9];constructor
    .rintro (z | z)
     .show .inl (.inl z)
     .show .inr (.inl z)
    .rintro ((z | ⟨_,z⟩) | (z | ⟨_,z⟩))
     .show .inl z
     .show absurd z F
     .show .inr z
     .show absurd z n
  .rw [yC q,p];have us:u≠s:=λe=>by subst e;show q (jf o d g)
   have E:u≠t:=λe=>by subst e;show w (jf o l g)
   apply Yi.mpr;simp only[yO,yx,X9];constructor
   .rintro (z | z)
    .show .inl (.inl z)
    .show .inr (.inl z)
   .rintro ((z | ⟨z,_⟩) | (z | ⟨_,z⟩))
    .show .inl z
    .show absurd z us
    .show .inr z
    .show absurd z E
def qc6(ns:LN):List V:=ns.map λ(n:Nat)=>.int (n:Int)
theorem qa7(h:i<ns.length):(qc6 ns)[i]?=some (.int (ns.getD i 0:Nat)):=by
 unfold qc6;rw[yd,yb h];simp[List.getD,h]
theorem qeF(ns:LN)(i m:Nat):(qc6 ns).set i (.int m)=qc6 (ns.set i m):=by
 unfold qc6;rw[List.map_set]
theorem natV_zero(k:Nat):(List.replicate k [V.int 0]).flatten=qc6 (List.replicate k 0):=by
 induction k with
 | zero=>rfl
 | succ k ih=>rw[xk,Xe,ih];rfl
theorem zk(h:j<n):ixN n (j:Int)=some j:=by
 unfold ixN;rw[yG (by lk),yG (by lk)];rfl
def UN(x y:Str×Str):Prop:=x≠y/\x≠(y.2,y.1)
theorem UN.symm{x y:Str×Str}(h:UN x y):UN y x:=⟨λe=>h.1 e.symm,λe=>h.2 (by rw[e])⟩
structure TGo(ss:LS)(tps:LP):Prop where
 few:tps.length<=30
 inn:∀ ab∈tps,ab.1∈ss/\ab.2∈ss/\ab.1≠ab.2
 un:tps.Pairwise UN
structure WOk(ss:LS)(ns:LN):Prop where
 len:ns.length=ss.length
 few:ss.length<=14
 nd:ss.Nodup
 lt:∀ a,ns.getD a 0<2 ^ ss.length
 nm:∀ s∈ss,qaQ s=true
inductive WebAt(cw:Addr)(H:Hp)(x:Addr)(ss:LS)(ns:LN):Prop|mk (dx d ol n:_) (_:H x=some (.ins cw dx (jC "near" (.ref n) (jC "order" (.ref ol) (jC "numbers" (.ref d) []))))) (_:H d=some (.dK (qb7 ss 0))) (_:H ol=some (.lst (ss.map V.str))) (_:H n=some (.lst (qc6 ns))) (_:WOk ss ns)
theorem WebAt.same(h:WebAt cw H x ss ns)(s:L2.Same H H'):WebAt cw H' x ss ns:=by
 obtain⟨dx,d,ol,n,h1,a,b,c,e⟩:=h;show⟨dx,d,ol,n,s _ _ h1,s _ _ a,s _ _ b,s _ _ c,e⟩
inductive WebN(H0:Hp)(cw:Addr)(H:Hp)(x:Addr)(ss:LS)(ns:LN):Prop|mk (dx d ol n:_) (_:H x=some (.ins cw dx (jC "near" (.ref n) (jC "order" (.ref ol) (jC "numbers" (.ref d) []))))) (_:H d=some (.dK (qb7 ss 0))) (_:H ol=some (.lst (ss.map V.str))) (_:H n=some (.lst (qc6 ns))) (_:WOk ss ns) (_:H0 d=none) (_:H0 ol=none) (_:H0 n=none)
inductive WebP(A:Addr->Prop)(cw:Addr)(H:Hp)(x:Addr)(ss:LS)(ns:LN):Prop|mk (dx d ol n:_) (_:H x=some (.ins cw dx (jC "near" (.ref n) (jC "order" (.ref ol) (jC "numbers" (.ref d) []))))) (_:H d=some (.dK (qb7 ss 0))) (_:H ol=some (.lst (ss.map V.str))) (_:H n=some (.lst (qc6 ns))) (_:WOk ss ns) (_:¬ A x) (_:¬ A d) (_:¬ A ol) (_:¬ A n)
theorem qdB:∀(ss:LS) (i:Nat),(qb7 ss i).map (λa=>kV a.1)=ss.map V.str
 | [],_=>rfl
 | s::r,i=>congrArg (V.str s::·) (qdB r (i+1))
def PLT(H:Hp)(l:Addr)(ts:LI)(tps:LP):Prop:=LTu H l (ts.map V.ref)/\All2 (λt a=>H t=some (.tup [.str a.1,.str a.2])) ts tps
inductive spNear(vs:List V)(H:Hp)(Q:VK)(E:XK):Prop|mk (d l:Addr) (ss:LS) (ts:LI) (tps:LP) (_:vs=[.ref d,.ref l]) (_:H d=some (.dK (qb7 ss 0))) (_:ss.length<=14) (_:ss.Nodup) (_:(∀ s∈ss,qaQ s=true)) (_:PLT H l ts tps) (_:TGo ss tps) (_:∀ n ns H',L2.Same H H'->H n=none->H' n=some (.lst (qc6 ns))->qcC ss ns tps->Q (.ref n) H')
theorem ok_near(F:Fun K "near_of" "near_of" qa5 f fd)(T:Txt K mg cc cw)(K8:wq7 3 "are_two_places" wqu spTwo)(kO:wq7 1 "has_bit" wqt spBit) :
  wq9 4 f fd wq6 spNear:=by
 show F.ok Kg λ_ _ _ _ H vs Q E hr h=>?_
 .obtain⟨d,l,ss,ts,tps,rfl,W,ai,ae,G,⟨hl,D⟩,Y,q⟩:=h;have j:=jT hr;have L:=D.len;have few:=Y.few;show⟨_,(qc (qR (jw (qY (qq (qfg (K:=K) rfl) rfl T.b_isinstance YT (qa (pv 1) (qa (jD (qa (j7 (v:=.ty "list") rfl T.b_list Xc rfl) (qa (j7 (v:=.ty "tuple") rfl T.b_tuple boot_tuple rfl) qd))) qd))))) (qg ji) qu)
 (qc (qR (qm qe1 (qq (j8 (K:=K) rfl) rfl T.b_len YE (qa (pv 1) qd)) (qa0 rfl T.g_MOST_TIES) (qv _)) (qg ji) qu)
 (qc (qo (i:=2) Kg.nd rfl (yF rfl) (qC qgh (qZ (qa qh qd)) (qq (j8 (K:=K) rfl) rfl T.b_len YE (qa (pv 0) qd))))
 (qc (je yS rfl (qF (K:=K) rfl (pv 1)) (qi (i:=3) Kg.nd rfl (yF rfl))
 (qc (qR (jw (qY (qk K8 (hmR hr) qt (qa (pv 0) (qa (pv 3) qd))))) (qg ji) qu)
 (qc (qo (i:=4) Kg.nd rfl (yF rfl) (qx (qz (K:=K) rfl j) (pv 0) (qx (qz (K:=K) rfl j) (pv 3) qh (λ_ _=>rfl)) (λ_ _=>rfl)))
 (qc (qo (i:=5) Kg.nd rfl (yF rfl) (qx (qz (K:=K) rfl j) (pv 0) (qx (qz (K:=K) rfl j) (pv 3) qh (λ_ _=>rfl)) (λ_ _=>rfl)))
 (qc (qR (qY (qk kO (hmR hr) qt (qa (qx (qz (K:=K) rfl j) (pv 2) (pv 4) (λ_ _=>rfl)) (qa (pv 5) qd)))) (qg ji) qu)
 (qc (qaj (qC qf2 (qx (qz (K:=K) rfl j) (pv 2) (pv 4) (λ_ _=>rfl)) (qC qbQ qh (pv 5))) (qaJ (pv 2) (pv 4) (qaK j)))
 (qg (qaj (qC qf2 (qx (qz (K:=K) rfl j) (pv 2) (pv 5) (λ_ _=>rfl)) (qC qbQ qh (pv 4))) (qaJ (pv 2) (pv 5) (qaK j))))))))))
 (qg (qp (pv 2))))))),?_⟩
  apply⟨wqqd,λg Z=>?_⟩;have s0:=qw (Sr H) (o:=.tup [.ty "list",.ty "tuple"]) Z;apply qgt (hl.same s0) qb ?_;apply yp ?_;apply qgu (hl.same s0) ?_;rw[ya];apply qP (λh=>by have:=yj h;lk) λ_=>?_;apply⟨wqqc,λz ag=>?_⟩;have s1:=qw s0 (o:=.lst [.int 0]) ag;apply .inr ⟨_,s1 _ _ W,?_⟩;ext;rw[zU];show⟨z,_,_,rfl,rfl,qb,by lk,by lk,by show 1*_<=sizeLine;rw[y6];show yI (qe (by lk)),λn hn=>?_⟩;rw[y6,natV_zero];have s2:=qw s1 (o:=.lst (qc6 (List.replicate ss.length 0))) hn;have n0:H n=none:=s1.free hn;apply qgv (K:=K) hl s2 (λi σ H'=>∃ v3 v4 v5 ns,σ=[some (.ref d),some (.ref l),some (.ref n),v3,v4,v5]/\L2.Same H H'/\H' n=some (.lst (qc6 ns))/\qcC ss ns (tps.take i))
   ⟨none,none,none,_,rfl,s2,qb,bits_zero⟩ (λi σ H' I=>by obtain⟨_,_,_,_,_,z,_⟩:=I;show z) (λi y σ H' hy I=>?_) fun σ H' I=>?_
  .obtain⟨v3,v4,v5,ns,rfl,N,A,a⟩:=I;rw[yd] at hy;obtain⟨t,ht,rfl⟩:=ym.mp hy;have aa:i<ts.length:=(yc.mp ht).1;obtain⟨⟨p,r⟩,u⟩:∃ ab,tps[i]?=some ab:=⟨_,yb (by rw[<- L];show aa)⟩;have U:=D.at_ i t _ ht u;obtain⟨m1,X,c⟩:=Y.inn _ (ye u);dsimp only at U m1 X c;have J:tps.take (i+1)=tps.take i++[(p,r)]:=by rw[yA,u];rfl
   have af:¬ ((p,r)∈tps.take i\/(r,p)∈tps.take i):=λz=>by
    have h3:(tps.take (i+1)).Pairwise UN:=Y.un.sublist (Xs _ _);rw[J] at h3;have h4:=(Xg.mp h3).2.2;rcases z with z | z
    .show(h4 _ z (p,r) (by simp)).1 rfl
    .show(h4 _ z (p,r) (by simp)).2 rfl
   obtain⟨C,ac,b,R⟩:=j4 (i:=0) m1;obtain⟨B,ad,s,S⟩:=j4 (i:=0) X;rw[YS] at R S;have ah:C≠B:=λe=>by rw[e,s] at b;cases b;show c rfl
   have m:C<ns.length:=by rw[a.1];show ac
   have M:B<ns.length:=by rw[a.1];show ad
   apply⟨d,t,ss,p,r,rfl,N _ _ W,N _ _ U,G _ m1,G _ X,m1,X,c,λH1 t1=>?_⟩;have O:=N.trans t1;have x:=t1 _ _ A;apply yp ?_;apply .inl (qcp (O _ _ U) rfl ?_);show .inr ⟨d,.int C,rfl,?_,?_⟩
   .have:=DGet.k (k:=Sum.inr p) (O _ _ W);rw[R] at this;show this
   apply .inl (qcp (O _ _ U) rfl ?_);show .inr ⟨d,.int B,rfl,?_,?_⟩
   .have:=DGet.k (k:=Sum.inr r) (O _ _ W);rw[S] at this;show this
   apply .inl (qbD x (qal (qa7 m)) ?_);apply⟨_,_,rfl,by lk,?_⟩;rw[qb9,a.2.2 C B p r b s,yk af];apply yp ?_;apply .inl (qbD x (qal (qa7 m)) ?_);apply vI ⟨by lk,by lk,by decide⟩ ?_;ext;rw[qgs];show .inl (qgK x (zk (by unfold qc6;rw[ya];show m)) ?_);rw[qeF];ext;have e2:(ns.set C (ns.getD C 0 ||| 2 ^ B)).getD B 0=ns.getD B 0:=by rw[qa6 m,yC ah]
   show .inl (qbD qb (qal (qa7 (by simpa using M))) ?_);apply vI ⟨by lk,by lk,by decide⟩ ?_;ext;rw[qgs,e2];show .inl (qgK qb (zk (by unfold qc6;rw[ya];simpa using M)) ?_);rw[qeF];show⟨_,_,_,_,rfl,qhk (qhk O n0) n0,qb,?_⟩;rw[J];show bits_step a ae b s c
  .obtain⟨v3,v4,v5,ns,rfl,N,A,a⟩:=I;ext;rw[ya,L,yv] at a;show q n _ H' N n0 A a
inductive spWeb(cw:Addr)(vs:List V)(H:Hp)(Q:VK)(E:XK):Prop|mk (x dx a l:Addr) (ss:LS) (ts:LI) (tps:LP) (_:vs=[.ref x,.ref a,.ref l]) (_:H x=some (.ins cw dx [])) (_:LTu H a (ss.map V.str)) (_:ss.length<=14) (_:ss.Nodup) (_:(∀ s∈ss,qaQ s=true)) (_:PLT H l ts tps) (_:TGo ss tps) (_:∀ ns H',But x H H'->WebN H cw H' x ss ns->qcC ss ns tps->Q .non H')
theorem PLT.but{C:Addr}{fs:List (Str×V)}(h:PLT H l ts tps)(a:H x=some (.ins C dx fs))(b:But x H H'):PLT H' l ts tps:=
 ⟨h.1.imp (λe=>b _ _ (qbk e a (by intro z;cases z)) e) (λe=>b _ _ (qbk e a (by intro z;cases z)) e),h.2.mono λt c e=>b _ _ (qbk e a (by intro z;cases z)) e⟩
theorem ok_web(F:Fun K "__init__" "Web.__init__" qaz f fd)(T:Txt K mg cc cw)(uC:wq7 4 "numbers_of" wq2 spNums)(u9:wq7 4 "near_of" wq6 spNear) :
  wq9 5 f fd wqs (spWeb cw):=by
 show F.ok uO λ_ _ _ _ H vs Q E N h=>?_
 .obtain⟨x,dx,a,l,ss,ts,tps,rfl,W,ha,j,nd,p,M,hg,q⟩:=h;have hu:=jT N;show⟨_,(qc (qb0 (K:=K) rfl (pv 0) (qk uC (hmR N) qt (qa (pv 1) qd)) rfl)
 (qc (qb0 (K:=K) rfl (pv 0) (zi (qb2 (K:=K) rfl rfl) rfl T.b_list Xc (qa (jx (K:=K) rfl (pv 0) rfl) qd)) rfl)
 (qg (qb0 (K:=K) rfl (pv 0) (qk u9 (hmR N) qt (qa (jx (K:=K) rfl (pv 0) rfl) (qa (pv 2) qd))) rfl)))),?_⟩
  apply⟨a,ss,rfl,ha,j,nd,p,λd H1 X L S=>?_⟩;have Y:=(But.refl x H).same X;have A:=X _ _ W;have r:d≠x:=qbk S A (by intro z;cases z);apply .inl ⟨x,cw,dx,[],rfl,A,T.wcl,T.wn,by decide,?_⟩;have J:=Y.put (o:=.ins cw dx (jC "numbers" (.ref d) []));have g:upd H1 x (.ins cw dx (jC "numbers" (.ref d) [])) d=some (.dK (qb7 ss 0)):=by rw[qj r];show S
  have c:upd H1 x (.ins cw dx (jC "numbers" (.ref d) [])) x=_:=qb;generalize upd H1 x (.ins cw dx (jC "numbers" (.ref d) []))=H2 at J g c;apply .inl ⟨x,cw,dx,_,.ref d,rfl,c,T.wcl,T.wn,by rw[qD,yG rfl],?_⟩;apply .inr (.inl ⟨d,_,rfl,g,λol s=>?_⟩);rw[qdB];have G:ol≠x:=λe=>by subst e;rw[c] at s;cases s
  have Z:=J.new (o:=.lst (ss.map V.str)) s
  have y:H ol=none:=by
   cases R:H ol with
   | none=>rfl
   | some o'=>rw[J ol o' G R] at s;cases s
  have O:d≠ol:=qI g s;apply .inl ⟨x,cw,dx,_,rfl,(by rw[qj G.symm];show c),T.wcl,T.wo,xU (jW _ _ _) (by decide),?_⟩;have D:=Z.put (o:=.ins cw dx (jC "order" (.ref ol) (jC "numbers" (.ref d) [])));have m:upd (upd H2 ol (.lst (ss.map V.str))) x (.ins cw dx (jC "order" (.ref ol) (jC "numbers" (.ref d) []))) d=some (.dK (qb7 ss 0)):=by rw[qj r,qj O];show g
  have v:upd (upd H2 ol (.lst (ss.map V.str))) x (.ins cw dx (jC "order" (.ref ol) (jC "numbers" (.ref d) []))) ol=some (.lst (ss.map V.str)):=by rw[qj G];show qb
  have i:upd (upd H2 ol (.lst (ss.map V.str))) x (.ins cw dx (jC "order" (.ref ol) (jC "numbers" (.ref d) []))) x=_:=qb;generalize upd (upd H2 ol (.lst (ss.map V.str))) x (.ins cw dx (jC "order" (.ref ol) (jC "numbers" (.ref d) [])))=H3 at D m v i;apply .inl ⟨x,cw,dx,_,.ref d,rfl,i,T.wcl,T.wn,by rw[qD,yC (by room),qD,yG rfl],?_⟩;apply⟨d,l,ss,ts,tps,rfl,m,j,nd,p,M.but W D,hg,λn ns H4 I t U b=>?_⟩;have B:=I _ _ i;have C:n≠x:=qbk U B (by intro z;cases z);apply .inl ⟨x,cw,dx,_,rfl,B,T.wcl,T.wr,xU (jW _ _ _) (xU (Nat.succ_le_succ (jW _ _ _)) (by decide)),?_⟩
  have u:H n=none:=by
   cases R:H n with
   | none=>rfl
   | some o'=>rw[D n o' C R] at t;cases t
  show q ns _ (D.same I).put ⟨dx,d,ol,n,qb,by rw[qj r];show I _ _ m,by rw[qj G];show I _ _ v,by rw[qj C];show U,⟨b.1,j,nd,b.2.1,p⟩,L,y,u⟩ b
theorem uy:FnScope wqf wqf (qf zy):=fS
theorem K9:FnScope wqy wqy (qf jO):=fS
theorem ua:FnScope wqa wqa (qf jP):=fS
theorem uz:FnScope wqa wqa (qf zz):=fS
theorem KS:FnScope wqa wqa (qf jB):=fS
theorem K6:FnScope ["self","one","other","bits"] wqj (qf qaA):=fS
theorem ug:FnScope wqP wqP (qf jH):=fS
theorem zI{d n:V}:(jC "near" n (jC "order" ol (jC "numbers" d []))).lookup ("numbers":Str)=some d:=by
 rw[qD,yC (by room),qD,yC (by room),qD,yG rfl]
theorem qa8{d n:V}:(jC "near" n (jC "order" ol (jC "numbers" d []))).lookup ("order":Str)=some ol:=by
 rw[qD,yC (by room),qD,yG rfl]
theorem qfn{d n:V}:(jC "near" n (jC "order" ol (jC "numbers" d []))).lookup ("near":Str)=some n:=by
 rw[qD,yG rfl]
theorem jU{f:Str}{d n:V}(h:(f=="near"||f=="order"||f=="numbers")=false):(jC "near" n (jC "order" ol (jC "numbers" d []))).lookup f=none:=by
 simp only[Bool.or_eq_false_iff,YA] at h;rw[qD,yC h.1.1,qD,yC h.1.2,qD,yC h.2];rfl
def inB:LS->Nat->Nat->LS
 | [],_,_=>[]
 | s::r,i,b=>if b.testBit i=true then s::inB r (i+1) b else inB r (i+1) b
theorem qbH(y:Str)(b:Nat):∀(l:LS) (k:Nat),inB (l++[y]) k b=inB l k b++(if b.testBit (k+l.length)=true then [y] else [])
 | [],k=>by simp[inB]
 | s::r,k=>by
  have a:=qbH y b r (k+1);have e:k+1+r.length=k+(s::r).length:=by simp;lk
  rw[e] at a;simp only[XD,inB,a];split<;>simp
theorem qcT(b:Nat):∀(l:LS) (k:Nat),(inB l k b).length<=l.length
 | [],_=>yg _
 | s::r,k=>by
  have a:=qcT b r (k+1);simp only[inB];split
  .simp;lk
  .simp;lk
inductive spHas(cw:Addr)(vs:List V)(H:Hp)(Q:VK)(E:XK):Prop|mk (x:Addr) (ss:LS) (ns:LN) (y:Str) (_:vs=[.ref x,.str y]) (_:WebAt cw H x ss ns) (_:y∈ss) (_:∀ H',L2.Same H H'->Q (.bl true) H')
inductive spNum(cw:Addr)(vs:List V)(H:Hp)(Q:VK)(E:XK):Prop|mk (x:Addr) (ss:LS) (ns:LN) (y:Str) (j:Nat) (_:vs=[.ref x,.str y]) (_:WebAt cw H x ss ns) (_:ss[j]?=some y) (_:∀ H',L2.Same H H'->Q (.int (j:Nat)) H')
inductive spBB(cw:Addr)(vs:List V)(H:Hp)(Q:VK)(E:XK):Prop|mk (x:Addr) (ss:LS) (ns:LN) (y:Str) (j:Nat) (_:vs=[.ref x,.str y]) (_:WebAt cw H x ss ns) (_:ss[j]?=some y) (_:∀ H',L2.Same H H'->Q (.int (ns.getD j 0:Nat)) H')
inductive spNIn(cw:Addr)(vs:List V)(H:Hp)(Q:VK)(E:XK):Prop|mk (x:Addr) (ss:LS) (ns:LN) (b:Nat) (_:vs=[.ref x,.int b]) (_:WebAt cw H x ss ns) (_:∀ l,H l=none->Q (.ref l) (upd H l (.lst ((inB ss 0 b).map V.str))))
inductive spBs(cw:Addr)(vs:List V)(H:Hp)(Q:VK)(E:XK):Prop|mk (x:Addr) (ss:LS) (ns:LN) (y:Str) (j:Nat) (_:vs=[.ref x,.str y]) (_:WebAt cw H x ss ns) (_:ss[j]?=some y) (_:∀ H',L2.Same H H'->∀ l,H' l=none->Q (.ref l) (upd H' l (.lst ((inB ss 0 (ns.getD j 0)).map V.str))))
inductive spTied(cw:Addr)(vs:List V)(H:Hp)(Q:VK)(E:XK):Prop|mk (x:Addr) (ss:LS) (ns:LN) (y z:Str) (j i:Nat) (_:vs=[.ref x,.str y,.str z]) (_:WebAt cw H x ss ns) (_:ss[j]?=some y) (_:ss[i]?=some z) (_:∀ H',L2.Same H H'->Q (.bl ((ns.getD j 0).testBit i)) H')
inductive spPls(cw:Addr)(vs:List V)(H:Hp)(Q:VK)(E:XK):Prop|mk (x:Addr) (ss:LS) (ns:LN) (_:vs=[.ref x]) (_:WebAt cw H x ss ns) (_:∀ l,H l=none->Q (.ref l) (upd H l (.lst (ss.map V.str))))
theorem ok_has(F:Fun K "has_place" "Web.has_place" jO f fd)(T:Txt K mg cc cw)(b:wq7 2 "is_place" wqu spPlace):wq9 3 f fd wqy (spHas cw):=by
 show F.ok K9 λ_ _ _ _ H vs Q E e h=>?_
 .obtain⟨x,ss,ns,y,rfl,⟨dx,d,ol,n,g,c,j,i,hw⟩,a,q⟩:=h;show⟨_,(qg (qp (qk b (hmR e) qt (qa (jx (K:=K) rfl (pv 0) rfl) (qa (pv 1) qd))))),?_⟩;apply .inl ⟨x,cw,dx,_,.ref d,rfl,g,T.wcl,T.wn,zI,?_⟩;apply⟨d,ss,y,rfl,c,hw.nm _ a,a,q⟩
theorem ok_num(F:Fun K "number_of" "Web.number_of" jP f fd)(T:Txt K mg cc cw)(o:wq8 3 cw "has_place" wqy (spHas cw)):wq9 4 f fd wqa (spNum cw):=by
 show F.ok ua λ_ _ _ _ H vs Q E e h=>?_
 .obtain⟨x,ss,ns,y,j,rfl,c,b,q⟩:=h;obtain⟨dx,d,ol,n,g,r,v,u,hw⟩:=id c;have l:=ye b;have s:=jT e;show⟨_,(qc (qR (jw (qY (qH o (hmR e) (pv 0) (qa (pv 1) qd)))) (qg ji) qu)
 (qg (qp (qx (qz (K:=K) rfl s) (jx (K:=K) rfl (pv 0) rfl) (pv 1) (λ_ _=>rfl))))),?_⟩
  apply⟨x,dx,_,rfl,g,jU (by room),?_⟩;apply⟨x,ss,ns,y,rfl,c,l,λH1 a=>?_⟩;apply yp ?_;obtain⟨i,t,p,m⟩:=j4 (i:=0) l;rw[YS,jf hw.nd p b] at m;apply .inl ⟨x,cw,dx,_,.ref d,rfl,a _ _ g,T.wcl,T.wn,zI,?_⟩;apply .inr ⟨d,.int j,rfl,?_,q H1 a⟩;have:=DGet.k (k:=Sum.inr y) (a _ _ r);rw[m] at this;show this
theorem ok_bb(F:Fun K "bits_beside" "Web.bits_beside" jB f fd)(T:Txt K mg cc cw)(m:wq8 4 cw "number_of" wqa (spNum cw)):wq9 5 f fd wqa (spBB cw):=by
 show F.ok KS λ_ _ _ _ H vs Q E c h=>?_
 .obtain⟨x,ss,ns,y,j,rfl,b,a,q⟩:=h;obtain⟨dx,d,ol,n,e,o,p,i,hw⟩:=id b;have l:=jT c;show⟨_,(qg (qp (qx (qz (K:=K) rfl l) (jx (K:=K) rfl (pv 0) rfl) (qH m (hmR c) (pv 0) (qa (pv 1) qd)) (λ_ _=>rfl)))),?_⟩;apply .inl ⟨x,cw,dx,_,.ref n,rfl,e,T.wcl,T.wr,qfn,?_⟩;apply⟨x,dx,_,rfl,e,jU (by room),?_⟩;apply⟨x,ss,ns,y,j,rfl,b,a,λH1 g=>?_⟩;show .inl (qbD (g _ _ i) (qal (qa7 (by rw[hw.len];show(yc.mp a).1))) (q H1 g))
theorem ok_nin(F:Fun K "names_in" "Web.names_in" jH f fd)(T:Txt K mg cc cw)(G:wq7 1 "has_bit" wqt spBit):wq9 2 f fd wqP (spNIn cw):=by
 show F.ok ug λ_ _ _ _ H vs Q E t h=>?_
 .obtain⟨x,ss,ns,b,rfl,⟨dx,d,ol,n,u,B,s,J,hw⟩,q⟩:=h;have D:=jT t;show⟨_,(qg (qp (qL (sc:=qf jH) (XN:=wqP) ["name","bits","self"] 1 [1,0] rfl rfl rfl (by room) rfl (by room)
  (qF (K:=K) rfl (jx (K:=K) rfl (pv 0) rfl)) (λ_ _ _ _=>(qi (i:=0) (show(["name","bits","self"]:LS).Nodup by room) rfl (yF rfl))) qA
  (λ_ _ _ _=>(qE (qY (qk G (hmR t) qt (qa (pv 1) (qa (qx (qz (K:=K) rfl D) (jx (K:=K) rfl (pv 2) rfl) (pv 0) (λ_ _=>rfl)) qd))))))
  (λ_ _ _ _=>(pv 0))))),?_⟩
  apply .inl ⟨x,cw,dx,_,.ref ol,rfl,u,T.wcl,T.wo,qa8,?_⟩;show .inl ⟨⟨_,SqL.of s⟩,qr (K:=K) (λi ys H'=>H'=H/\ys=(inB (ss.take i) 0 b).map V.str) ⟨rfl,by simp[inB]⟩ (λi ys H' _ e=>by rw[e.1];show SqL.of s) (λi y ys H' p e=>?_) λys H' e=>?_⟩
  .obtain⟨rfl,rfl⟩:=e;have C:i<ss.length:=by simpa using(yc.mp p).1
   have c:ss[i]?=some ss[i]:=yb C;generalize ss[i]=r at c;have z:y=.str r:=by rw[yd,c] at p;cases p;rfl
   subst z;obtain⟨j,I,A,v⟩:=j4 (i:=0) (ye c);rw[YS] at v;have o:j=i:=jf hw.nd A c;subst o;have g:ss.take (j+1)=ss.take j++[r]:=by rw[yA,c];rfl
   have a:(ss.take j).length=j:=by rw[yH];lk
   apply .inl ⟨x,cw,dx,_,.ref d,rfl,u,T.wcl,T.wn,zI,?_⟩;apply .inr ⟨d,.int j,rfl,?_,?_⟩
   .have:=DGet.k (k:=Sum.inr r) B;rw[v] at this;show this
   apply⟨_,_,rfl,by lk,?_⟩;rw[qb9];ext
   have few:((inB (ss.take j) 0 b).map V.str).length<sizeLine:=by
    rw[ya];show qe (yh (qcT _ _ _) (by rw[a];have:=hw.few;lk))
   show qP (λhb=>?_) λhb=>?_
   .ext;show⟨few,rfl,?_⟩;rw[g,qbH,a,YS,yG hb];simp
   .show⟨rfl,?_⟩;rw[g,qbH,a,YS,yC hb];simp
  .obtain⟨rfl,rfl⟩:=e;have m:ss.take (ss.map V.str).length=ss:=by rw[ya,yv]
   rw[m];show⟨?_,λl hl=>q l hl⟩;rw[ya];show yI (qe (yh (qcT _ _ _) (by have:=hw.few;lk)))
theorem ok_bs(F:Fun K "beside" "Web.beside" zz f fd)(T:Txt K mg cc cw)(l:wq8 5 cw "bits_beside" wqa (spBB cw))(g:wq8 2 cw "names_in" wqP (spNIn cw)):wq9 6 f fd wqa (spBs cw):=by
 show F.ok uz λ_ _ _ _ H vs Q E b h=>?_
 .obtain⟨x,ss,ns,y,j,rfl,a,i,q⟩:=h;obtain⟨dx,d,ol,n,c,_⟩:=id a;show⟨_,(qg (qp (qH g (hmR b) (pv 0) (qa (qH l (hmR b) (pv 0) (qa (pv 1) qd)) qd)))),?_⟩;apply⟨x,dx,_,rfl,c,jU (by room),?_⟩;apply⟨x,dx,_,rfl,c,jU (by room),?_⟩;apply⟨x,ss,ns,y,j,rfl,a,i,λH1 e=>?_⟩;apply⟨x,ss,ns,_,rfl,a.same e,q H1 e⟩
theorem ok_tied(F:Fun K "tied" "Web.tied" qaA f fd)(T:Txt K mg cc cw)(o:wq8 5 cw "bits_beside" wqa (spBB cw))(m:wq8 4 cw "number_of" wqa (spNum cw))
  (p:wq7 1 "has_bit" wqt spBit):wq9 6 f fd wqj (spTied cw):=by
 show F.ok K6 λ_ _ _ _ H vs Q E b h=>?_
 .obtain⟨x,ss,ns,y,z,j,i,rfl,a,l,g,q⟩:=h;obtain⟨dx,d,ol,n,e,_⟩:=id a;show⟨_,(qc (qo (i:=3) K6.nd rfl (yF rfl) (qH o (hmR b) (pv 0) (qa (pv 1) qd)))
 (qg (qp (qk p (hmR b) qt (qa (pv 3) (qa (qH m (hmR b) (pv 0) (qa (pv 2) qd)) qd)))))),?_⟩
  apply⟨x,dx,_,rfl,e,jU (by room),?_⟩;apply⟨x,ss,ns,y,j,rfl,a,l,λH1 c=>?_⟩;apply⟨x,dx,_,rfl,c _ _ e,jU (by room),?_⟩;apply⟨x,ss,ns,z,i,rfl,a.same c,g,λH2 r=>?_⟩;apply⟨_,_,rfl,by lk,?_⟩;rw[qb9];show q H2 (c.trans r)
theorem ok_pls(F:Fun K "places" "Web.places" zy f fd)(T:Txt K mg cc cw):wq9 1 f fd wqf (spPls cw):=by
 show F.ok uy λ_ _ _ _ H vs Q E g h=>?_
 .obtain⟨x,ss,ns,rfl,⟨dx,d,ol,n,b,c,a,e,hw⟩,q⟩:=h;show⟨_,(qg (qp (zi (qb2 (K:=K) rfl rfl) rfl T.b_list Xc (qa (jx (K:=K) rfl (pv 0) rfl) qd)))),?_⟩;apply .inl ⟨x,cw,dx,_,.ref ol,rfl,b,T.wcl,T.wo,qa8,?_⟩;apply .inl ⟨ol,_,rfl,.inl (SqL.of a),q⟩
theorem kT:FnScope ["self","pieces","seen","number","piece"] wqf (qf zA):=fS
theorem kK:FnScope ["near","number","piece","before","at","bits"] ["near","number"] (qf jZ):=fS
theorem qfo(m k:Nat):Builtin.bitOr (m:Int) (k:Int)=((m ||| k:Nat):Int):=by
 have c:Builtin.bitNot (m:Int)=-(m:Int)-1:=rfl;have d:Builtin.bitNot (k:Int)=-(k:Int)-1:=rfl;unfold Builtin.bitOr Builtin.bitAnd;rw[c,d,yk (by lk),yk (by lk)];dsimp only;unfold Builtin.bitNot;have a:(-(-(m:Int)-1)-1).toNat=m:=by lk
 have b:(-(-(k:Int)-1)-1).toNat=k:=by lk
 rw[a,b];lk
theorem shl_nat(j:Nat):(1*2 ^ (j:Int).toNat:Int)=((2 ^ j:Nat):Int):=by rw[y6,X5,xZ];rfl
inductive Rch(ns:LN)(i:Nat):Nat->Prop
 | zero:Rch ns i i
 | step {a b:Nat} (h:Rch ns i a) (t:(ns.getD a 0).testBit b=true):Rch ns i b
theorem Rch.trans(h:Rch ns i a)(g:Rch ns a b):Rch ns i b:=by
 induction g with
 | zero=>show h
 | step _ t ih=>show .step ih t
inductive spPc(vs:List V)(H:Hp)(Q:VK)(E:XK):Prop|mk (n:Addr) (ns:LN) (i:Nat) (_:vs=[.ref n,.int i]) (_:H n=some (.lst (qc6 ns))) (_:i<ns.length) (_:ns.length<=14) (_:(∀ a,ns.getD a 0<2 ^ ns.length)) (_:∀(b:Nat) (H':Hp),L2.Same H H'->(∀ c,b.testBit c=true↔Rch ns i c)->Q (.int b) H')
def qeS(ns:LN)(k:Nat):Bool:=@decide (∀ j,j<k->¬ Rch ns j k) (Classical.propDecidable _)
theorem isRep_iff{k:Nat}:qeS ns k=true↔∀ j,j<k->¬ Rch ns j k:=by unfold qeS;show @decide_eq_true_iff _ (Classical.propDecidable _)
def qeY(ns:LN)(n:Nat):LN:=(List.range n).filter (qeS ns)
open Classical in
def qca(ss:LS)(ns:LN)(k:Nat):LS:=ss.filter λs=>decide (Rch ns k (ss.idxOf s))
theorem idx_at(b:ss.Nodup){s:Str}(h:ss[i]?=some s):ss.idxOf s=i:=by
 have a:s∈ss:=ye h;have hl:ss.idxOf s<ss.length:=Yh a;show jf b (by rw[yb hl,Yw]) h
theorem ze(e:ss.Nodup)(b:Nat):inB ss 0 b=ss.filter λs=>b.testBit (ss.idxOf s):=by
 have key:∀ k,k<=ss.length->inB (ss.take k) 0 b=(ss.take k).filter λs=>b.testBit (ss.idxOf s):=λk=>by
  induction k with
  | zero=>intro _;simp[inB]
  | succ k ih =>
   intro g;have a:ss[k]?=some ss[k]:=yb (by lk);generalize ss[k]=f at a;have d:ss.take (k+1)=ss.take k++[f]:=by rw[yA,a];rfl
   have c:(ss.take k).length=k:=by rw[yH];lk
   rw[d,qbH,yQ,ih (by lk),c,YS]
   congr 1
   rw[yM,xj,idx_at e a]
 have:=key ss.length (yg _)
 rwa[yv] at this
theorem comp_of(a:ss.Nodup){k:Nat}(h:∀ c,b.testBit c=true↔Rch ns k c):inB ss 0 b=qca ss ns k:=by
 rw[ze a];unfold qca;apply YD;intro s _;rw[yW,h];simp
def qhY(H H':Hp)(l:Addr)(a:Addr)(ps:LS):Prop:=H a=none/\a≠l/\H' a=some (.lst (ps.map V.str))
inductive spPcs(cw:Addr)(vs:List V)(H:Hp)(Q:VK)(E:XK):Prop|mk (x:Addr) (ss:LS) (ns:LN) (_:vs=[.ref x]) (_:WebAt cw H x ss ns) (_:∀(l:Addr) (ls:LI) (H':Hp),L2.Same H H'->H l=none->H' l=some (.lst (ls.map V.ref))->All2 (qhY H H' l) ls ((qeY ns ss.length).map (qca ss ns))->Q (.ref l) H')
theorem ok_pc(F:Fun K "piece_around" "piece_around" jZ f fd)(T:Txt K mg cc cw)(kO:wq7 1 "has_bit" wqt spBit):wq9 2 f fd ["near","number"] spPc:=by
 show F.ok kK λ_ _ _ _ H vs Q E Z h=>?_
 .obtain⟨n,ns,i,rfl,X,hi,aa,O,q⟩:=h;have hu:=jT Z;show⟨_,(qc (qo (i:=2) kK.nd rfl (yF rfl) (qC qbQ qh (pv 1)))
 (qc (qo (i:=3) kK.nd rfl (yF rfl) qh)
 (qc (qcL yS (qm (zv (K:=K) rfl hu) (pv 3) (pv 2) (qv _))
 (qc (qo (i:=3) kK.nd rfl (yF rfl) (pv 2))
 (qg (je yS rfl (qfi (K:=K) rfl rfl T.b_enumerate (qa (pv 0) qd)) (qby rfl (jd (qi (i:=4) kK.nd rfl (yF rfl)) (jd (qi (i:=5) kK.nd rfl (yF rfl)) qai)))
 (qg (qR (qY (qk kO (hmR Z) qt (qa (pv 3) (qa (pv 4) qd)))) (qg (qo (i:=2) kK.nd rfl (yF rfl) (qC qf2 (pv 2) (pv 5)))) qu))))))
 (qg (qp (pv 2)))))),?_⟩
  apply vI ⟨by lk,by lk,by decide⟩ ?_;ext;rw[shl_nat];have two:∀ c,(2 ^ i:Nat).testBit c=decide (i=c):=λc=>xG;show⟨λm σ H'=>∃(pc b:Nat) (j l:Option V),m=2 ^ ns.length-b/\σ=[some (.ref n),some (.int i),some (.int pc),some (.int b),j,l]/\L2.Same H H'/\b ||| pc=pc/\pc<2 ^ ns.length/\pc.testBit i=true/\(∀ c,pc.testBit c=true->Rch ns i c)/\∀ a c,b.testBit a=true->(ns.getD a 0).testBit c=true->pc.testBit c=true,
   ⟨_,2 ^ i,0,none,none,rfl,rfl,L2.Same.refl H,by simp,Xh (by decide) hi,by rw[two];simp,λc hc=>by rw[two] at hc;rw[<- yj hc];show .zero,λa c J=>by simp at J⟩,λm σ H1 hW=>?_⟩
  obtain⟨pc,b,j,l,rfl,rfl,U,G,D,C,d,x⟩:=hW;apply .inl ⟨rfl,rfl,?_⟩;apply qP (λR=>?_) λA=>?_
  .have Y:b≠pc:=λe=>by
    subst e;simp[eqV] at R
   have ab:b<pc:=by
    have h1:b<=b ||| pc:=Nat.left_le_or;rw[G] at h1;lk
   show⟨λI H'=>∃(pk:Nat) (j l:Option V),I=[some (.ref n),some (.int i),some (.int pk),some (.int pc),j,l]/\L2.Same H H'/\pc ||| pk=pk/\pk<2 ^ ns.length/\pk.testBit i=true/\(∀ c,pk.testBit c=true->Rch ns i c)/\∀ a c,pc.testBit a=true->(ns.getD a 0).testBit c=true->pk.testBit c=true,
    λI H' hN=>?_,?_⟩
   .obtain⟨pk,j,l,rfl,k1,k2,k3,k4,k5,k6⟩:=hN;show⟨2 ^ ns.length-pc,by lk,pk,pc,j,l,rfl,rfl,k1,k2,k3,k4,k5,k6⟩
   .ext;show⟨n,qc6 ns,rfl,SqL.of (U _ _ X),qez (K:=K) (λk σ H'=>∃(pk:Nat) (j l:Option V),σ=[some (.ref n),some (.int i),some (.int pk),some (.int pc),j,l]/\L2.Same H H'/\pc ||| pk=pk/\pk<2 ^ ns.length/\(∀ c,pk.testBit c=true->Rch ns i c)/\∀ a c,a<k->pc.testBit a=true->(ns.getD a 0).testBit c=true->pk.testBit c=true)
     ⟨pc,_,_,rfl,U,by simp,D,d,λa c h=>by lk⟩ (λk σ H' _ B=>by obtain⟨_,_,_,_,z,_⟩:=B;show SqL.of (z _ _ X)) (λk y t σ H2 S ht B=>?_) fun σ H2 B=>?_⟩
    .obtain⟨pk,j,l,rfl,W,g,r,s,p⟩:=B;have s3:=qw W (o:=.tup [.int k,y]) ht;have M:k<ns.length:=by have:=(yc.mp S).1;unfold qc6 at this;simpa using this
     have ey:y=.int (ns.getD k 0:Nat):=by rw[qa7 M] at S;cases S;rfl
     show⟨t,_,rfl,SqT.of qb,rfl,_,_,rfl,_,_,rfl,rfl,?_⟩;subst ey;apply⟨_,_,rfl,by lk,?_⟩;rw[qb9];apply qP (λhb=>?_) λhb=>?_
     .ext;rw[qfo];show⟨pk ||| ns.getD k 0,_,_,rfl,s3,by rw[<- Nat.or_assoc,g],X6 r (O k),λc hc=>?_,λa c J h1 v=>?_⟩
      .rw [xQ,YZ] at hc;rcases hc with hc | hc
       .show s c hc
       .show .step (d k hb) hc
      .rw [xQ,YZ];by_cases u:a=k
       .subst u;show .inr v
       .show .inl (p a c (by lk) h1 v)
     .show⟨pk,_,_,rfl,s3,g,r,s,λa c J h1 v=>?_⟩;by_cases u:a=k
      .subst u;show absurd h1 hb
      .show p a c (by lk) h1 v
    .obtain⟨pk,j,l,rfl,W,g,r,s,p⟩:=B;show⟨pk,j,l,rfl,W,g,r,by rw[<- g,xQ,C];rfl,s,λa c h1 v=>p a c ?_ h1 v⟩
     have N:a<ns.length:=by
      show Nat.lt_of_not_le λL=>?_;have:pc.testBit a=false:=Yx (yi D (Yl (by decide) L));rw[this] at h1;cases h1
     unfold qc6;rw[ya];show N
  .have he:b=pc:=by
    simp only[Xl,eqV,YF,Bool.not_eq_false'] at A;have:((b:Int)==(pc:Int))=true:=by simpa using A
    have:=eq_of_beq this;lk
   subst he;apply q b H1 U λc=>⟨d c,λhc=>?_⟩
   induction hc with
   | zero=>show C
   | step _ t ih=>show x _ _ ih t
theorem qdC(ns:LN)(k:Nat):((∃ j,j<k/\Rch ns j k)->qeY ns (k+1)=qeY ns k)/\((¬ ∃ j,j<k/\Rch ns j k)->qeY ns (k+1)=qeY ns k++[k]):=by
 unfold qeY;rw[YR,yQ];constructor
 .rintro ⟨j,a,b⟩
  have e:qeS ns k=false:=by
   rw[Bool.eq_false_iff];intro h;show isRep_iff.mp h j a b
  simp[e]
 .intro h;have e:qeS ns k=true:=isRep_iff.mpr λj a b=>h ⟨j,a,b⟩;simp[e]
theorem ok_pcs(F:Fun K "pieces" "Web.pieces" zA f fd)(T:Txt K mg cc cw)(kO:wq7 1 "has_bit" wqt spBit)(um:wq7 2 "piece_around" ["near","number"] spPc)
  (W:wq8 2 cw "names_in" wqP (spNIn cw)):wq9 3 f fd wqf (spPcs cw):=by
 show F.ok kT λ_ _ _ _ H vs Q E G h=>?_
 .obtain⟨x,ss,ns,rfl,S,q⟩:=h;obtain⟨dx,d,ol,n,M,hd,ho,Z,hw⟩:=id S;show⟨_,(qc (qo (i:=1) kT.nd rfl (yF rfl) (qZ qd))
 (qc (qo (i:=2) kT.nd rfl (yF rfl) qh)
 (qc (je yS rfl (jo rfl T.b_range (qa (qq (j8 (K:=K) rfl) rfl T.b_len YE (qa (jx (K:=K) rfl (pv 0) rfl) qd)) qd)) (qi (i:=3) kT.nd rfl (yF rfl))
 (qg (qR (jw (qY (qk kO (hmR G) qt (qa (pv 2) (qa (pv 3) qd))))) (qc (qo (i:=4) kT.nd rfl (yF rfl) (qk um (hmR G) qt (qa (jx (K:=K) rfl (pv 0) rfl) (qa (pv 3) qd))))
 (qc (qo (i:=2) kT.nd rfl (yF rfl) (qC qf2 (pv 2) (pv 4)))
 (qg (qU (qcO (K:=K) rfl yP yU yV qJ (pv 1) (qa (qH W (hmR G) (pv 0) (qa (pv 4) qd)) qd)))))) qu)))
 (qg (qp (pv 1)))))),?_⟩
  apply⟨by decide,λl hl=>?_⟩;have N:=qw (Sr H) (o:=.lst []) hl;apply .inl ⟨x,cw,dx,_,.ref ol,rfl,N _ _ M,T.wcl,T.wo,qa8,?_⟩;apply zT (N _ _ ho) ?_;rw[ya];have few:=hw.few;show⟨_,rfl,by lk,by lk,?_⟩;rw[y6];show jE (λk σ H'=>k<=ss.length/\∃(sn:Nat) (m:LI) (O R:Option V),σ=[some (.ref x),some (.ref l),some (.int sn),O,R]/\L2.Same H H'/\H' l=some (.lst (m.map V.ref))/\All2 (qhY H H' l) m ((qeY ns k).map (qca ss ns))/\m.length<=k/\∀ b,sn.testBit b=true↔∃ j,j<k/\Rch ns j b)
   ⟨YM _,0,[],none,none,rfl,N,qb,All2.nil,yg _,λb=>⟨λh=>by simp at h,λ⟨j,h,_⟩=>by lk⟩⟩ (λk σ H1 hk s=>?_) fun σ H1 s=>?_
  .obtain⟨_,sn,m,O,R,rfl,B,r,g,U,t⟩:=s;ext;rw[xA];show⟨_,_,rfl,by lk,?_⟩;rw[qb9];apply qP (λhb=>?_) λhb=>?_
   .have D:¬ ∃ j,j<k/\Rch ns j k:=λh=>by
     rw[<- t] at h;rw[h] at hb;cases hb
    apply .inl ⟨x,cw,dx,_,.ref n,rfl,B _ _ M,T.wcl,T.wr,qfn,?_⟩;apply⟨n,ns,k,rfl,B _ _ Z,by rw[hw.len];lk,by rw[hw.len];show few,by rw[hw.len];show hw.lt,λb H2 J C=>?_⟩;have L:=B.trans J;have y:=J _ _ r;ext;rw[qfo];show⟨.inl ⟨rfl,_,SqL.of y⟩,?_⟩;apply⟨x,dx,_,rfl,L _ _ M,jU (by room),?_⟩;apply⟨x,ss,ns,b,rfl,S.same L,λa I=>?_⟩;ext;have A:l≠a:=qI y I;show⟨l,_,_,rfl,rfl,by rw[qj A];show y,by rw[ya];show qe (by lk),?_⟩;have s4:=qhk (qw L (o:=.lst ((inB ss 0 b).map V.str)) I) (o:=.lst (m.map V.ref++[.ref a])) hl;show⟨by lk,sn ||| b,m++[a],_,_,rfl,s4,by rw[qb,yq];rfl,?_,by rw[yu];show m.length+1<=k+1;lk,λc=>?_⟩
    .rw [(qdC ns k).2 D,yq];show All2.snoc (g.mono λX ps s=>⟨s.1,s.2.1,?_⟩) ⟨L.free I,A.symm,?_⟩
     .have na:X≠a:=λe=>by
       have z:=J _ _ s.2.2;rw[e,I] at z;cases z
      rw[qj s.2.1,qj na];show J _ _ s.2.2
     .rw [qj A.symm,qb,comp_of hw.nd C]
    .rw [xQ,YZ,t,C];constructor
     .rintro (⟨j,h1,p⟩ | h)
      .show⟨j,by lk,p⟩
      .show⟨k,by lk,h⟩
     .rintro ⟨j,h1,p⟩;by_cases v:j=k
      .subst v;show .inr p
      .show .inl ⟨j,by lk,p⟩
   .have u:∃ j,j<k/\Rch ns j k:=by
     rw[<- t];simpa using hb
    show⟨by lk,sn,m,_,_,rfl,B,r,?_,by lk,λc=>?_⟩
    .rw [(qdC ns k).1 u];show g
    .rw [t];constructor
     .rintro ⟨j,h1,p⟩;show⟨j,by lk,p⟩
     .rintro ⟨j,h1,p⟩;by_cases v:j=k
      .subst v;obtain⟨i,Y,G⟩:=u;show⟨i,Y,G.trans p⟩
      .show⟨j,by lk,p⟩
  .obtain⟨_,sn,m,O,R,rfl,B,r,g,_,_⟩:=s;apply q l m H1 B hl r g
theorem Ko:FnScope ["self","ties","one","other"] wqf (qf qaB):=fS
theorem qfp(a:ss.Nodup){s:Str}(h:s∈inB ss 0 b):s∈ss/\b.testBit (ss.idxOf s)=true:=by
 rw[ze a] at h;show yo.mp h
def qgO(ss:LS)(ns:LN)(i:Nat):LP:=((inB ss 0 (ns.getD i 0)).filter λo=>decide (i<ss.idxOf o)).map λo=>(ss.getD i "",o)
def zB(ss:LS)(ns:LN)(i:Nat):LP:=(List.range i).flatMap (qgO ss ns)
def PrAt(H H':Hp)(l:Addr)(t:Addr)(a:Str×Str):Prop:=H t=none/\t≠l/\H' t=some (.tup [.str a.1,.str a.2])
theorem PrAt.same{a:Str×Str}(h:PrAt H H1 l t a)(s:L2.Same H1 H2):PrAt H H2 l t a:=⟨h.1,h.2.1,s _ _ h.2.2⟩
inductive spTs(cw:Addr)(vs:List V)(H:Hp)(Q:VK)(E:XK):Prop|mk (x:Addr) (ss:LS) (ns:LN) (_:vs=[.ref x]) (_:WebAt cw H x ss ns) (_:∀(l:Addr) (ts:LI) (H':Hp),L2.Same H H'->H l=none->H' l=some (.lst (ts.map V.ref))->ts.length<=196->All2 (PrAt H H' l) ts (zB ss ns ss.length)->Q (.ref l) H')
theorem ok_ts(F:Fun K "ties" "Web.ties" qaB f fd)(T:Txt K mg cc cw)(kR:wq8 6 cw "beside" wqa (spBs cw)):wq9 7 f fd wqf (spTs cw):=by
 show F.ok Ko λ_ _ _ _ H vs Q E hr h=>?_
 .obtain⟨x,ss,ns,rfl,hW,q⟩:=h;have hu:=jT hr;obtain⟨dx,d,ol,n,hx,hd,ho,hn,hw⟩:=id hW;have few:=hw.few
  have X:∀(H1:Hp) (y:Str) (i:Nat),L2.Same H H1->ss[i]?=some y->DGet H1 d (.str y) (some (.int (i:Nat))):=λH1 y i O D=>by
   obtain⟨j,hj,gj,vj⟩:=j4 (i:=0) (ye D);rw[YS] at vj;have af:j=i:=jf hw.nd gj D;subst af;have:=DGet.k (k:=Sum.inr y) (O _ _ hd);rw[vj] at this;show this
  show⟨_,(qc (qo (i:=1) Ko.nd rfl (yF rfl) (qZ qd))
 (qc (je yS rfl (qF (K:=K) rfl (jx (K:=K) rfl (pv 0) rfl)) (qi (i:=2) Ko.nd rfl (yF rfl))
 (qg (je yS rfl (qF (K:=K) rfl (qH kR (hmR hr) (pv 0) (qa (pv 2) qd))) (qi (i:=3) Ko.nd rfl (yF rfl))
 (qg (qR (qm qdS (qx (qz (K:=K) rfl hu) (jx (K:=K) rfl (pv 0) rfl) (pv 2) (λ_ _=>rfl)) (qx (qz (K:=K) rfl hu) (jx (K:=K) rfl (pv 0) rfl) (pv 3) (λ_ _=>rfl)) (qv _)) (qg (qU (qcO (K:=K) rfl yP yU yV qJ (pv 1) (qa (jD (qa (pv 2) (qa (pv 3) qd))) qd)))) qu)))))
 (qg (qp (pv 1))))),?_⟩
  apply⟨by decide,λl hl=>?_⟩;have s0:=qw (Sr H) (o:=.lst []) hl;apply .inl ⟨x,cw,dx,_,.ref ol,rfl,s0 _ _ hx,T.wcl,T.wo,qa8,?_⟩;show .inl ⟨⟨_,SqL.of (s0 _ _ ho)⟩,ju (K:=K) (λi σ H'=>∃(ts:LI) (x2 S:Option V),σ=[some (.ref x),some (.ref l),x2,S]/\L2.Same H H'/\H' l=some (.lst (ts.map V.ref))/\ts.length<=i*14/\All2 (PrAt H H' l) ts (zB ss ns i))
   ⟨[],none,none,rfl,s0,qb,by simp,All2.nil⟩ (λi σ H' _ B=>by obtain⟨_,_,_,_,z,_⟩:=B;show SqL.of (z _ _ ho)) (λi y σ H1 hy B=>?_) fun σ H1 B=>?_⟩
  .obtain⟨ts,x2,S,rfl,O,G,s,c⟩:=B;have hi:i<ss.length:=by simpa using(yc.mp hy).1
   have D:ss[i]?=some ss[i]:=yb hi;generalize ss[i]=p at D;have ey:y=.str p:=by rw[yd,D] at hy;cases hy;rfl
   subst ey;have al:=hw.nm p (ye D);apply⟨x,dx,_,rfl,O _ _ hx,jU (by room),?_⟩;apply⟨x,ss,ns,p,i,rfl,hW.same O,D,λH2 s2 b hb=>?_⟩;have s3:=O.trans s2;have s4:=qw s3 (o:=.lst ((inB ss 0 (ns.getD i 0)).map V.str)) hb;have R:=qw s2 (o:=.lst ((inB ss 0 (ns.getD i 0)).map V.str)) hb;have eb:upd H2 b (.lst ((inB ss 0 (ns.getD i 0)).map V.str)) b=some (.lst ((inB ss 0 (ns.getD i 0)).map V.str)):=qb;have ah:b≠l:=λe=>by rw[e,s2 _ _ G] at hb;cases hb
   have aj:H b=none:=s3.free hb;show .inl ⟨⟨_,SqL.of qb⟩,?_⟩;generalize upd H2 b (.lst ((inB ss 0 (ns.getD i 0)).map V.str))=H3 at s4 R eb ⊢;have J:∀ o,o∈inB ss 0 (ns.getD i 0)->o∈ss:=λo h=>(qfp hw.nd h).1;have ad:=qcT (ns.getD i 0) ss 0;have r:qgO ss ns i=((inB ss 0 (ns.getD i 0)).filter λo=>decide (i<ss.idxOf o)).map λo=>(ss.getD i "",o):=rfl;have aa:ss.getD i ""=p:=by simp[List.getD,D]
   rw[aa] at r;generalize ak:inB ss 0 (ns.getD i 0)=bs at eb J ad r ⊢;show ju (K:=K) (λk σ H'=>∃(us:LI) (S:Option V),σ=[some (.ref x),some (.ref l),some (.str p),S]/\L2.Same H H'/\H' b=some (.lst (bs.map V.str))/\H' l=some (.lst (us.map V.ref))/\us.length<=i*14+k/\All2 (PrAt H H' l) us (zB ss ns i++((bs.take k).filter λo=>decide (i<ss.idxOf o)).map λo=>(p,o)))
    ⟨ts,_,rfl,s4,eb,R _ _ G,s,by simpa using c.mono λ_ _ h=>h.same R⟩ (λk σ H' _ B=>by obtain⟨_,_,_,_,z,_⟩:=B;show SqL.of z) (λk u σ Y M B=>?_) fun σ Y B=>?_
   .obtain⟨us,S,rfl,I,C,g,v,a⟩:=B;have hk:k<bs.length:=by simpa using(yc.mp M).1
    have Z:bs[k]?=some bs[k]:=yb hk;generalize bs[k]=m at Z;have eu:u=.str m:=by rw[yd,Z] at M;cases M;rfl
    subst eu;have ag:=J m (ye Z);have ae:=Yh ag;have ac:ss[ss.idxOf m]?=some m:=by rw[yb ae,Yw]
    have W:bs.take (k+1)=bs.take k++[m]:=by rw[yA,Z];rfl
    apply .inl ⟨x,cw,dx,_,.ref d,rfl,I _ _ hx,T.wcl,T.wn,zI,?_⟩;apply .inr ⟨d,.int i,rfl,X Y p i I D,?_⟩;apply .inl ⟨x,cw,dx,_,.ref d,rfl,I _ _ hx,T.wcl,T.wn,zI,?_⟩;apply .inr ⟨d,.int (ss.idxOf m:Nat),rfl,X Y m _ I ac,?_⟩;apply qP (λL=>?_) λL=>?_
    .have A:i<ss.idxOf m:=by have:=yj L;lk
     apply⟨.inl ⟨rfl,_,SqL.of g⟩,?_⟩;apply⟨wqqd,λt ht=>?_⟩;have N:l≠t:=qI g ht;have ai:b≠t:=qI C ht;have s6:=qw (Sr Y) (o:=.tup [.str p,.str m]) ht;apply⟨l,_,_,rfl,rfl,by rw[qj N];show g,by rw[ya];show qe (by have:i*14<=14*14:=Nat.mul_le_mul_right 14 (by lk);lk),?_⟩;show⟨us++[t],_,rfl,qhk (I.trans s6) hl,by rw[qj ah,qj ai];show C,by rw[qb,yq];rfl,by rw[yu];show us.length+1<=_;lk,?_⟩;rw[W,yQ,yq,<- Yu];have U:([m].filter λo=>decide (i<ss.idxOf o)).map (λo=>(p,o))=[(p,m)]:=by simp[A]
     rw[U];show All2.snoc (a.mono λt' ab h=>⟨h.1,h.2.1,?_⟩) ⟨I.free ht,N.symm,?_⟩
     .rw [qj h.2.1];show s6 _ _ h.2.2
     .rw [qj N.symm,qb]
    .have A:¬ i<ss.idxOf m:=λh=>L (yw (by lk));show⟨us,_,rfl,I,C,g,by lk,?_⟩;have U:([m].filter λo=>decide (i<ss.idxOf o)).map (λo=>(p,o))=[]:=by simp[A]
     rw[W,yQ,yq,U,yZ];show a
   .obtain⟨us,S,rfl,I,C,g,v,a⟩:=B;rw[ya,yv] at a;rw[ya] at v;show⟨us,_,_,rfl,I,g,by lk,?_⟩;unfold zB at a ⊢;rw[YR,List.flatMap_append];have U:[i].flatMap (qgO ss ns)=(bs.filter λo=>decide (i<ss.idxOf o)).map λo=>(p,o):=by rw[<- r];simp
    rw[U];show a
  .obtain⟨ts,x2,S,rfl,O,G,s,c⟩:=B;rw[ya] at s c;apply q l ts H1 O hl G (by have:ss.length*14<=14*14:=Nat.mul_le_mul_right 14 few;lk) c
def Box(H:Hp)(p:Addr):Prop:=∃ a b c:Int,H p=some (.lst [.int a,.int b,.int c])
def BB(p:Addr)(H H':Hp):Prop:=(∀ b o,b≠p->H b=some o->H' b=some o)/\Box H' p
inductive spTake(vs:List V)(H:Hp)(Q:VK)(E:XK):Prop|mk (p:Addr) (m:Int) (_:vs=[.ref p,.int m]) (_:Box H p) (_:0<m) (_:m<1073741824) (_:∀(r:Int) (H':Hp),0<=r->r<m->BB p H H'->Q (.int r) H')
inductive spCell(K:W.Frag)(vs:List V)(H:Hp)(Q:VK)(E:XK):Prop|mk (a:Addr) (ns:LQ) (k:Int) (_:vs=[.ref a,.int k]) (_:SqL K H a (ns.map V.int)) (_:0<=k) (_:k<1000) (_:∀ i:Int,Q (.int i) H)
inductive spBox(vs:List V)(H:Hp)(Q:VK)(E:XK):Prop|mk (i:Int) (_:vs=[.int i]) (_:∀(p:Addr) (a b c:Int),H p=none->Q (.ref p) (upd H p (.lst [.int a,.int b,.int c])))
def NewH(H H':Hp):Hp:=λa=>match H a with | none=>H' a | some _=>none
theorem zJ:∀{l m:LS},l.Nodup->(∀ x∈l,x∈m)->l.length<=m.length
 | [],_,_,_=>YM _
 | x::r,m,hn,h=>by
  obtain⟨h1,c⟩:=yn.mp hn;have a:=h x yK;have d:=zJ (l:=r) (m:=m.erase x) c λy b=>(List.mem_erase_of_ne (λe=>h1 (by rw[<- e];show b))).mpr (h y (yy _ b));rw[List.length_erase_of_mem a] at d;have:0<m.length:=List.length_pos_of_mem a;simp only[Yd];lk
theorem qfq(c:Str)(ss:LS):inV (.str c) (ss.map V.str)=decide (c∈ss):=by
 unfold inV;rw[List.any_map,yW,xo,yD];constructor
 .rintro ⟨y,a,e⟩;have:y=c:=eq_of_beq e;rw[<- this];show a
 .intro h;show⟨c,h,xN c⟩
inductive spFresh(vs:List V)(H:Hp)(Q:VK)(E:XK):Prop|mk (l:Addr) (ss:LS) (_:vs=[.ref l]) (_:H l=some (.lst (ss.map V.str))) (_:ss.length<=14) (_:∀(x:Str) (H':Hp),L2.Same H H'->qaQ x=true->x∉ss->Q (.str x) H')
def signs:LS:=("abcdefghijklmno":Str).cps.toList.map λc=>⟨#[c]⟩
theorem slice_ix(k n:Nat):Builtin.Str.strSliceIndices none (some (k:Int)) 1 n=List.range (min k n):=by
 unfold Builtin.Str.strSliceIndices sliceRange;simp only[show(1:Int)>0 by decide,Xl];rw[yC (show ¬ ((k:Int)<0) by lk)];have a:max 0 (min (k:Int) n)=((min k n:Nat):Int):=by lk
 rw[a];have b:(λ(j:Nat)=>((0:Int)+1*(j:Int)).toNat)=id:=by funext j;show _=j;lk
 rw[b,List.map_id]
 congr 1
 split
 .rw [Int.ediv_one];lk
 .omega
theorem qfr(a:Array Nat):∀ m,m<=a.size->(List.range m).filterMap (a[·]?)=a.toList.take m
 | 0,_=>rfl
 | m+1,h=>by
  rw[YR,List.filterMap_append,qfr a m (by lk),yA]
  congr 1
  have e:a[m]?=some a[m]:=Array.getElem?_eq_getElem (by lk);have b:a.toList[m]?=some a[m]:=by rw[Xx];show e
  rw[b,Xo,e];rfl
theorem qcD(z:Str)(k:Nat):(Txt.slice z none (some (k:Int))).cps.toList=z.cps.toList.take k:=by
 unfold Txt.slice;rw[slice_ix];have b:z.length=z.cps.toList.length:=by simp[Str.length]
 split
 .rename_i h
  rw[Yc] at h;have:min k z.length=z.length:=by simpa using h
  rw[YI (by lk)]
 .show(List.filterMap _ _).toArray.toList=_;rw[qfr z.cps (min k z.length) (kg _ _)];show z.cps.toList.take (min k z.length)=_;by_cases a:k<=z.length
  .rw [xY a]
  .rw [ki (by lk),YI (by lk),YI (by lk)]
theorem qeG(a b:Str):(a++b).cps.toList=a.cps.toList++b.cps.toList:=by
 show(a.cps++b.cps).toList=_;show Array.toList_append
theorem qgP{c:Nat}(h:97<=c)(a:c<=122):sg c=true:=by
 have key:∀ i,i<26->sg (97+i)=true:=by room
 have:=key (c-97) (by lk)
 rwa[show 97+(c-97)=c by lk] at this
def Signs(p:Addr)(H:Hp)(i:Nat)(ys:List V)(H':Hp):Prop:=BB p H H'/\∃ xs:LS,ys=xs.map V.str/\xs.length=i/\∀ x∈xs,x.length=1/\x.cps.toList.all sg=true
def L26:Str:="abcdefghijklmnopqrstuvwxyz"
theorem qgw{i:Int}(a:0<=i)(h1:i<26):atI L26.cps.toList i=some (97+i.toNat):=by
 obtain⟨n,rfl⟩:=Int.eq_ofNat_of_zero_le a;have key:∀ n,n<26->L26.cps.toList[n]?=some (97+n):=by room
 rw[y6];show qal (key n (by lk))
theorem qbI{x:Str}{l:LN}(e:x.cps.toList=l)(h1:1<=l.length)(a:l.length<=6)(h:l.all sg=true):qaQ x=true:=by
 have hl:x.length=l.length:=by rw[<- e];simp[Str.length]
 unfold qaQ;rw[yG ⟨by lk,by lk⟩,e];show h
theorem nodup_key(h:∀(i j:Nat) (s:Str),ss[i]?=some s->ss[j]?=some s->i=j):ss.Nodup:=by
 show Yg.mpr λi j a c b e=>?_;have:=h i j ss[j] (by rw[yb a,e]) (yb c);lk
def NL(p:Addr)(H':Hp)(l:Addr)(ss:LS):Prop:=H' l=some (.lst (ss.map V.str))/\l≠p
structure NOk(ss:LS):Prop where
 few:ss.length<=14
 nd:ss.Nodup
 nm:∀ s∈ss,qaQ s=true
def PrT(p:Addr)(H:Hp)(t:Addr)(a:Str×Str):Prop:=t≠p/\H t=some (.tup [.str a.1,.str a.2])
def TL(p:Addr)(H:Hp)(l:Addr)(ts:LI)(tps:LP):Prop:=H l=some (.lst (ts.map V.ref))/\l≠p/\All2 (PrT p H) ts tps
structure TOk(ss:LS)(tps:LP):Prop where
 few:tps.length<=30
 ok:∀ ab∈tps,∃ j k:Nat,j<k/\ss[j]?=some ab.1/\ss[k]?=some ab.2
 nd:tps.Nodup
inductive spTies(vs:List V)(H:Hp)(Q:VK)(E:XK):Prop|mk (p n:Addr) (ss:LS) (_:vs=[.ref p,.ref n]) (_:Box H p) (_:NL p H n ss) (_:NOk ss) (_:∀(l:Addr) (ts:LI) (tps:LP) (H':Hp),BB p H H'->H l=none->TL p H' l ts tps->TOk ss tps->Q (.ref l) H')
def Shuf(tps d:LP):Prop:=∃ c,d.Perm c/\All2 (λa b=>b=a\/b=(a.2,a.1)) tps c
inductive spShuf(vs:List V)(H:Hp)(Q:VK)(E:XK):Prop|mk (p l:Addr) (ts:LI) (tps:LP) (_:vs=[.ref p,.ref l]) (_:Box H p) (_:TL p H l ts tps) (_:tps.length<=30) (_:∀(l':Addr) (us:LI) (ups:LP) (H':Hp),BB p H H'->H l'=none->TL p H' l' us ups->Shuf tps ups->Q (.ref l') H')
theorem all_true(n:Nat):(List.range n).all (λ_=>true)=true:=by simp
theorem qcU{a b:Addr}{s t c t':Str}(hb:H b=some (.tup [.str c,.str t']))(g:H a=some (.tup [.str s,.str t])):EqD K H 1 (.ref b) (.ref a) (decide ((c,t')=(s,t))):=by
 by_cases e:b=a
 .subst e;rw[hb] at g;cases g;rw[yw rfl];show .self
 .have z:=EqT.tup (K:=K) (H:=H) (n:=0) (e:=λj=>if j=0 then eqV (.str c) (.str s) else eqV (.str t') (.str t)) (SqT.of hb) (SqT.of g) λj x y d f=>by
   match j,d,f with
   | 0,d,f=>cases d;cases f;show .flat rfl rfl
   | 1,d,f=>cases d;cases f;show .flat rfl rfl
  have h:((List.range (min [V.str c,V.str t'].length [V.str s,V.str t].length)).all (λj=>if j=0 then eqV (.str c) (.str s) else eqV (.str t') (.str t))&&[V.str c,V.str t'].length==[V.str s,V.str t].length)=decide ((c,t')=(s,t)):=by
   show((c==s)&&((t'==t)&&true)&&true)=_;rw[yW];simp
  rw[h] at z;show .deep z e
def qeT(H:Hp)(z:V):Option (Str×Str):=match z with
 | .ref t=>(match H t with
  | some (.tup [.str a,.str b])=>some (a,b)
  | _=>none)
 | _=>none
theorem qcV{a b:Str}(h:H t=some (.tup [.str a,.str b])):qeT H (.ref t)=some (a,b):=by
 unfold qeT;dsimp only;rw[h]
theorem any_in(h:All2 (λt b=>H t=some (.tup [.str b.1,.str b.2])) ts tps)(st:Str×Str):((ts.map V.ref).any λz=>decide (qeT H z=some st))=decide (st∈tps):=by
 rw[yW,xo,yD];constructor
 .rintro ⟨z,i,e⟩;obtain⟨t,g,rfl⟩:=yJ.mp i;obtain⟨b,c,r⟩:=h.mem g;have e:=yj e;rw[qcV r] at e;cases e;show c
 .intro f;obtain⟨k,d,e⟩:=List.getElem_of_mem f;have a:k<ts.length:=by rw[h.len];show d
  have r:=h.at_ k ts[k] tps[k] (yb a) (yb d);show⟨.ref ts[k],yJ.mpr ⟨_,Yz a,rfl⟩,yw ?_⟩;rw[qcV r,e]
def Adj(ss:LS)(ns:LN)(tps:LP):Prop:=∀ a b s t,ss[a]?=some s->ss[b]?=some t->((ns.getD a 0).testBit b=true↔((s,t)∈tps\/(t,s)∈tps))
theorem qfs{a b:Addr}(c:H a=some (.lst xs))(hb:H b=some (.lst ys))(hl:xs.length=ys.length)(h:∀(j:Nat) x y,xs[j]?=some x->ys[j]?=some y->EqD K H n x y true):EqT K H (n+1) a b true:=by
 have z:=EqT.lst (K:=K) (H:=H) (n:=n) (e:=λ_=>true) (SqL.of c) (SqL.of hb) hl h;rw[all_true] at z;show z
theorem ix_natF{k:Nat}(h:k<n):seqIndex? (k:Int) n=some k:=by
 unfold seqIndex?;simp;lk
def tA(tps:LP)(a b:Str):Prop:=(a,b)∈tps\/(b,a)∈tps
structure Wt(cw:Addr)(H:Hp)(x:Addr)(ss:LS)(ns:LN)(tps:LP):Prop where
 web:WebAt cw H x ss ns
 adj:Adj ss ns tps
 ok:∀ ab∈tps,ab.1∈ss/\ab.2∈ss/\ab.1≠ab.2
theorem Wt.same(h:Wt cw H x ss ns tps)(s:L2.Same H H'):Wt cw H' x ss ns tps:=⟨h.web.same s,h.adj,h.ok⟩
theorem Wt.wok(h:Wt cw H x ss ns tps):WOk ss ns:=by obtain⟨_,_,_,_,_,_,_,_,z⟩:=h.web;show z
theorem Wt.bes(h:Wt cw H x ss ns tps):∀(j:Nat) z u,ss[j]?=some z->(u∈inB ss 0 (ns.getD j 0)↔tA tps z u):=λj z u e=>by
 rw[ze h.wok.nd,yo];constructor
 .rintro ⟨h1,b⟩;show(h.adj j _ z u e (by rw[yb (Yh h1),Yw])).mp b
 .intro t;have a:u∈ss:=t.elim (λy=>(h.ok _ y).2.1) λy=>(h.ok _ y).1;show⟨a,(h.adj j _ z u e (by rw[yb (Yh a),Yw])).mpr t⟩
section
variable{ss:LS}{ns:LN}{tps:LP}
theorem qft(hw:WOk ss ns)(p:Adj ss ns tps){a b:Str}:(a,b)∈zB ss ns ss.length↔tA tps a b/\∃ i j:Nat,i<j/\ss[i]?=some a/\ss[j]?=some b:=by
 unfold zB;rw[List.mem_flatMap];constructor
 .rintro ⟨i,f,h⟩;have f:=y7.mp f;obtain⟨s,l⟩:∃ s,ss[i]?=some s:=⟨_,yb f⟩;have d:ss.getD i ""=s:=by rw[yL,l];rfl
  unfold qgO at h;rw[d] at h;obtain⟨o,t,e⟩:=yJ.mp h;cases e;obtain⟨h1,c⟩:=yo.mp t;obtain⟨q,r⟩:=qfp hw.nd h1;have n:ss[ss.idxOf b]?=some b:=by rw[yb (Yh q),Yw]
  show⟨(p i _ _ _ l n).mp r,i,_,yj c,l,n⟩
 .rintro ⟨h,i,j,g,h1,c⟩;show⟨i,y7.mpr (yc.mp h1).1,?_⟩;have d:ss.getD i ""=a:=by rw[yL,h1];rfl
  have m:ss.idxOf b=j:=by
   have hb:=ye c;show jf hw.nd (by rw[yb (Yh hb),Yw]) c
  unfold qgO;rw[d];show yJ.mpr ⟨b,yo.mpr ⟨?_,yw (by rw[m];show g)⟩,rfl⟩;rw[ze hw.nd];show yo.mpr ⟨ye c,by rw[m];show(p i j a b h1 c).mpr h⟩
theorem dps_nd(hw:WOk ss ns):(zB ss ns ss.length).Nodup:=by
 show List.pairwise_flatMap.mpr ⟨λi _=>?_,?_⟩
 .unfold qgO;show xB.mpr ?_;have nd:((inB ss 0 (ns.getD i 0)).filter λo=>decide (i<ss.idxOf o)).Nodup:=by rw[ze hw.nd];show(hw.nd.filter _).filter _
  show nd.imp λc e=>c (Prod.mk.inj e).2
 .show List.Pairwise.imp_of_mem (λ{i j} a b g q d r f e=>?_) (List.pairwise_lt_range (n:=ss.length));have a:=y7.mp a;have b:=y7.mp b;unfold qgO at d f;obtain⟨_,_,rfl⟩:=yJ.mp d;obtain⟨_,_,rfl⟩:=yJ.mp f;have e:=(Prod.mk.inj e).1;rw[yL,yL,yb a,yb b] at e;have:=jf hw.nd (yb a) (by rw[yb b];show congrArg some e.symm);lk
end
structure WyI(A:Str->Str->Prop)(m:Str->Option (LS)):Prop where
 nd:∀ z r,m z=some r->r.Nodup
 last:∀ z r,m z=some r->r.getLast?=some z
 pre:∀ z r,m z=some r->∀ i x,r[i]?=some x->m x=some (r.take (i+1))
 tie:∀ z r,m z=some r->∀ i x y,r[i]?=some x->r[i+1]?=some y->A x y
def qdP(m:Str->Option (LS))(z:Str)(r:LS):Str->Option (LS):=λx=>if x=z then some r else m x
theorem jp:qdP m z r z=some r:=yG rfl
theorem jk{x:Str}(h:x≠z):qdP m z r x=m x:=yC h
theorem WyI.ne(h:WyI A m)(e:m z=some r):r≠[]:=λa=>by have:=h.last z r e;rw[a] at this;cases this
theorem WyI.key(h:WyI A m){x:Str}(e:m z=some r)(b:x∈r):∃ q,m x=some q:=by
 obtain⟨i,a⟩:=Y9 b;show⟨_,h.pre z r e i x a⟩
theorem WyI.start(h:WyI A m){s:Str}(g:m s=none):WyI A (qdP m s [s]):=by
 have c:∀{z r},m z=some r->∀ x∈r,x≠s:=λe x j l=>by
  obtain⟨q,f⟩:=h.key e j;rw[l,g] at f;cases f
 have case:∀{z r},qdP m s [s] z=some r->(z=s/\r=[s])\/(z≠s/\m z=some r):=λ{z r} e=>by
  by_cases b:z=s
  .subst b;rw[jp] at e;cases e;show .inl ⟨rfl,rfl⟩
  .rw [jk b] at e;show .inr ⟨b,e⟩
 show⟨λz r e=>?_,λz r e=>?_,λz r e i x a=>?_,λz r e i x y a d=>?_⟩<;>rcases case e with⟨rfl,rfl⟩ | ⟨b,e⟩
 .simp
 .show h.nd z r e
 .rfl
 .show h.last z r e
 .cases i with
  | zero=>cases a;show jp
  | succ i=>simp at a
 .rw [jk (c e x (ye a))];show h.pre z r e i x a
 .simp at d
 .show h.tie z r e i x y a d
theorem WyI.step(h:WyI A m){q:LS}(f:m y=some q)(p:m z=none)(l:A y z):WyI A (qdP m z (q++[z])):=by
 have g:∀{w r},m w=some r->∀ x∈r,x≠z:=λe x o s=>by
  obtain⟨t,n⟩:=h.key e o;rw[s,p] at n;cases n
 have case:∀{w r},qdP m z (q++[z]) w=some r->(w=z/\r=q++[z])\/(w≠z/\m w=some r):=λ{w r} e=>by
  by_cases hw:w=z
  .subst hw;rw[jp] at e;cases e;show .inl ⟨rfl,rfl⟩
  .rw [jk hw] at e;show .inr ⟨hw,e⟩
 have n:0<q.length:=List.length_pos_iff.mpr (h.ne f);show⟨λw r e=>?_,λw r e=>?_,λw r e i x c=>?_,λw r e i x u c j=>?_⟩<;>rcases case e with⟨rfl,rfl⟩ | ⟨hw,e⟩
 .show xz.mpr ⟨h.nd y q f,by simp,λa l b hb=>by rw[yx.mp hb];show g f a l⟩
 .show h.nd w r e
 .simp
 .show h.last w r e
 .by_cases hl:i<q.length
  .rw [yX hl] at c;rw[jk (g f x (ye c)),h.pre y q f i x c,List.take_append_of_le_length (by lk)]
  .have d:i=q.length:=by
    have:=(yc.mp c).1;rw[yu] at this;simp only[Yd,YY] at this;lk
   subst d;rw[Ye (yg _),Nat.sub_self] at c;cases c;rw[jp,YI (by rw[yu];show yg _)]
 .rw [jk (g e x (ye c))];show h.pre w r e i x c
 .by_cases hl:i+1<q.length
  .rw [yX hl] at j;rw[yX (by lk)] at c;show h.tie y q f i x u c j
  .have d:i+1=q.length:=by
    have:=(yc.mp j).1;rw[yu] at this;simp only[Yd,YY] at this;lk
   rw[d,Ye (yg _),Nat.sub_self] at j;cases j;rw[yX (by lk)] at c;have hl:=h.last y q f;rw[Xn,show q.length-1=i by lk,c] at hl;cases hl;show l
 .show h.tie w r e i x u c j
def sdW(r:LS):Nat:=(r.length+1) % 2
inductive Rc(A:Str->Str->Prop)(a:Str):Str->Prop
 | refl:Rc A a a
 | on {b c:Str} (h:Rc A a b) (t:A b c):Rc A a c
theorem ub:FnScope ["way"] ["way"] (qf jQ):=fS
theorem k9:FnScope ["web","start","ways","waiting","place","other"] wqX (qf zc):=fS
inductive StW(A:Str->Str->Prop)(s:Str)(m:Str->Option (LS)):(Str->Option (LS))->Prop
 | refl:StW A s m m
 | step {m1:Str->Option (LS)} {y z:Str} {q:LS} (h:StW A s m m1) (hy:m1 y=some q) (hq:q[0]?=some s) (ha:A y z) (hz:m1 z=none):StW A s m (qdP m1 z (q++[z]))
theorem StW.ext{s:Str}(h:StW A s m m1):∀ z r,m z=some r->m1 z=some r:=by
 induction h with
 | refl=>show λ_ _ e=>e
 | @step m1 y z q h hy hq ha hz ih =>
  intro x r e;have a:=ih x r e;rw[jk (λk=>by rw[k,hz] at a;cases a)];show a
theorem StW.wy{s:Str}(h:StW A s m m1)(W:WyI A m):WyI A m1:=by
 induction h with
 | refl=>show W
 | step h hy hq ha hz ih=>show ih.step hy hz ha
theorem StW.root{s:Str}(h:StW A s m m1):∀ z r,m1 z=some r->m z=some r\/r[0]?=some s:=by
 induction h with
 | refl=>show λ_ _ e=>.inl e
 | @step m1 y z q h hy hq ha hz ih =>
  intro x r e;by_cases a:x=z
  .subst a;rw[jp] at e;cases e;show .inr ?_;rw[yX (yc.mp hq).1];show hq
  .rw [jk a] at e;show ih x r e
theorem StW.inn{s:Str}(h:StW A s m m1)(inn:∀ a b,A a b->b∈ss)(d:∀ z r,m z=some r->z∈ss):∀ z r,m1 z=some r->z∈ss:=by
 induction h with
 | refl=>show d
 | @step m1 y z q h hy hq ha hz ih =>
  intro x r e;by_cases c:x=z
  .rw [c];show inn y z ha
  .rw [jk c] at e;show ih x r e
theorem WyI.few(h:WyI A m)(a:∀ z r,m z=some r->z∈ss)(e:m z=some r):r.length<=ss.length:=
 zJ (h.nd z r e) λx c=>by obtain⟨q,b⟩:=h.key e c;show a x q b
def WyV(N:Addr->Prop)(H:Hp)(o:Option V):Option (LS)->Prop
 | none=>o=none
 | some r=>∃ t,o=some (.ref t)/\¬ N t/\H t=some (.lst (r.map V.str))
def WyH(N:Addr->Prop)(H:Hp)(d:Addr)(ss:LS)(m:Str->Option (LS)):Prop:=∃ kvs,H d=some (.dK kvs)/\(∃ a:LS,kvs.length<=a.length/\a.Nodup/\∀ u∈a,u∈ss/\m u≠none)/\∀ s,WyV N H (zQ kvs (.inr s:Key)) (m s)
theorem WyV.keep{a:Addr->Prop}{o:Option V}{r:Option (LS)}(h:WyV N H o r)(k:∀ t xs,¬ N t->H t=some (.lst xs)->¬ a t/\H' t=some (.lst xs)):WyV a H' o r:=by
 cases r with
 | none=>show h
 | some r=>obtain⟨t,h1,b,c⟩:=h;show⟨t,h1,k _ _ b c⟩
theorem WyH.same(h:WyH N H d ss m)(s:L2.Same H H'):WyH N H' d ss m:=by
 obtain⟨kvs,h1,a,b⟩:=h;show⟨kvs,s _ _ h1,a,λz=>(b z).keep λt xs n e=>⟨n,s _ _ e⟩⟩
theorem WyH.fresh{w:Addr}(h:WyH N H d ss m)(hw:H w=none):WyH (λt=>t=w) H d ss m:=by
 obtain⟨kvs,h1,a,b⟩:=h;show⟨kvs,h1,a,λz=>(b z).keep λt xs n e=>⟨(λk=>by rw[k,hw] at e;cases e),e⟩⟩
theorem WyH.weak(h:WyH N H d ss m):WyH (λ_=>False) H d ss m:=by
 obtain⟨kvs,h1,a,b⟩:=h;show⟨kvs,h1,a,λz=>(b z).keep λt xs n e=>⟨id,e⟩⟩
theorem WyH.updW{w:Addr}(h:WyH (λt=>t=w) H d ss m)(c:w≠d):WyH (λt=>t=w) (upd H w o) d ss m:=by
 obtain⟨kvs,h1,a,b⟩:=h;show⟨kvs,by rw[qj (YB c)];show h1,a,λz=>(b z).keep λt xs n e=>⟨n,by rw[qj n];show e⟩⟩
theorem WyH.at(h:WyH N H d ss m)(e:m z=some r):∃ kvs t,H d=some (.dK kvs)/\zQ kvs (.inr z:Key)=some (.ref t)/\H t=some (.lst (r.map V.str)):=by
 obtain⟨kvs,h1,f,a⟩:=h;have:=a z;rw[e] at this;obtain⟨t,b,_,c⟩:=this;show⟨kvs,t,h1,b,c⟩
theorem WyH.isSome(a:∀ s,WyV N H (zQ kvs (.inr s:Key)) (m s))(z:Str):(zQ kvs (.inr z:Key)).isSome=(m z).isSome:=by
 have:=a z
 cases e:m z with
 | none=>rw[e] at this;rw[show zQ kvs (.inr z:Key)=none from this];rfl
 | some r=>rw[e] at this;obtain⟨t,b,_⟩:=this;rw[b];rfl
theorem WyH.put(j:H d=some (.dK kvs))(o:∃ c:LS,kvs.length<=c.length/\c.Nodup/\∀ u∈c,u∈ss/\m u≠none)(hv:∀ s,WyV N H (zQ kvs (.inr s:Key)) (m s))(h:m z=none)(p:z∈ss)(l:¬ N t)(q:H t=some (.lst (r.map V.str))):WyH N (upd H d (.dK (qbn kvs (Sum.inr z) (.ref t)))) d ss (qdP m z r):=by
 obtain⟨c,w,v,f⟩:=o;have i:∀ t' xs,H t'=some (.lst xs)->upd H d (.dK (qbn kvs (Sum.inr z) (.ref t))) t'=some (.lst xs):=λt' xs e=>by rw[qj (qbk e j (by intro z;cases z))];show e
 show⟨_,qb,⟨c++[z],?_,xz.mpr ⟨v,by simp,λa g b hb e=>?_⟩,λu hu=>?_⟩,λs=>?_⟩
 .have:=zj kvs (Sum.inr z:Key) (.ref t);rw[yu];show _<=_+1;lk
 .rw [yx.mp hb] at e;rw[e] at g;show(f z g).2 h
 .rcases yO.mp hu with hu | hu
  .show⟨(f u hu).1,?_⟩;rw[jk (λe=>(f u hu).2 (by rw[e];show h))];show(f u hu).2
  .rw [yx.mp hu,jp];show⟨p,λe=>by cases e⟩
 .rw [qeq];by_cases e:s=z
  .subst e;rw[yG rfl,jp];show⟨t,rfl,l,i _ _ q⟩
  .rw [yC (λy=>e (kx y)),jk e];show(hv s).keep λt' xs n e=>⟨n,i t' xs e⟩
def BxD(d:Addr)(H H':Hp):Prop:=∀ b o,b≠d->H b=some o->H' b=some o
theorem numK_no{s:Str}{k:Nat}(h:zQ (qb7 ss k) (.inr s:Key)=some (.ref t)):False:=by
 by_cases a:s∈ss
 .obtain⟨j,_,_,e⟩:=j4 (i:=k) a;rw[h] at e;cases e
 .rw [qa4 a] at h;cases h
theorem Wt.bx{s:Str}(W:Wt cw H x ss ns tps)(f:H d=some (.dK kvs))(hv:zQ kvs (.inr s:Key)=some (.ref t))(b:BxD d H J):Wt cw J x ss ns tps:=by
 show⟨?_,W.adj,W.ok⟩;obtain⟨i,g,ol,h,hb,a,e,c,hw⟩:=W.web;show⟨i,g,ol,h,b _ _ (qbk hb f (by intro z;cases z)) hb,b _ _ (λz=>?_) a,b _ _ (qbk e f (by intro z;cases z)) e,b _ _ (qbk c f (by intro z;cases z)) c,hw⟩;rw[z,f] at a;rw[HO.dK.inj (yl a)] at hv;show numK_no hv
inductive spOfs(vs:List V)(H:Hp)(Q:VK)(E:XK):Prop|mk (a:Addr) (r:LS) (_:vs=[.ref a]) (_:H a=some (.lst (r.map V.str))) (_:Q (.bl (decide (sdW r=0))) H)
inductive spSf(cw:Addr)(vs:List V)(H:Hp)(Q:VK)(E:XK):Prop|mk (x d:Addr) (ss:LS) (ns:LN) (tps:LP) (s:Str) (m:Str->Option (LS)) (_:vs=[.ref x,.str s,.ref d]) (_:Wt cw H x ss ns tps) (_:WyH (λ_=>False) H d ss m) (_:WyI (tA tps) m) (_:(∀ z r,m z=some r->z∈ss)) (_:s∈ss) (_:m s=some [s]) (_:(∀ a b,tA tps a b->a≠s->m a≠none->m b≠none)) (_:∀ H' m1,BxD d H H'->WyH (λ_=>False) H' d ss m1->StW (tA tps) s m m1->(∀ a b,tA tps a b->m1 a≠none->m1 b≠none)->Q .non H')
theorem ok_ofs(F:Fun K "on_first_side" "on_first_side" jQ f fd)(T:Txt K mg cc cw):wq9 1 f fd ["way"] spOfs:=by
 show F.ok ub λ_ _ _ _ H vs Q E c h=>?_
 .obtain⟨a,r,rfl,b,q⟩:=h;have d:=jT c;show⟨_,(qg (qp (jL (jX (K:=K) rfl d) (qC zh (qq (j8 (K:=K) rfl) rfl T.b_len YE (qa (pv 0) qd)) qh) qh (qv _)))),?_⟩;apply zT b ?_;rw[ya];apply⟨_,_,rfl,rfl,by show(0:Int)<2;decide,?_⟩;apply .inl (.inl (.inl ⟨rfl,rfl,?_⟩))
  have e:(if false=true then !eqV (V.int ((r.length:Int) % 2)) (V.int 1) else eqV (V.int ((r.length:Int) % 2)) (V.int 1))=decide (sdW r=0):=by
   rw[yC (by decide)];unfold eqV sdW;rw[yW,yD];simp only[Yo];lk
  rw[e];show q
theorem ok_sf(F:Fun K "spread_from" "spread_from" zc f fd)(T:Txt K mg cc cw)(kR:wq8 6 cw "beside" wqa (spBs cw)):wq9 7 f fd wqX (spSf cw):=by
 show F.ok k9 λ_ _ _ s H vs Q E hr h=>?_
 .obtain⟨x,d,ss,ns,tps,st,m,rfl,W,hY,au,ax,ba,ap,av,q⟩:=h;have hu:=jT hr;show⟨_,(qc (qo (i:=3) k9.nd rfl (yF rfl) (qZ (qa (pv 1) qd)))
 (qg (qcL yS (qm qe1 (qq (j8 (K:=K) rfl) rfl T.b_len YE (qa (pv 3) qd)) qh (qv _))
 (qc (qo (i:=4) k9.nd rfl (yF rfl) (qcO (K:=K) rfl yP PySem.F.slot_list_pop PySem.F.type_list_pop mtR_popAt (pv 3) (qa qh qd)))
 (qg (je yS rfl (qF (K:=K) rfl (qH kR (hmR hr) (pv 0) (qa (pv 4) qd))) (qi (i:=5) k9.nd rfl (yF rfl))
 (qg (qR (qm (zb (K:=K) rfl hu) (pv 5) (pv 2) (by with_unfolding_all rfl)) (qc (qaj (qC (j9 (K:=K) rfl) (qx (qz (K:=K) rfl hu) (pv 2) (pv 4) (λ_ _=>rfl)) (qZ (qa (pv 5) qd))) (qaJ (pv 2) (pv 5) (qaK hu)))
 (qg (qU (qcO (K:=K) rfl yP yU yV qJ (pv 3) (qa (pv 5) qd))))) qu)))))))),?_⟩
  apply⟨wqqc,λg aa=>?_⟩;have s1:=qw (Sr H) (o:=.lst [.str st]) aa;have ew:upd H g (.lst [.str st]) g=some (.lst ([st].map V.str)):=qb;generalize upd H g (.lst [.str st])=H1 at s1 ew;have bn:=W.wok.nd;have few:=W.wok.few;ext;obtain⟨Wp,ae⟩:∃ Wp:Nat->L2.St->Hp->Prop,Wp=λn σ J=>∃(m1:Str->Option (LS)) (I wl:LS) (y4 y5:Option V),n=15-I.length/\σ=[some (.ref x),some (.str st),some (.ref d),some (.ref g),y4,y5]/\BxD d H J/\J g=some (.lst (wl.map V.str))/\WyH (λt=>t=g) J d ss m1/\StW (tA tps) st m m1/\(I++wl).Nodup/\(∀ y∈I++wl,y∈ss/\∃ q,m1 y=some q/\q[0]?=some st)/\∀ a b,tA tps a b->a∉wl->m1 a≠none->m1 b≠none:=⟨_,rfl⟩;show⟨Wp,⟨15,by rw[ae];show⟨m,[],[st],none,none,rfl,rfl,λb o _ e=>s1 _ _ e,ew,(hY.fresh aa).same s1,.refl,by simp,λy hy=>by rw[yx.mp hy];show⟨ba,_,ap,rfl⟩,λa b h1 A=>av a b h1 (λe=>A (by rw[e];simp))⟩⟩,λn σ J hW=>?_⟩;rw[ae] at hW;obtain⟨m1,I,wl,y4,y5,hn,rfl,bJ,S,af,hS,hD,ag,al⟩:=hW;apply zT S ?_;rw[ya];ext
  cases wl with
  | nil =>
   show qP (λh=>by simp at h) λ_=>?_;show q J m1 bJ af.weak hS λa b h1 A=>al a b h1 (by simp) A
  | cons pl wl =>
   show qP (λ_=>⟨λbe H'=>∃ n',n'<n/\Wp n' be H',λ_ _ z=>z,?_⟩) λh=>absurd (yw (by simp)) h
   have bj:I.length+1<=14:=by
    have:=zJ (l:=I++pl::wl) (m:=ss) hD λy hy=>(ag y hy).1;rw[yu,Yd] at this;lk
   apply⟨.inl ⟨rfl,_,.of S⟩,?_⟩;apply⟨g,_,0,0,.str pl,rfl,rfl,S,by decide,by decide,by rw[ya];show ix_natF (by simp),rfl,?_⟩;obtain⟨az,R,ay,ah⟩:=ag pl (by simp)
   have aj:g≠d:=λz=>by
    obtain⟨kvs,e,_⟩:=af;rw[<- z,S] at e;cases e
   have xw:∀{b o},b≠g->J b=some o->upd J g (.lst (wl.map V.str)) b=some o:=λh e=>by rw[qj h];show e
   have b2:BxD d H (upd J g (.lst (wl.map V.str))):=λb o n e=>xw (λz=>by rw[z,aa] at e;cases e) (bJ b o n e);have e2:upd J g (.lst (wl.map V.str)) g=some (.lst (wl.map V.str)):=qb;have Y2:=af.updW (o:=.lst (wl.map V.str)) aj;show qf0 _ _ _ _ (upd J g (.lst (wl.map V.str)));generalize upd J g (.lst (wl.map V.str))=J2 at b2 e2 Y2;ext
   have W2:Wt cw J2 x ss ns tps:=by
    obtain⟨bg,t0,aw,bb,_⟩:=hY.at ap;show W.bx aw bb b2
   obtain⟨wx,dd,ol,nn,hb,bh,bp,bo,hw⟩:=id W2.web;obtain⟨j,gj⟩:=Y9 az;show⟨x,wx,_,rfl,hb,jU (by room),?_⟩;apply⟨x,ss,ns,pl,j,rfl,W2.web,gj,λJ3 s3 lb O=>?_⟩;have s4:=qw s3 (o:=.lst ((inB ss 0 (ns.getD j 0)).map V.str)) O;have el:upd J3 lb (.lst ((inB ss 0 (ns.getD j 0)).map V.str)) lb=some (.lst ((inB ss 0 (ns.getD j 0)).map V.str)):=qb;generalize upd J3 lb (.lst ((inB ss 0 (ns.getD j 0)).map V.str))=J4 at s4 el;have N:=W2.bes j pl;generalize inB ss 0 (ns.getD j 0)=bs at el N;ext
   have ar:lb≠d/\lb≠g:=by
    constructor
    .intro z;obtain⟨kvs,e,_⟩:=Y2;rw[z,s3 _ _ e] at O;cases O
    .intro z;rw[z,s3 _ _ e2] at O;cases O
   show .inl ⟨⟨_,.of el⟩,ju (xs:=bs.map V.str) (λi σ G=>∃(v:Str->Option (LS)) (D:LS) (y5:Option V),σ=[some (.ref x),some (.str st),some (.ref d),some (.ref g),some (.str pl),y5]/\(∀ b o,b≠d->b≠g->J4 b=some o->G b=some o)/\G g=some (.lst ((wl++D).map V.str))/\WyH (λt=>t=g) G d ss v/\StW (tA tps) st m v/\v pl=some R/\(I++[pl]++(wl++D)).Nodup/\(∀ y∈I++[pl]++(wl++D),y∈ss/\∃ q,v y=some q/\q[0]?=some st)/\(∀ a b,tA tps a b->a∉wl++D->a≠pl->v a≠none->v b≠none)/\∀ b∈bs.take i,v b≠none)
    ⟨m1,[],_,rfl,λb o _ _ e=>e,by rw[yZ];show s4 _ _ e2,Y2.same s4,hS,ay,by rw[yZ,Yu];show hD,λy hy=>ag y (by rw[yZ,Yu] at hy;show hy),λa b h1 A h3=>al a b h1 (λz=>by rw[yZ] at A;rcases yN.mp z with z | z;show h3 z;show A z),λb hb=>by simp at hb⟩
    (λi σ G _ hp=>?_) (λi y σ G hy hp=>?_) fun σ G hp=>?_⟩
   .obtain⟨v,D,y5,_,B2,_⟩:=hp;show .of (B2 _ _ ar.1 ar.2 el)
   .obtain⟨v,D,y5,rfl,B2,L,U,B,C,M,p,X,Z⟩:=hp;rw[yd] at hy;obtain⟨c,ho,rfl⟩:=ym.mp hy;have aq:tA tps pl c:=(N c gj).mp (ye ho);have am:c∈ss:=aq.elim (λk=>(W.ok _ k).2.1) λk=>(W.ok _ k).1;have ab:bs.take (i+1)=bs.take i++[c]:=by rw[yA,ho];rfl
    obtain⟨kvs,Y,an,ai⟩:=id U;apply .inr (.inl ⟨d,_,rfl,DGet.k (k:=Sum.inr c) Y,?_⟩);rw[yG rfl,WyH.isSome ai];ext
    cases hm:v c with
    | some r =>
     show yp ?_;show⟨v,D,_,rfl,B2,L,U,B,C,M,p,X,λb hb=>?_⟩;rw[ab] at hb;rcases yO.mp hb with hb | hb
     .show Z b hb
     .rw [yx.mp hb,hm];show λe=>by cases e
    | none =>
     show zu ?_;ext;have ao:=ai pl;rw[C] at ao;obtain⟨t,bc,_,as⟩:=ao;show .inr ⟨d,.ref t,rfl,by have:=DGet.k (k:=Sum.inr pl) Y;rw[bc] at this;show this,?_⟩;apply⟨wqqc,λa1 h1=>?_⟩;have t1:=qw (Sr G) (o:=.lst [.str c]) h1;have e1:upd G a1 (.lst [.str c]) a1=some (.lst [.str c]):=qb;generalize upd G a1 (.lst [.str c])=G1 at t1 e1
     have bf:R.length<=14:=by
      have:=(B.wy au).few (B.inn (λa b h=>h.elim (λk=>(W.ok _ k).2.1) λk=>(W.ok _ k).1) ax) C;lk
     show .inl ⟨t,a1,_,_,rfl,rfl,t1 _ _ as,e1,by rw[ya];show R.length+1<=sizeLine;show yI (qe (by lk)),λa2 A=>?_⟩;have bd:a2≠g:=λz=>by rw[z,t1 _ _ L] at A;cases A
     have t2:=qw t1 (o:=.lst (R.map V.str++[.str c])) A;have e3:upd G1 a2 (.lst (R.map V.str++[.str c])) a2=some (.lst ((R++[c]).map V.str)):=by rw[qb,yq];rfl
     generalize upd G1 a2 (.lst (R.map V.str++[.str c]))=G2 at t2 e3;ext
     have bm:kvs.length<=14:=by
      obtain⟨po,p1,p2,p3⟩:=an;have:=zJ (l:=po) (m:=ss) p2 λu hu=>(p3 u hu).1;lk
     show .inr ⟨d,_,rfl,DPut.k (k:=Sum.inr c) (t2 _ _ Y) (by rw[xR];lk),?_⟩;have Y3:=WyH.put (t2 _ _ Y) an (λs=>(ai s).keep λt xs n e=>⟨n,t2 _ _ e⟩) hm am bd e3;have ad:upd G2 d (.dK (qbn kvs (Sum.inr c) (.ref a2))) g=some (.lst ((wl++D).map V.str)):=by rw[qj aj];show t2 _ _ L
     have B3:∀ b o,b≠d->b≠g->J4 b=some o->upd G2 d (.dK (qbn kvs (Sum.inr c) (.ref a2))) b=some o:=λb o n1 n2 e=>by rw[qj n1];show t2 _ _ (B2 b o n1 n2 e)
     generalize upd G2 d (.dK (qbn kvs (Sum.inr c) (.ref a2)))=G3 at Y3 ad B3;apply⟨.inl ⟨rfl,_,SqL.of ad⟩,?_⟩;ext
     have bq:(wl++D).length<=14:=by
      have:=zJ (l:=wl++D) (m:=ss) (xz.mp M).2.1 λy hy=>(p y (yO.mpr (.inr hy))).1;lk
     show⟨g,_,_,rfl,rfl,ad,by rw[ya];show qe (by lk),?_⟩;have ak:∀{y q},v y=some q->qdP v c (R++[c]) y=some q:=λ{y q} e=>by rw[jk (λz=>by rw[z,hm] at e;cases e)];show e
     have ac:∀{y},v y≠none->qdP v c (R++[c]) y≠none:=λ{y} e=>by
      cases e2:v y with
      | none=>show absurd e2 e
      | some q=>rw[ak e2];show λz=>by cases z
     show⟨qdP v c (R++[c]),D++[c],_,rfl,λb o n1 n2 e=>by rw[qj n2];show B3 b o n1 n2 e,by rw[qb,<- Yu,yq (l₂:=[c])];rfl,Y3.updW aj,B.step C ah aq hm,ak C,?_,λy hy=>?_,λa b h1 A h3 h4=>?_,λb hb=>?_⟩
     .rw [<- Yu wl,<- Yu (I++[pl])];show xz.mpr ⟨M,by simp,λa ha b hb e=>?_⟩;rw[yx.mp hb] at e;rw[e] at ha;obtain⟨_,q,hq,_⟩:=p c ha;rw[hm] at hq;cases hq
     .rw [<- Yu wl,<- Yu (I++[pl])] at hy;rcases yO.mp hy with hy | hy
      .obtain⟨k1,q,k2,k3⟩:=p y hy;show⟨k1,q,ak k2,k3⟩
      .rw [yx.mp hy];show⟨am,_,jp,by rw[yX (yc.mp ah).1];show ah⟩
     .have ha:a≠c:=λz=>A (by rw[z];simp);rw[jk ha] at h4;show ac (X a b h1 (λz=>A (by rw[<- Yu];show yO.mpr (.inl z))) h3 h4)
     .rw [ab] at hb;rcases yO.mp hb with hb | hb
      .show ac (Z b hb)
      .rw [yx.mp hb,jp];show λe=>by cases e
   .obtain⟨v,D,y5,rfl,B2,L,U,B,C,M,p,X,Z⟩:=hp;show⟨15-(I++[pl]).length,by rw[hn,yu];show _-(_+1)<_;lk,?_⟩;rw[ae];show⟨v,I++[pl],wl++D,_,_,rfl,rfl,λb o n e=>B2 b o n (λz=>by rw[z,aa] at e;cases e) (s4 _ _ (b2 b o n e)),L,U,B,M,p,λa b h1 A h3=>?_⟩;by_cases ha:a=pl
    .subst ha;show Z b ?_;rw[ya,yv];show(N b gj).mpr h1
    .show X a b h1 A ha h3
theorem KJ:FnScope ["web","ways","place"] ["web"] (qf qa9):=fS
theorem Rc.key(cl:∀ a b,A a b->m a≠none->m b≠none){a b:Str}(h:Rc A a b)(c:m a≠none):m b≠none:=by
 induction h with
 | refl=>show c
 | on _ t ih=>show cl _ _ t ih
structure WyC(A:Str->Str->Prop)(ss:LS)(m:Str->Option (LS)):Prop where
 wy:WyI A m
 inn:∀ z r,m z=some r->z∈ss
 cl:∀ a b,A a b->m a≠none->m b≠none
 rt:∀ a b r q,A a b->m a=some r->m b=some q->r[0]?=q[0]?
theorem WyC.nil:WyC A ss λ_=>none:=
 ⟨⟨(λz r e=>by cases e),(λz r e=>by cases e),(λz r e=>by cases e),λz r e=>by cases e⟩,(λz r e=>by cases e),(λa b _ h=>absurd rfl h),λa b r q _ e=>by cases e⟩
theorem WyC.on(h:WyC A ss m){p:Str}(n:∀ a b,A a b->A b a)(inn:∀ a b,A a b->b∈ss)(l:m p=none)(o:p∈ss)(S:StW A p (qdP m p [p]) m1)(cl:∀ a b,A a b->m1 a≠none->m1 b≠none):WyC A ss m1:=by
 have s:∀ z r,qdP m p [p] z=some r->z∈ss:=λz r e=>by
  by_cases g:z=p
  .rw [g];show o
  .rw [jk g] at e;show h.inn z r e
 have i:∀{z r},m z=some r->m1 z=some r:=λ{z r} e=>S.ext z r (by rw[jk (λk=>by rw[k,l] at e;cases e)];show e)
 have new:∀{z r},m z=none->m1 z=some r->r[0]?=some p:=λ{z r} e d=>by
  rcases S.root z r d with k | k
  .by_cases g:z=p
   .subst g;rw[jp] at k;cases k;rfl
   .rw [jk g,e] at k;cases k
  .show k
 show⟨S.wy (h.wy.start l),S.inn inn s,cl,λa b r q t d j=>?_⟩
 cases f:m a with
 | some r' =>
  cases c:m b with
  | none=>show absurd c (h.cl a b t (by rw[f];show λk=>by cases k))
  | some q' =>
   rw[i f] at d;cases d;rw[i c] at j;cases j;show h.rt a b r q t f c
 | none =>
  cases c:m b with
  | some q'=>show absurd f (h.cl b a (n _ _ t) (by rw[c];show λk=>by cases k))
  | none=>rw[new f d,new c j]
inductive spWi(cw:Addr)(vs:List V)(H:Hp)(Q:VK)(E:XK):Prop|mk (x:Addr) (ss:LS) (ns:LN) (tps:LP) (_:vs=[.ref x]) (_:Wt cw H x ss ns tps) (_:∀(d:Addr) (m:Str->Option (LS)) (H':Hp),L2.Same H H'->WyH (λ_=>False) H' d ss m->WyC (tA tps) ss m->(∀ s∈ss,m s≠none)->Q (.ref d) H')
theorem ok_wi(F:Fun K "ways_in" "ways_in" qa9 f fd)(T:Txt K mg cc cw)(kX:wq8 1 cw "places" wqf (spPls cw))(uA:wq7 7 "spread_from" wqX (spSf cw)):wq9 8 f fd ["web"] (spWi cw):=by
 show F.ok KJ λ_ _ _ s H vs Q E hr h=>?_
 .obtain⟨x,ss,ns,tps,rfl,W,q⟩:=h;have D:=jT hr;have af:=W.wok.nd;have few:=W.wok.few;have ab:∀ a b,tA tps a b->tA tps b a:=λa b k=>k.symm;have ac:∀ a b,tA tps a b->b∈ss:=λa b k=>k.elim (λy=>(W.ok _ y).2.1) λy=>(W.ok _ y).1;show⟨_,(qc (qo (i:=1) KJ.nd rfl (yF rfl) qcN)
 (qc (je yS rfl (qF (K:=K) rfl (qT kX (hmR hr) (pv 0))) (qi (i:=2) KJ.nd rfl (yF rfl))
 (qg (qR (qm (zb (K:=K) rfl D) (pv 2) (pv 1) (by with_unfolding_all rfl)) (qc (qaj (qZ (qa (pv 2) qd)) (qaJ (pv 1) (pv 2) (qaK D)))
 (qg (qU (qk uA (hmR hr) qt (qa (pv 0) (qa (pv 2) (qa (pv 1) qd))))))) qu)))
 (qg (qp (pv 1))))),?_⟩
  ext;intro d hd;have X:=qw (Sr H) (o:=.dK []) hd;have ed:upd H d (.dK []) d=some (.dK []):=qb;generalize upd H d (.dK [])=H1 at X ed;ext;obtain⟨wx,dd,ol,nn,hb,ad,ah,ag,hw⟩:=id (W.same X).web;show⟨x,wx,_,rfl,hb,jU (by room),?_⟩;apply⟨x,ss,ns,rfl,(W.same X).web,λU g=>?_⟩;have s2:=qw X (o:=.lst (ss.map V.str)) g;have I:=qw (Sr H1) (o:=.lst (ss.map V.str)) g _ _ ed;have el:upd H1 U (.lst (ss.map V.str)) U=some (.lst (ss.map V.str)):=qb;have aa:U≠d:=λz=>by rw[z,ed] at g;cases g
  generalize upd H1 U (.lst (ss.map V.str))=H2 at s2 I el;apply .inl ⟨⟨_,.of el⟩,ju (xs:=ss.map V.str) (λi σ J=>∃(m:Str->Option (LS)) (Y:Option V),σ=[some (.ref x),some (.ref d),Y]/\BxD d H2 J/\WyH (λ_=>False) J d ss m/\WyC (tA tps) ss m/\∀ z∈ss.take i,m z≠none)
   ⟨λ_=>none,_,rfl,λb o _ e=>e,⟨[],I,⟨[],yg _,List.nodup_nil,λu D=>by cases D⟩,λs=>rfl⟩,.nil,λz S=>by simp at S⟩ (λi σ J _ L=>?_) (λi y σ J hy L=>?_) fun σ J L=>?_⟩
  .obtain⟨m,Y,_,B,_⟩:=L;show .of (B _ _ aa el)
  .obtain⟨m,Y,rfl,B,R,v,c⟩:=L;rw[yd] at hy;obtain⟨pl,ho,rfl⟩:=ym.mp hy;have j:=ye ho;have p:ss.take (i+1)=ss.take i++[pl]:=by rw[yA,ho];rfl
   obtain⟨kvs,A,M,N⟩:=id R;apply .inr (.inl ⟨d,_,rfl,DGet.k (k:=Sum.inr pl) A,?_⟩);rw[yG rfl,WyH.isSome N];ext
   cases C:m pl with
   | some r =>
    show yp ?_;show⟨m,_,rfl,B,R,v,λb hb=>?_⟩;rw[p] at hb;rcases yO.mp hb with hb | hb
    .show c b hb
    .rw [yx.mp hb,C];show λe=>by cases e
   | none =>
    show zu ?_;apply⟨wqqc,λG h1=>?_⟩;have O:=qw (Sr J) (o:=.lst [.str pl]) h1;have e1:upd J G (.lst [.str pl]) G=some (.lst ([pl].map V.str)):=qb;generalize upd J G (.lst [.str pl])=J1 at O e1;ext
    have ae:kvs.length<=14:=by
     obtain⟨po,p1,p2,p3⟩:=M;have:=zJ (l:=po) (m:=ss) p2 λu D=>(p3 u D).1;lk
    show .inr ⟨d,_,rfl,DPut.k (k:=Sum.inr pl) (O _ _ A) (by rw[xR];lk),?_⟩;have Y3:=WyH.put (O _ _ A) M (λs=>(N s).keep λt xs n e=>⟨n,O _ _ e⟩) C j id e1;have Z:BxD d H2 (upd J1 d (.dK (qbn kvs (Sum.inr pl) (.ref G)))):=λb o n e=>by rw[qj n];show O _ _ (B b o n e)
    generalize upd J1 d (.dK (qbn kvs (Sum.inr pl) (.ref G)))=J2 at Y3 Z;have b0:L2.Same H J2:=λb o e=>Z b o (λz=>by rw[z,hd] at e;cases e) (s2 _ _ e);apply⟨x,d,ss,ns,tps,pl,qdP m pl [pl],rfl,W.same b0,Y3,v.wy.start C,λz r e=>?_,j,jp,λa b t na h=>?_,λJ3 m1 b4 Y4 S4 c4=>?_⟩
    .by_cases S:z=pl
     .rw [S];show j
     .rw [jk S] at e;show v.inn z r e
    .rw [jk na] at h;have:=v.cl a b t h;rw[jk (λz=>this (by rw[z];show C))];show this
    .show⟨m1,_,rfl,λb o n e=>b4 b o n (Z b o n e),Y4,v.on ab ac C j S4 c4,λb hb=>?_⟩
     have keep:∀{z},qdP m pl [pl] z≠none->m1 z≠none:=λ{z} h=>by
      cases e:qdP m pl [pl] z with
      | none=>show absurd e h
      | some r=>rw[S4.ext z r e];show λk=>by cases k
     rw[p] at hb;rcases yO.mp hb with hb | hb
     .show keep ?_;have:=c b hb;rw[jk (λz=>this (by rw[z];show C))];show this
     .rw [yx.mp hb];show keep (by rw[jp];show λk=>by cases k)
  .obtain⟨m,Y,rfl,B,R,v,c⟩:=L;rw[ya,yv] at c;apply q d m J (λb o e=>B b o (λz=>by rw[z,hd] at e;cases e) (s2 _ _ e)) R v c
theorem kZ:FnScope wqC ["web"] (qf zf):=fS
def sdP(m:Str->Option (LS))(s:Str):Nat:=((m s).map sdW).getD 0
theorem WyC.col(h:WyC A ss m){c:Str->Bool}(hc:∀ a b,A a b->c b=!c a)(e:m z=some r):∃ y,r[0]?=some y/\c z=(c y != decide (sdW r=1)):=by
 have ne:=h.wy.ne e;have hl:0<r.length:=by cases r with | nil=>show absurd rfl ne | cons _ _=>simp
 show⟨r[0],yb hl,?_⟩
 have key:∀ i x,r[i]?=some x->c x=(c r[0] != decide (i % 2=1)):=λi=>by
  induction i with
  | zero =>
   intro x d;rw[yb hl] at d;cases d;simp
  | succ i ih =>
   intro x d;have g:=(yc.mp d).1;have f:=yb (l:=r) (i:=i) (by lk);rw[hc _ _ (h.wy.tie z r e i _ x f d),ih _ f]
   have:decide ((i+1) % 2=1)=!decide (i % 2=1):=by
    rcases xq i with k | k
    .rw [k,show(i+1) % 2=1 by lk];rfl
    .rw [k,show(i+1) % 2=0 by lk];rfl
   rw[this];cases c r[0]<;>cases decide (i % 2=1)<;>rfl
 have l:=h.wy.last z r e;rw[Xn] at l;rw[key _ z l]
 congr 2
 unfold sdW;rw[show(r.length+1) % 2=(r.length-1) % 2 by lk]
theorem WyC.same(h:WyC A ss m)(all:∀ s∈ss,m s≠none)(inn:∀ a b,A a b->b∈ss){a b:Str}(k:Rc A a b)(g:a∈ss):∀{r q},m a=some r->m b=some q->r[0]?=q[0]?:=by
 induction k with
 | refl=>intro r q e d;rw[e] at d;cases d;rfl
 | @on b c k t ih =>
  intro r q e d
  cases f:m b with
  | none=>show absurd f (k.key h.cl (all a g))
  | some p=>show(ih e f).trans (h.rt b c p q t f d)
theorem WyC.two(h:WyC A ss m)(all:∀ s∈ss,m s≠none)(inn:∀ a b,A a b->b∈ss){c:Str->Bool}(hc:∀ a b,A a b->c b=!c a){a b:Str}(k:Rc A a b)(f:a∈ss):(sdP m a=0↔sdP m b=0)↔c a=c b:=by
 have hb:m b≠none:=k.key h.cl (all a f)
 cases d:m a with
 | none=>show absurd d (all a f)
 | some r =>
  cases e:m b with
  | none=>show absurd e hb
  | some q =>
   obtain⟨y,g,i⟩:=h.col hc d;obtain⟨o,j,l⟩:=h.col hc e;rw[h.same all inn k f d e,j] at g;cases g;rw[i,l];unfold sdP;rw[d,e];show(sdW r=0↔sdW q=0)↔_;have h1:sdW r<2:=by unfold sdW;lk
   have n:sdW q<2:=by unfold sdW;lk
   rcases(by lk:sdW r=0\/sdW r=1) with k1 | k1<;>rcases(by lk:sdW q=0\/sdW q=1) with k2 | k2<;>rw[k1,k2]<;>cases c y<;>simp
inductive spSd(cw:Addr)(vs:List V)(H:Hp)(Q:VK)(E:XK):Prop|mk (x:Addr) (ss:LS) (ns:LN) (tps:LP) (c:Str->Bool) (_:vs=[.ref x]) (_:Wt cw H x ss ns tps) (_:(∀ a b,tA tps a b->c b=!c a)) (_:∀(d:Str->Bool) (t l1 l2:Addr) (H':Hp),L2.Same H H'->(∀ a b,a∈ss->Rc (tA tps) a b->(d a=d b↔c a=c b))->H' t=some (.tup [.ref l1,.ref l2])->H' l1=some (.lst ((ss.filter d).map V.str))->H' l2=some (.lst ((ss.filter λs=>!d s).map V.str))->Q (.ref t) H')
theorem qgx:sdW r<2:=by unfold sdW;lk
theorem qeH{s:Str}(e:m s=some r):sdP m s=sdW r:=by unfold sdP;rw[e];rfl
theorem qcW(h:WyH N H d ss m)(e:m z=some r):∃ t,DGet H d (.str z) (some (.ref t))/\H t=some (.lst (r.map V.str)):=by
 obtain⟨kvs,t,h1,a,b⟩:=h.at e;have:=DGet.k (k:=Sum.inr z) h1;rw[a] at this;show⟨t,this,b⟩
theorem ok_sd(F:Fun K "sides_of" "sides_of" zf f fd)(T:Txt K mg cc cw)(Ua:wq7 8 "ways_in" ["web"] (spWi cw))(k7:wq7 1 "on_first_side" ["way"] spOfs)(Ki:wq8 7 cw "ties" wqf (spTs cw))(kX:wq8 1 cw "places" wqf (spPls cw)):wq9 9 f fd ["web"] (spSd cw):=by
 show F.ok kZ λ_ _ _ s H vs Q E D h=>?_
 .obtain⟨x,ss,ns,tps,c,rfl,W,v,qy⟩:=h;have hu:=jT D;show⟨_,(qc (qo (i:=1) kZ.nd rfl (YX rfl) (qk Ua (hmR D) qt (qa (pv 0) qd)))
 (qc (je yS rfl (qeA (K:=K) rfl (qT Ki (hmR D) (pv 0))) (qby rfl (jd (qi (i:=2) kZ.nd rfl (yF rfl)) (jd (qi (i:=3) kZ.nd rfl (yF rfl)) qai)))
 (qg (qR (qm (jX (K:=K) rfl hu) (qk k7 (hmR D) qt (qa (qx (qz (K:=K) rfl hu) (pv 1) (pv 2) (λ_ _=>rfl)) qd)) (qk k7 (hmR D) qt (qa (qx (qz (K:=K) rfl hu) (pv 1) (pv 3) (λ_ _=>rfl)) qd)) (qv _)) (qg ji) qu)))
 (qc (jM (sc:=qf zf) (XN:=wqC) wqZ 1 [1] rfl rfl rfl (by room) rfl (by room) (i:=4) kZ.nd rfl rfl
  (qF (K:=K) rfl (qT kX (hmR D) (pv 0))) (λ_ _ _ _=>(qi (i:=0) (show(wqZ:LS).Nodup by room) rfl (yF rfl))) qA
  (λ_ _ _ _=>(qE (qY (qk k7 (hmR D) qt (qa (qx (qz (K:=K) rfl hu) (pv 1) (pv 0) (λ_ _=>rfl)) qd)))))
  (λ_ _ _ _=>(pv 0)))
 (qc (jM (sc:=qf zf) (XN:=wqC) wqZ 1 [1] rfl rfl rfl (by room) rfl (by room) (i:=5) kZ.nd rfl rfl
  (qF (K:=K) rfl (qT kX (hmR D) (pv 0))) (λ_ _ _ _=>(qi (i:=0) (show(wqZ:LS).Nodup by room) rfl (yF rfl))) qA
  (λ_ _ _ _=>(qE (jw (qY (qk k7 (hmR D) qt (qa (qx (qz (K:=K) rfl hu) (pv 1) (pv 0) (λ_ _=>rfl)) qd))))))
  (λ_ _ _ _=>(pv 0)))
 (qg (qp (jD (qa (pv 4) (qa (pv 5) qd))))))))),?_⟩
  apply⟨x,ss,ns,tps,rfl,W,λd m H1 s1 hY hC u=>?_⟩;apply qf9 ?_;ext;have W1:=W.same s1;obtain⟨wx,dd,ol,nn,hb,au,ax,aw,hw⟩:=id W1.web;show⟨x,wx,_,rfl,hb,jU (by room),?_⟩;apply⟨x,ss,ns,rfl,W1.web,λl ts H2 s2 av hl _ hA=>?_⟩;have ah:=s1.trans s2;have C:=hY.same s2;have few:=W.wok.few
  have get:∀{s},s∈ss->∃ r,m s=some r:=λ{s} hs=>by
   cases e:m s with
   | none=>show absurd e (u s hs)
   | some r=>show⟨r,rfl⟩
  show⟨l,_,rfl,.of hl,ju (xs:=ts.map V.ref) (λi σ J=>J=H2/\(∃ y2 y3,σ=[some (.ref x),some (.ref d),y2,y3,none,none])) ⟨rfl,⟨_,_,rfl⟩⟩ (λi σ J _ n=>by rw[n.1];show .of hl) (λi y σ J hy n=>?_) fun σ J n=>?_⟩
  .obtain⟨rfl,y2,y3,rfl⟩:=n;rw[yd] at hy;obtain⟨t,ht,rfl⟩:=ym.mp hy;obtain⟨I,aa⟩:∃ I,(zB ss ns ss.length)[i]?=some I:=⟨_,yb (by rw[<- hA.len];show(yc.mp ht).1)⟩;obtain⟨_,_,et⟩:=hA.at_ i t I ht aa;have j:tA tps I.1 I.2:=((qft W.wok W.adj).mp (ye aa)).1;have m1:I.1∈ss:=j.elim (λk=>(W.ok _ k).1) λk=>(W.ok _ k).2.1;have m2:I.2∈ss:=j.elim (λk=>(W.ok _ k).2.1) λk=>(W.ok _ k).1;obtain⟨r,g⟩:=get m1;obtain⟨q,ag⟩:=get m2;obtain⟨ta,Z,p⟩:=qcW C g;obtain⟨tb,gb,ak⟩:=qcW C ag;show⟨t,_,rfl,.of et,rfl,_,_,rfl,_,_,rfl,rfl,?_⟩;apply .inr ⟨d,_,rfl,Z,?_⟩;apply⟨ta,r,rfl,p,?_⟩;apply .inr ⟨d,_,rfl,gb,?_⟩;apply⟨tb,q,rfl,ak,?_⟩;show .inl (.inl (.inl ⟨rfl,rfl,?_⟩))
   have e:(if false=true then !eqV (V.bl (decide (sdW r=0))) (V.bl (decide (sdW q=0))) else eqV (V.bl (decide (sdW r=0))) (V.bl (decide (sdW q=0))))=decide (sdW r=sdW q):=by
    rw[yC (by decide)];have h1:=@qgx r;have h2:=@qgx q;unfold eqV;rw[yW,yD];simp only[Yo,Yi];lk
   rw[e];ext
   have am:sdW r≠sdW q:=λz=>by
    have k:=hC.two u (λa b k=>k.elim (λy=>(W.ok _ y).2.1) λy=>(W.ok _ y).1) v (Rc.refl.on j) m1;rw[v _ _ j,qeH g,qeH ag,z] at k;have:=k.mp kF;cases h:c I.1<;>rw[h] at this<;>cases this
   show qP (λhc=>absurd (yj hc) am) λ_=>?_;show⟨rfl,⟨_,_,rfl⟩⟩
  .obtain⟨rfl,y2,y3,rfl⟩:=n;ext;have Wlp:=W.same ah;obtain⟨ai,an,ar,ap,ac,_⟩:=id Wlp.web;show⟨x,ai,_,rfl,ac,jU (by room),?_⟩;apply⟨x,ss,ns,rfl,Wlp.web,λlp ae=>?_⟩;have U:=qw ah (o:=.lst (ss.map V.str)) ae;have Y:=qw (Sr J) (o:=.lst (ss.map V.str)) ae;have L:upd J lp (.lst (ss.map V.str)) lp=some (.lst (ss.map V.str)):=qb;generalize upd J lp (.lst (ss.map V.str))=Jlp at U L Y;have Ylp:=C.same Y;apply .inl ⟨⟨_,.of L⟩,qr (K:=K) (a:=lp) (xs:=ss.map V.str) (λi ys H'=>H'=Jlp/\ys=((ss.take i).filter λs=>decide (sdP m s=0)).map V.str) ⟨rfl,rfl⟩ (λi ys H' _ h=>by rw[h.1];show .of L) (λi y ys H' hx n=>?_) λys H' n=>?_⟩
   .obtain⟨rfl,rfl⟩:=n;rw[yd] at hx;obtain⟨z,O,rfl⟩:=ym.mp hx;have B:ss.take (i+1)=ss.take i++[z]:=by rw[yA,O];rfl
    have al:=(yc.mp O).1;obtain⟨r,g⟩:=get (ye O);obtain⟨ta,Z,p⟩:=qcW Ylp g;apply .inr ⟨d,_,rfl,Z,?_⟩;apply⟨ta,r,rfl,p,?_⟩;rw[<- qeH g];apply qP (λhc=>?_) λhc=>?_
    .ext;show⟨?_,rfl,?_⟩
     .rw [ya];show qe (yh (yt _ _) (by rw[yH];lk))
     .rw [B,yQ,yq];simp only[yM,xj,hc,Xl];rfl
    .show⟨rfl,?_⟩;rw[B,yQ,yq];simp only[yM,xj,hc];simp
   obtain⟨rfl,rfl⟩:=n;rw[show(ss.map V.str).length=ss.length from ya ..,yv];show⟨by rw[ya];show yI (qe (yh (yt _ _) (by lk))),λR N=>?_⟩;have u1:=qw U (o:=.lst ((ss.filter λs=>decide (sdP m s=0)).map V.str)) N;have v1:=qw Y (o:=.lst ((ss.filter λs=>decide (sdP m s=0)).map V.str)) N;have f1:=U.free N;have e1:upd H' R (.lst ((ss.filter λs=>decide (sdP m s=0)).map V.str)) R=some (.lst ((ss.filter λs=>decide (sdP m s=0)).map V.str)):=qb;generalize upd H' R (.lst ((ss.filter λs=>decide (sdP m s=0)).map V.str))=J1 at u1 v1 e1;have Y1:=C.same v1;ext;have Wlq:=W.same u1;obtain⟨aj,ao,as,aq,ad,_⟩:=id Wlq.web;show⟨x,aj,_,rfl,ad,jU (by room),?_⟩;apply⟨x,ss,ns,rfl,Wlq.web,λlq af=>?_⟩;have X:=qw u1 (o:=.lst (ss.map V.str)) af;have G:=qw (Sr J1) (o:=.lst (ss.map V.str)) af;have M:upd J1 lq (.lst (ss.map V.str)) lq=some (.lst (ss.map V.str)):=qb;generalize upd J1 lq (.lst (ss.map V.str))=Jlq at X M G;have Ylq:=Y1.same G;apply .inl ⟨⟨_,.of M⟩,qr (K:=K) (a:=lq) (xs:=ss.map V.str) (λi ys H'=>H'=Jlq/\ys=((ss.take i).filter λs=>!decide (sdP m s=0)).map V.str) ⟨rfl,rfl⟩ (λi ys H' _ h=>by rw[h.1];show .of M) (λi y ys H' hx n=>?_) λys H' n=>?_⟩
   .obtain⟨rfl,rfl⟩:=n;rw[yd] at hx;obtain⟨z,O,rfl⟩:=ym.mp hx;have B:ss.take (i+1)=ss.take i++[z]:=by rw[yA,O];rfl
    have al:=(yc.mp O).1;obtain⟨r,g⟩:=get (ye O);obtain⟨ta,Z,p⟩:=qcW Ylq g;apply .inr ⟨d,_,rfl,Z,?_⟩;apply⟨ta,r,rfl,p,?_⟩;rw[<- qeH g];apply qP (λhc=>?_) λhc=>?_
    .ext;show⟨?_,rfl,?_⟩
     .rw [ya];show qe (yh (yt _ _) (by rw[yH];lk))
     .rw [B,yQ,yq];simp only[yM,xj,hc,Xl];rfl
    .show⟨rfl,?_⟩;rw[B,yQ,yq];simp only[yM,xj,hc];simp
   obtain⟨rfl,rfl⟩:=n;rw[show(ss.map V.str).length=ss.length from ya ..,yv];show⟨by rw[ya];show yI (qe (yh (yt _ _) (by lk))),λS A=>?_⟩;have u2:=qw X (o:=.lst ((ss.filter λs=>!decide (sdP m s=0)).map V.str)) A;have v2:=qw G (o:=.lst ((ss.filter λs=>!decide (sdP m s=0)).map V.str)) A;have f2:=X.free A;have ay:R≠S:=λz=>by rw[<- z,G _ _ e1] at A;cases A
   have e2:upd H' S (.lst ((ss.filter λs=>!decide (sdP m s=0)).map V.str)) S=some (.lst ((ss.filter λs=>!decide (sdP m s=0)).map V.str)):=qb;generalize upd H' S (.lst ((ss.filter λs=>!decide (sdP m s=0)).map V.str))=J2 at u2 v2 e2;apply⟨wqqd,λt ht=>?_⟩;have u3:=qw u2 (o:=.tup [.ref R,.ref S]) ht;have v3:=qw (Sr J2) (o:=.tup [.ref R,.ref S]) ht;show qy (λs=>decide (sdP m s=0)) t R S _ u3 (λa b ha k=>by have:=hC.two u (λa b k=>k.elim (λy=>(W.ok _ y).2.1) λy=>(W.ok _ y).1) v k ha;rw[<- this];show Yi) qb (v3 _ _ (v2 _ _ e1)) (v3 _ _ e2)
theorem uP:FnScope wqn wqn (qf qaC):=fS
theorem uD:FnScope wqS wqS (qf zV):=fS
theorem K1:FnScope wqn wqn (qf jq):=fS
theorem uE:FnScope wqn wqn (qf zW):=fS
theorem qcb{X:L2.Cx}{st:List PySem.Stmt}{t:L2.TS}(t':L2.TS)(h:L2.PSs X st t)(k:∀ D σ H,t' D σ H->t D σ H):L2.PSs X st t':=λa s σ H D I q=>h a s σ H D I (k D σ H q)
theorem qdQ(a:L2.Same H H1)(hl:H l=none):L2.Same H (upd H1 l o):=λc u e=>by
 have:c≠l:=λz=>by rw[z,hl] at e;cases e
 rw[qj this];show a c u e
theorem zZ(a b:Int):(if false=true then !eqV (V.int a) (V.int b) else eqV (V.int a) (V.int b))=decide (a=b):=by
 rw[yC (by decide)];unfold eqV;by_cases h:a=b<;>simp[h]
abbrev iv(n:Nat):V:=.int (n:Int)
abbrev ivs(L:LN):List V:=L.map iv
inductive spWh(vs:List V)(H:Hp)(Q:VK)(E:XK):Prop|mk (n:Nat) (_:vs=[iv n]) (_:Q (.bl true) H)
inductive spIn(vs:List V)(H:Hp)(Q:VK)(E:XK):Prop|mk (n:Nat) (hi:Int) (_:vs=[iv n,.int 0,.int hi]) (_:(n:Int)<=hi) (_:Q (.bl true) H)
inductive spSm(vs:List V)(H:Hp)(Q:VK)(E:XK):Prop|mk (n:Nat) (_:vs=[iv n]) (_:n<2 ^ 30) (_:Q (.bl true) H)
structure GoodL(H:Hp)(p:Addr)(L:LN):Prop where
 at_:H p=some (.lst (ivs L))
 len:L.length<=40
 lt:∀ n∈L,n<2 ^ 30
theorem GoodL.same(h:GoodL H p L)(s:L2.Same H H'):GoodL H' p L:=⟨s _ _ h.at_,h.len,h.lt⟩
inductive spMb(vs:List V)(H:Hp)(Q:VK)(E:XK):Prop|mk (p:Addr) (L:LN) (_:vs=[.ref p]) (_:GoodL H p L) (_:∀ H',L2.Same H H'->Q .non H')
theorem ok_wh(F:Fun K "is_whole" "is_whole" qaC f fd)(T:Txt K mg cc cw):wq9 1 f fd wqn spWh:=by
 show F.ok uP λ_ _ _ _ H vs Q E b h=>?_
 .obtain⟨v,rfl,a⟩:=h;have c:=jT b;show⟨_,(qg (qp (qbP (qq (qbA (K:=K) rfl) rfl T.b_isinstance YT (qa (pv 0) (qa (j7 (v:=.ty "int") rfl T.b_int boot_int rfl) qd))) (qbx (qgf (qq (qbA (K:=K) rfl) rfl T.b_isinstance YT (qa (pv 0) (qa (j7 (v:=.ty "bool") rfl T.b_bool boot_bool rfl) qd)))))))),?_⟩;apply qds (.inl (.int _)) rfl (qam K "int" (by simp) "int" (by simp)) ?_;apply zu ?_;apply qds (.inl (.int _)) rfl (qam K "int" (by simp) "bool" (by simp)) ?_;show⟨_,rfl,a⟩
theorem ok_in(F:Fun K "is_within" "is_within" zV f fd)(c:wq7 1 "is_whole" wqn spWh):wq9 2 f fd wqS spIn:=by
 show F.ok uD λ_ _ _ _ H vs Q E b h=>?_
 .obtain⟨n,d,rfl,hl,a⟩:=h;show⟨_,(qg (qp (qbP (qk c (hmR b) qt (qa (pv 0) qd)) (qbx (qen qgV qgV (pv 1) (pv 0) (pv 2)))))),?_⟩;apply⟨n,rfl,?_⟩;apply zu ?_;ext;rw[yw (show(0:Int)<=n by lk)];show zu ?_;ext;rw[yw hl];show a
theorem ok_sm(F:Fun K "is_summed" "is_summed" zW f fd)(T:Txt K mg cc cw)(c:wq7 2 "is_within" wqS spIn):wq9 3 f fd wqn spSm:=by
 show F.ok uE λ_ _ _ _ H vs Q E b h=>?_
 .obtain⟨n,rfl,hl,a⟩:=h;show⟨_,(qg (qp (qk c (hmR b) qt (qa (pv 0) (qa qh (qa (qa0 rfl T.g_HIGHEST_SUMMED) qd)))))),?_⟩;apply⟨n,1073741823,rfl,by lk,a⟩
theorem ok_mb(F:Fun K "must_be_summed" "must_be_summed" jq f fd)(T:Txt K mg cc cw)(m:wq7 3 "is_summed" wqn spSm):wq9 4 f fd wqn spMb:=by
 show F.ok K1 λ_ _ _ _ H vs Q E j h=>?_
 .obtain⟨p,L,rfl,g,q⟩:=h;have t:=jT j;have b:=g.at_;have d:=g.len;show⟨_,(qg (qR (PW.pt (qcn (jw (qY (qq (qbA (K:=K) rfl) rfl T.b_isinstance YT (qa (pv 0) (qa (j7 (v:=.ty "list") rfl T.b_list Xc rfl) qd))))) (qcn (qm qe1 (qq (j8 (K:=K) rfl) rfl T.b_len YE (qa (pv 0) qd)) (qa0 rfl T.g_MOST_SUMMED) (qv _)) (qbw (jw (qY (qq (qhc (K:=K) rfl rfl) rfl T.b_all boot_all (qa (qL (sc:=qf jq) (XN:=wqn) ["one"] 1 [] rfl rfl rfl (by room) rfl (by room)
  (qF (K:=K) rfl (pv 0)) (λ_ _ _ _=>(qi (i:=0) (show(["one"]:LS).Nodup by room) rfl (yF rfl))) qA
  (λ_ _ _ _=>jj)
  (λ_ _ _ _=>(qk m (hmR j) qt (qa (pv 0) qd)))) qd)))))))) (qg ji) qu)),?_⟩
  apply qds (.inl (.lst b)) rfl (qam K "list" (by simp) "list" (by simp)) ?_;apply yp ?_;apply zT b ?_;ext;rw[yk (show ¬ ((ivs L).length:Int)>40 by rw[ya];lk)];show yp ?_;apply .inl ⟨⟨_,.of b⟩,qr (xs:=ivs L) (λi ys H'=>H'=H/\ys=(L.take i).map λ_=>V.bl true) ⟨rfl,by simp⟩ (λi ys H' _ a=>by rw[a.1];show .of b) (λi x ys H' l a=>?_) λys H' a=>?_⟩
  .obtain⟨rfl,rfl⟩:=a;rw[yd] at l;obtain⟨n,e,rfl⟩:=ym.mp l;apply zu ?_;apply⟨n,rfl,g.lt n (ye e),?_⟩;show⟨by rw[ya,yH];show qe (by lk),rfl,?_⟩;rw[yA,e,yq];rfl
  .obtain⟨rfl,rfl⟩:=a;rw[show(ivs L).length=L.length from ya ..,yv];show⟨by rw[ya];show yI (qe (by lk)),λr c=>?_⟩;have s:=qw (Sr H') (o:=.lst (L.map λ_=>V.bl true)) c;apply⟨r,L.map λ_=>true,rfl,.of (by rw[YC];show qb),?_⟩;ext;rw[show(L.map λ_=>true).all id=true by simp];show yp ?_;apply q _ s
theorem Ka:FnScope ["numbers","steps","at","number","step"] wqL (qf qaD):=fS
theorem KD:FnScope ["step","steps","other"] wq0 (qf qaE):=fS
abbrev qfu(s:Nat×Nat):HO:=.tup [iv s.1,iv s.2]
def StpAt(H:Hp)(l:Addr)(st:List (Nat×Nat)):Prop:=∃ a:LI,H l=some (.lst (a.map V.ref))/\a.length=st.length/\∀(i:Nat) r o,a[i]?=some r->st[i]?=some o->H r=some (qfu o)
theorem StpAt.same{st:List (Nat×Nat)}(h:StpAt H l st)(s:L2.Same H H'):StpAt H' l st:=by
 obtain⟨e,h1,c,d⟩:=h;show⟨e,s _ _ h1,c,λi r o a b=>s _ _ (d i r o a b)⟩
theorem les_cons(s o:Nat×Nat)(a:List (Nat×Nat)):les s (o::a)=if s.1 ^^^ o.1<s.1 then les (s.1 ^^^ o.1,s.2 ^^^ o.2) a else les s a:=rfl
theorem drop_at{xs:List α}{x:α}(h:xs[i]?=some x):xs.drop i=x::xs.drop (i+1):=by
 obtain⟨hl,e⟩:=yc.mp h;rw[List.drop_eq_getElem_cons hl,e]
inductive spLes(vs:List V)(H:Hp)(Q:VK)(E:XK):Prop|mk (a l:Addr) (s:Nat×Nat) (st:List (Nat×Nat)) (_:vs=[.ref a,.ref l]) (_:H a=some (qfu s)) (_:StpAt H l st) (_:∀(r:Addr) (H':Hp),L2.Same H H'->H' r=some (qfu (les s st))->Q (.ref r) H')
inductive spSts(vs:List V)(H:Hp)(Q:VK)(E:XK):Prop|mk (p:Addr) (L:LN) (_:vs=[.ref p]) (_:GoodL H p L) (_:∀(l:Addr) (H':Hp),L2.Same H H'->H l=none->StpAt H' l (sts L L.length)->Q (.ref l) H')
theorem ok_les(F:Fun K "lessened" "lessened" qaE f fd):wq9 1 f fd wq0 spLes:=by
 show F.ok KD λ_ _ _ _ H vs Q E D h=>?_
 .obtain⟨a,l,A,st,rfl,B,⟨I,hl,t,s⟩,q⟩:=h;have g:=jT D;show⟨_,(qc (je yS rfl (qF (K:=K) rfl (pv 1)) (qi (i:=2) KD.nd rfl (yF rfl))
 (qg (qR (qm qdS (qC qdc (qx (qz (K:=K) rfl g) (pv 0) qh (λ_ _=>rfl)) (qx (qz (K:=K) rfl g) (pv 2) qh (λ_ _=>rfl))) (qx (qz (K:=K) rfl g) (pv 0) qh (λ_ _=>rfl)) (qv _)) (qg (qo (i:=0) KD.nd rfl (yF rfl) (jD (qa (qC qdc (qx (qz (K:=K) rfl g) (pv 0) qh (λ_ _=>rfl)) (qx (qz (K:=K) rfl g) (pv 2) qh (λ_ _=>rfl))) (qa (qC qdc (qx (qz (K:=K) rfl g) (pv 0) qh (λ_ _=>rfl)) (qx (qz (K:=K) rfl g) (pv 2) qh (λ_ _=>rfl))) qd))))) qu)))
 (qg (qp (pv 0)))),?_⟩
  apply .inl ⟨⟨_,.of hl⟩,ju (xs:=I.map V.ref) (λi σ H'=>L2.Same H H'/\∃ r c x,σ=[some (.ref r),some (.ref l),x]/\H' r=some (qfu c)/\les c (st.drop i)=les A st) ⟨L2.Same.refl H,a,A,none,rfl,B,rfl⟩ (λi σ H' _ j=>.of (j.1 _ _ hl)) (λi x σ H' z j=>?_) fun σ H' j=>?_⟩
  .obtain⟨p,r,c,y,rfl,b,hc⟩:=j;rw[yd] at z;obtain⟨G,n,rfl⟩:=ym.mp z;have d:i<st.length:=by rw[<- t];show(yc.mp n).1
   obtain⟨o,u⟩:∃ o,st[i]?=some o:=⟨_,yb d⟩;have e:=p _ _ (s i G o n u);rw[drop_at u,les_cons] at hc;apply .inl (qcp b (v:=iv c.1) rfl ?_);apply .inl (qcp e (v:=iv o.1) rfl ?_);ext;rw[qdx];show .inl (qcp b (v:=iv c.1) rfl ?_);ext;by_cases d:c.1 ^^^ o.1<c.1
   .rw [yG d] at hc;rw[yw (show((c.1 ^^^ o.1:Nat):Int)<(c.1:Int) by lk)];show zu ?_;apply .inl (qcp b (v:=iv c.1) rfl ?_);apply .inl (qcp e (v:=iv o.1) rfl ?_);ext;rw[qdx];show .inl (qcp b (v:=iv c.2) rfl ?_);apply .inl (qcp e (v:=iv o.2) rfl ?_);ext;rw[qdx];show⟨wqqd,λm C=>?_⟩;apply⟨qw p C,m,(c.1 ^^^ o.1,c.2 ^^^ o.2),_,rfl,qb,hc⟩
   .rw [yC d] at hc;rw[yk (show ¬ ((c.1 ^^^ o.1:Nat):Int)<(c.1:Int) by lk)];show yp ?_;apply⟨p,r,c,_,rfl,b,hc⟩
  .obtain⟨p,r,c,y,rfl,b,hc⟩:=j;rw[ya,t,List.drop_length] at hc;apply q r H' p (by rw[<- hc];show b)
theorem ok_sts(F:Fun K "steps_of" "steps_of" qaD f fd)(T:Txt K mg cc cw)(KL:wq7 1 "lessened" wq0 spLes):wq9 2 f fd wqL spSts:=by
 show F.ok Ka λ_ _ _ _ H vs Q E W h=>?_
 .obtain⟨p,L,rfl,g,q⟩:=h;have X:=jT W;show⟨_,(qc (qo (i:=1) Ka.nd rfl (yF rfl) (qZ qd))
 (qc (je yS rfl (qfi (K:=K) rfl rfl T.b_enumerate (qa (pv 0) qd)) (qby rfl (jd (qi (i:=2) Ka.nd rfl (yF rfl)) (jd (qi (i:=3) Ka.nd rfl (yF rfl)) qai)))
 (qc (qo (i:=4) Ka.nd rfl (yF rfl) (qk KL (hmR W) qt (qa (jD (qa (pv 3) (qa (qC qbQ qh (pv 2)) qd))) (qa (pv 1) qd))))
 (qg (qR (qm (zv (K:=K) rfl X) (qx (qz (K:=K) rfl X) (pv 4) qh (λ_ _=>rfl)) qh (qv _)) (qg (qU (qcO (K:=K) rfl yP yU yV qJ (pv 1) (qa (pv 4) qd)))) qu))))
 (qg (qp (pv 1))))),?_⟩
  apply⟨wqqb,λl hl=>?_⟩;ext;have Z:=qw (Sr H) (o:=.lst []) hl;show⟨p,_,rfl,.of (Z _ _ g.at_),qez (xs:=ivs L) (λi σ H'=>L2.Same H H'/\StpAt H' l (sts L i)/\∃ x y z,σ=[some (.ref p),some (.ref l),x,y,z]) ⟨Z,⟨[],qb,rfl,λi r o h=>by cases h⟩,_,_,_,rfl⟩ (λi σ H' _ s=>.of (s.1 _ _ g.at_)) (λi x t σ H' Y ht s=>?_) fun σ H' s=>?_⟩
  .obtain⟨O,C,x0,y0,z0,rfl⟩:=s;rw[yd] at Y;obtain⟨n,U,rfl⟩:=ym.mp Y;have hi:i<L.length:=(yc.mp U).1;have I:=qcB g.lt i (by lk);have s3:=qw (Sr H') (o:=.tup [.int i,iv n]) ht;show⟨t,_,rfl,.of qb,rfl,_,_,rfl,_,_,rfl,rfl,?_⟩;have a:=C.same s3;have A:=O.trans s3;generalize upd H' t (.tup [.int i,iv n])=H3 at a A ⊢;apply vI ⟨by lk,by have:=g.len;lk,by decide⟩ ?_;ext;have e1:(1*2 ^ (i:Int).toNat:Int)=((1 <<< i:Nat):Int):=by rw[y6,X5,Nat.one_shiftLeft,xZ];rfl
   rw[e1];show⟨wqqd,λm hm=>?_⟩;ext;have R:=qw (Sr H3) (o:=qfu (n,1 <<< i)) hm;show⟨m,l,(n,1 <<< i),sts L i,rfl,qb,a.same R,λr H5 s5 u=>?_⟩;have e:=(a.same R).same s5;have B:=(A.trans R).trans s5;apply .inl (qcp u (v:=iv (les (n,1 <<< i) (sts L i)).1) rfl ?_);apply .inl ⟨rfl,rfl,?_⟩;have ev:L.getD i 0=n:=by rw[yL,U];rfl
   have b:sts L (i+1)=stp (sts L i) i n:=by show stp (sts L i) i (L.getD i 0)=_;rw[ev]
   have e2:(if true=true then !eqV (iv (les (n,1 <<< i) (sts L i)).1) (V.int 0) else eqV (iv (les (n,1 <<< i) (sts L i)).1) (V.int 0))=!decide ((les (n,1 <<< i) (sts L i)).1=0):=by
    have:=zZ ((les (n,1 <<< i) (sts L i)).1:Int) 0;rw[yC (by decide)] at this;rw[yG rfl,this]
    congr 2
    apply propext;lk
   rw[e2];unfold stp at b;by_cases D:(les (n,1 <<< i) (sts L i)).1=0
   .rw [yG D] at b;rw[yw D];apply yp ?_;apply⟨B,by rw[b];show e,_,_,_,rfl⟩
   .rw [yC D] at b;rw[yk D];apply zu ?_;obtain⟨N,h1,G,h3⟩:=e;apply⟨.inl ⟨rfl,_,.of h1⟩,?_⟩;apply⟨l,_,_,rfl,rfl,h1,by rw[ya,G];have:=I.len;have:=g.len;show qe (by lk),?_⟩;show⟨qdQ B hl,⟨N++[r],by rw[qb,yq];rfl,by rw[b,yu,yu,G];rfl,λj M o c d=>?_⟩,_,_,_,rfl⟩;rw[b] at d
    have key:H5 M=some (qfu o):=by
     by_cases J:j<N.length
     .rw [yX J] at c;rw[yX (by lk)] at d;show h3 j M o c d
     .rw [Ye (by lk)] at c;rw[Ye (by lk)] at d
      have S:j-N.length=0:=by
       have:=(yc.mp c).1;simp only[Yd,YY] at this;lk
      rw[S] at c;rw[<- G,S] at d;cases c;cases d;show u
    have:M≠l:=λz=>by rw[z,h1] at key;cases key
    rw[qj this];show key
  .obtain⟨O,C,x0,y0,z0,rfl⟩:=s;rw[ya] at C;apply q l H' O hl C
theorem uF:FnScope ["numbers","goal","rest"] wqQ (qf qcc):=fS
theorem uX:FnScope wqL wqL (qf qar):=fS
def pkL(L:LN)(g:Nat):LN:=(List.range L.length).filter λi=>(qcr L g).testBit i
inductive spPk(vs:List V)(H:Hp)(Q:VK)(E:XK):Prop|mk (p:Addr) (L:LN) (g:Nat) (_:vs=[.ref p,iv g]) (_:GoodL H p L) (_:g<2 ^ 30) (_:(¬ Spn L g->∀ H',L2.Same H H'->Q .non H')) (_:(Spn L g->∀ l H',L2.Same H H'->H l=none->H' l=some (.lst (ivs (pkL L g)))->Q (.ref l) H'))
inductive spFr(vs:List V)(H:Hp)(Q:VK)(E:XK):Prop|mk (p:Addr) (L:LN) (_:vs=[.ref p]) (_:GoodL H p L) (_:∀ l H',L2.Same H H'->H l=none->H' l=some (.lst (ivs (qap L)))->Q (.ref l) H')
theorem frees_eq(a:∀ v∈L,v<2 ^ 30):qap L=(sts L L.length).map λo=>o.2.log2:=(qcB a L.length (yg _)).free.symm
theorem ok_pk(F:Fun K "picks" "picks" qcc f fd)(T:Txt K mg cc cw)(D:wq7 4 "must_be_summed" wqn spMb)(A:wq7 3 "is_summed" wqn spSm)(B:wq7 1 "lessened" wq0 spLes)
  (C:wq7 2 "steps_of" wqL spSts) (R:wq7 1 "has_bit" wqt spBit):wq9 5 f fd wqQ spPk:=by
 show F.ok uF λ_ _ _ _ H vs Q E b h=>?_
 .obtain⟨p,L,g,rfl,G,c,S,U⟩:=h;have s:=jT b;show⟨_,(qc (qU (qk D (hmR b) qt (qa (pv 0) qd)))
 (qc (qR (jw (qY (qk A (hmR b) qt (qa (pv 1) qd)))) (qg ji) qu)
 (qc (qo (i:=2) uF.nd rfl (YX rfl) (qk B (hmR b) qt (qa (jD (qa (pv 1) (qa qh qd))) (qa (qk C (hmR b) qt (qa (pv 0) qd)) qd))))
 (qc (qR (qm (zv (K:=K) rfl s) (qx (qz (K:=K) rfl s) (pv 2) qh (λ_ _=>rfl)) qh (qv _)) (qg (qp qbN)) qu)
 (qg (qp (qL (sc:=qf qcc) (XN:=["numbers","goal","rest"]) ["at","rest"] 1 [2] rfl rfl rfl (by room) rfl (by room)
  (jo rfl T.b_range (qa (qq (j8 (K:=K) rfl) rfl T.b_len YE (qa (pv 0) qd)) qd)) (λ_ _ _ _=>(qi (i:=0) (show(["at","rest"]:LS).Nodup by room) rfl (yF rfl))) qA
  (λ_ _ _ _=>(qE (qY (qk R (hmR b) qt (qa (qx (qz (K:=K) rfl s) (pv 1) qh (λ_ _=>rfl)) (qa (pv 0) qd))))))
  (λ_ _ _ _=>(pv 0))))))))),?_⟩
  ext
  .show⟨p,L,rfl,G,λH1 X=>?_⟩;apply⟨g,rfl,c,?_⟩;apply yp ?_;apply⟨wqqd,λm O=>?_⟩;ext;have t:=qw X (o:=qfu (g,0)) O;have d:upd H1 m (qfu (g,0)) m=some (qfu (g,0)):=qb;have I:upd H1 m (.tup [V.int g,V.int 0])=upd H1 m (qfu (g,0)):=rfl;rw[I];generalize upd H1 m (qfu (g,0))=H2 at t d ⊢;show⟨p,L,rfl,G.same t,λl Z x N M=>?_⟩;apply⟨m,l,(g,0),_,rfl,x _ _ d,M,λr y Y j=>?_⟩;have a:=(t.trans x).trans Y;apply .inl (qcp j (v:=iv (les (g,0) (sts L L.length)).1) rfl ?_);apply .inl ⟨rfl,rfl,?_⟩
   have J:(if true=true then !eqV (iv (les (g,0) (sts L L.length)).1) (V.int 0) else eqV (iv (les (g,0) (sts L L.length)).1) (V.int 0))=!decide ((les (g,0) (sts L L.length)).1=0):=by
    have:=zZ ((les (g,0) (sts L L.length)).1:Int) 0;rw[yC (by decide)] at this;rw[yG rfl,this]
    congr 2
    apply propext;lk
   rw[J];by_cases n:(les (g,0) (sts L L.length)).1=0
   .rw [yw n];apply yp ?_;apply zT (a _ _ G.at_) ?_;rw[ya];have u:=G.len;show⟨(L.length:Int),rfl,by lk,by lk,?_⟩;rw[y6];show qbo (lo:=0) (λi ys H'=>H'=y/\ys=ivs ((List.range i).filter λi=>(qcr L g).testBit i)) ⟨rfl,rfl⟩ (λi ys H' hi q=>?_) λys H' q=>?_
    .obtain⟨rfl,rfl⟩:=q;rw[xA];apply .inl (qcp j (v:=iv (les (g,0) (sts L L.length)).2) rfl ?_);apply⟨_,(i:Int),rfl,by lk,?_⟩;ext;rw[qb6,YR,yQ,yM];show if (qcr L g).testBit i=true then _ else _
     cases eb:(qcr L g).testBit i with
     | true =>
      show zu ?_;apply⟨?_,rfl,?_⟩
      .rw [ya];have:=yt (λi=>(qcr L g).testBit i) (List.range i);rw[Yc] at this;show qe (by lk)
      .rw [yG rfl];show _=List.map iv _;rw[yq];rfl
     | false =>
      show yp ?_;show⟨rfl,?_⟩;rw[yC (by decide)];simp
    .obtain⟨rfl,rfl⟩:=q;show⟨?_,λW e=>?_⟩
     .rw [ya];have:=yt (λi=>(qcr L g).testBit i) (List.range L.length);rw[Yc] at this;show yI (qe (by lk))
     .show U ((qb5 G.lt g).mp n) W _ (qw a e) (a.free e) qb
   .rw [yk n];apply zu ?_;apply S (λz=>n ((qb5 G.lt g).mpr z)) _ a
theorem ok_fr(F:Fun K "free_of" "free_of" qar f fd)(T:Txt K mg cc cw)(M:wq7 4 "must_be_summed" wqn spMb)
  (J:wq7 2 "steps_of" wqL spSts):wq9 5 f fd wqL spFr:=by
 show F.ok uX λ_ _ _ _ H vs Q E m h=>?_
 .obtain⟨p,L,rfl,G,q⟩:=h;have R:=jT m;show⟨_,(qc (qU (qk M (hmR m) qt (qa (pv 0) qd)))
 (qg (qp (qL (sc:=qf qar) (XN:=wqL) ["step"] 1 [] rfl rfl rfl (by room) rfl (by room)
  (qF (K:=K) rfl (qk J (hmR m) qt (qa (pv 0) qd))) (λ_ _ _ _=>(qi (i:=0) (show(["step"]:LS).Nodup by room) rfl (yF rfl))) qA
  (λ_ _ _ _=>jj)
  (λ_ _ _ _=>(qC qel (qhd (K:=K) rfl PySem.F.plainAttrs_int PySem.F.slot_int_bit_length PySem.F.type_int_bit_length mt_bit_length (qx (qz (K:=K) rfl R) (pv 0) qh (λ_ _=>rfl))) qh)))))),?_⟩
  ext
  .show⟨p,L,rfl,G,λH1 r=>?_⟩;apply⟨p,L,rfl,G.same r,λl D C O t=>?_⟩;have I:=qcB G.lt L.length (yg _);rw[frees_eq G.lt] at q;have u:=G.len;generalize sts L L.length=st at t I q;have y:=I.len;obtain⟨B,h1,s,N⟩:=id t;show .inl ⟨⟨_,.of h1⟩,qr (xs:=B.map V.ref) (λi ys H'=>H'=D/\ys=ivs ((st.take i).map λo=>o.2.log2)) ⟨rfl,by simp⟩ (λi ys H' _ a=>by rw[a.1];show .of h1) (λi x ys H' A a=>?_) λys H' a=>?_⟩
   .obtain⟨rfl,rfl⟩:=a;rw[yd] at A;obtain⟨U,d,rfl⟩:=ym.mp A;have e:i<st.length:=by rw[<- s];show(yc.mp d).1
    obtain⟨o,g⟩:∃ o,st[i]?=some o:=⟨_,yb e⟩;have n:=N i U o d g;have b:o∈st:=ye g
    have j:o.2≠0:=λz=>by
     have:=I.sum o b;rw[z,qcR] at this;show I.ech.nz o b this.symm
    apply zu ?_;apply .inl (qcp n (v:=iv o.2) rfl ?_);show⟨rfl,?_⟩;show⟨o.2,rfl,rfl,j,?_⟩;apply⟨by rw[ya,ya,yH];show qe (by lk),rfl,?_⟩;rw[yA,g,yq];show _=List.map iv _;rw[yq]
    congr 1
    show [V.int _]=[V.int ((o.2.log2:Nat):Int)]
    congr 2
    lk
   .obtain⟨rfl,rfl⟩:=a;rw[show(B.map V.ref).length=st.length by rw[ya,s],yv];show⟨by rw[ya,ya];show yI (qe (by lk)),λS c=>?_⟩;show q S _ (qw (r.trans C) c) ((r.trans C).free c) qb
theorem uG:FnScope wqM wqM (qf qaa):=fS
theorem Kn:FnScope ["_law_cell","_law_found","_law_number","_law_k"] ["_law_cell"] (qf qcX):=fS
theorem uv:FnScope ["_law_box_here","_law_many","_law_found"] wql (qf qbJ):=fS
inductive spCa(K:W.Frag)(vs:List V)(H:Hp)(Q:VK)(E:XK):Prop|mk (a:Addr) (ns:LQ) (k:Nat) (_:vs=[.ref a,.int (k:Int)]) (_:SqL K H a (ns.map V.int)) (_:k<1000) (_:∀ i:Int,Q (.int i) H)
def Bx(H:Hp)(p:Addr):Prop:=∃ v:Int,0<=v/\H p=some (.lst [.int v])
inductive spBx(vs:List V)(H:Hp)(Q:VK)(E:XK):Prop|mk (c:Int) (_:vs=[.int c]) (_:∀(p:Addr) (H':Hp),L2.Same H H'->H p=none->Bx H' p->Q (.ref p) H')
inductive spTk(vs:List V)(H:Hp)(Q:VK)(E:XK):Prop|mk (p:Addr) (m:Nat) (_:vs=[.ref p,.int (m:Int)]) (_:Bx H p) (_:0<m) (_:m<1000) (_:∀(d:Nat) (H':Hp),d<m->But p H H'->Bx H' p->Q (.int (d:Int)) H')
inductive spNm7(vs:List V)(H:Hp)(Q:VK)(E:XK):Prop|mk (p:Addr) (m:Nat) (_:vs=[.ref p,.int (m:Int)]) (_:Bx H p) (_:m<=14) (_:∀(l:Addr) (ss:LS) (H':Hp),But p H H'->Bx H' p->H l=none->l≠p->H' l=some (.lst (ss.map V.str))->NOk ss->ss.length=m->Q (.ref l) H')
def stepsL:LQ:=[1,3,5,7,9,11,15,17,19,21,23,25]
theorem step_in2{step sh a b:Int}(c:step∈stepsL)(g:0<=a)(hb:0<=b)(d:a<26)(f:b<26)(e:(sh+step*a) % 26=(sh+step*b) % 26):a=b:=by
 simp only[stepsL,yN,Yq,xX] at c;rcases c with rfl | rfl | rfl | rfl | rfl | rfl | rfl | rfl | rfl | rfl | rfl | rfl<;>lk
def cL(first step:Int)(j:Nat):Nat:=97+((first+step*(j:Int)) % 26).toNat
def NmK(way first step:Int)(t j:Nat)(s:Str):Prop:=
 if way=0 then ∃ a:LN,s.cps.toList=cL first step j::a/\a.all sg=true/\a.length<=5
 else if way=1 then s.cps.toList=List.replicate t 109++[cL first step j]
 else if j<6 then s.cps.toList=List.replicate (j+1) (97+first.toNat) else s.cps.toList=[cL first step j]
theorem qgQ(first step:Int)(j:Nat):sg (cL first step j)=true:=by
 have h1:=Y5 (first+step*(j:Int)) (show(26:Int)≠0 by decide);have a:=xr (first+step*(j:Int)) (show(0:Int)<26 by decide);unfold cL;show qgP (by lk) (by lk)
theorem qdD{step:Int}(c:step∈stepsL){k:Nat}(f:j<14)(g:k<14)(e:cL first step j=cL first step k):j=k:=by
 have h1:=Y5 (first+step*(j:Int)) (show(26:Int)≠0 by decide);have d:=Y5 (first+step*(k:Int)) (show(26:Int)≠0 by decide);unfold cL at e;have:=step_in2 (a:=j) (b:=k) (sh:=first) c (by lk) (by lk) (by lk) (by lk) (by lk);lk
theorem NmK.nm{step:Int}{t:Nat}{s:Str}(h:NmK way first step t j s)(d:t<=5)(c:0<=first/\first<26):qaQ s=true:=by
 unfold NmK at h;split at h
 .obtain⟨f,e,h1,b⟩:=h;show qbI e (by simp) (by simp;lk) ?_;rw[Xa,qgQ,h1];rfl
 .split at h
  .show qbI h (by simp) (by simp;lk) ?_;rw[List.all_append,Xa,qgQ];have:(List.replicate t 109).all sg=true:=Yy.mpr λx a=>by rw[(List.mem_replicate.mp a).2];show qgP (by decide) (by decide)
   rw[this];rfl
  .split at h
   .show qbI h (by simp) (by simp;lk) ?_;show Yy.mpr λx a=>by rw[(List.mem_replicate.mp a).2];show qgP (by lk) (by lk)
   .show qbI h (by simp) (by simp) ?_;rw[Xa,qgQ];rfl
theorem NmK.inj{step:Int}{t k:Nat}{s:Str}(c:step∈stepsL)(m:0<=first/\first<26)(a:j<14)(b:k<14)(h:NmK way first step t j s)(g:NmK way first step t k s):j=k:=by
 have i:cL first step 0=97+first.toNat:=by
  unfold cL;rw[show first+step*((0:Nat):Int)=first by simp,Int.emod_eq_of_lt m.1 m.2]
 unfold NmK at h g;split at h
 .rename_i hw
  rw[yG hw] at g;obtain⟨o,e,_⟩:=h;obtain⟨n,l,_⟩:=g;rw[e] at l;show qdD c a b (kz l).1
 .rename_i hw
  rw[yC hw] at g;split at h
  .rename_i hw2
   rw[yG hw2] at g;rw[h] at g;have:=List.append_cancel_left g;show qdD c a b (kz this).1
  .rename_i hw2
   rw[yC hw2] at g;split at h<;>split at g
   .rw [h] at g;have:=congrArg List.length g;simp at this;lk
   .rename_i h1 h2
    rw[h] at g;have hl:=congrArg List.length g;simp at hl;have d:j=0:=by lk
    subst d;have:97+first.toNat=cL first step k:=by simpa using g
    rw[<- i] at this;show qdD c a b this
   .rename_i h1 h2
    rw[h] at g;have hl:=congrArg List.length g;simp at hl;have f:k=0:=by lk
    subst f;have:cL first step j=97+first.toNat:=by simpa using g
    rw[<- i] at this;show qdD c a b this
   .rw [h] at g;show qdD c a b (kz g).1
theorem ok_ca7(F:Fun K "_law_cell_at" "_law_cell_at" qaa f fd)(T:Txt K mg cc cw):wq9 1 f fd wqM (spCa K):=by
 show F.ok uG λ_ _ _ _ H vs Q E d h=>?_
 .obtain⟨a,ns,k,rfl,b,h1,q⟩:=h;have e:=jT d;show⟨_,(qc (qR (qm qdS (pv 1) (qq (j8 (K:=K) rfl) rfl T.b_len YE (qa (pv 0) qd)) (qv _)) (qg (qp (qx (qz (K:=K) rfl e) (pv 0) (pv 1) (λ_ _=>rfl)))) qu)
 (qg (qp qh))),?_⟩
  apply vLenLs b ?_;rw[ya];ext;by_cases c:k<ns.length
  .rw [yw (show(k:Int)<(ns.length:Int) by lk)];show zu ?_;apply .inl (vIxLs b (v:=.int ns[k]) (qal (by rw[yd,yb c];rfl)) ?_);show q _
  .rw [yk (show ¬ (k:Int)<(ns.length:Int) by lk)];show yp ?_;apply q _
theorem ok_bx(F:Fun K "_law_box" "_law_box" qcX f fd)(T:Txt K mg cc cw):wq9 1 f fd ["_law_cell"] spBx:=by
 show F.ok Kn λ_ _ _ _ H vs Q E s h=>?_
 .obtain⟨c,rfl,q⟩:=h;show⟨_,(qc (qR (qm op_ge (pv 0) (qC op_pow qh qh) (qv _)) (qg (qp (qZ (qa (pv 0) qd)))) qu)
 (qc (qo (i:=1) Kn.nd rfl (yF rfl) qh)
 (qc (qo (i:=2) Kn.nd rfl (yF rfl) (qC (j9 (K:=K) rfl) (qC zh (pv 0) qh) qh))
 (qc (je yS rfl (jo rfl T.b_range (qa qh qd)) (qi (i:=3) Kn.nd rfl (yF rfl))
 (qc (qo (i:=2) Kn.nd rfl (yF rfl) (qC zh (qC (j9 (K:=K) rfl) (qC (j9 (K:=K) rfl) (qC qdp (pv 2) (pv 2)) (qC qdp qh (pv 2))) (pv 3)) qh))
 (qg (qo (i:=1) Kn.nd rfl (yF rfl) (qC (j9 (K:=K) rfl) (qC qdp (pv 1) qh) (qC zh (qC qdp (pv 2) qh) qh))))))
 (qg (qp (qZ (qa (pv 1) qd)))))))),?_⟩
  apply vI ⟨by decide,by decide,by decide⟩ ?_;apply qP (λh=>?_) (λh=>?_)
  .have h:c ≥ 10 ^ (18:Int).toNat:=yj h;apply⟨wqqc,λp d=>q p _ (qw (Sr H) d) d ⟨c,?_,qb⟩⟩;have:(10:Int) ^ (18:Int).toNat=1000000000000000000:=by decide
   lk
  .ext;show vI (by decide) ?_;ext;have l:=Y5 c (show(2147483647:Int)≠0 by decide);have m:=xr c (show(0:Int)<2147483647 by decide);show⟨9,rfl,by decide,by decide,jE (lo:=0) (n:=9) (λi σ H'=>H'=H/\∃(b a:Int) (x:Option V),σ=[some (.int c),some (.int b),some (.int a),x]/\0<=b/\0<=a/\a<2200000000) ⟨rfl,0,_,_,rfl,by decide,by lk,by lk⟩ (λi σ H' r d=>?_) fun σ H' d=>?_⟩
   .obtain⟨rfl,b,a,x,rfl,e,o,h1⟩:=d;apply qdY (.inl ⟨by lk,by lk⟩) ?_;apply qdY (.inl ⟨by decide,by decide⟩) ?_;apply vI (by decide) ?_;apply qdY (.inr ⟨by decide,by decide⟩) ?_;apply qdY (.inr ⟨by decide,by decide⟩) ?_;apply vI (by decide) ?_;ext;generalize g:(a*a+48271*a+(0+(i:Int))) % 2147483647=N;have j:0<=N:=by rw[<- g];show Y5 _ (by decide)
    have u:N<2147483647:=by rw[<- g];show xr _ (by decide)
    show⟨rfl,_,_,_,rfl,?_,j,by lk⟩;have t:=Y5 (N*69621) (show(2147483629:Int)≠0 by decide);have:0<=b*2147483629:=Int.mul_nonneg e (by decide);lk
   .obtain⟨rfl,b,a,x,rfl,e,_⟩:=d;apply⟨wqqc,λp d=>q p _ (qw (Sr H') d) d ⟨b,e,qb⟩⟩
theorem ok_tk(F:Fun K "_law_take" "_law_take" qbJ f fd):wq9 1 f fd wql spTk:=by
 show F.ok uv λ_ _ _ _ H vs Q E g h=>?_
 .obtain⟨p,m,rfl,⟨v,hv,b⟩,q,h1,k⟩:=h;have c:=jT g;have a:(0:Int)<(m:Int):=by lk
  show⟨_,(qc (qo (i:=2) uv.nd rfl (yF rfl) (qC zh (qx (qz (K:=K) rfl c) (pv 0) qh (λ_ _=>rfl)) (pv 1)))
 (qc (qaj (qC op_fdiv (qx (qz (K:=K) rfl c) (pv 0) qh (λ_ _=>rfl)) (pv 1)) (qaJ (pv 0) qh (qaK c)))
 (qg (qp (pv 2))))),?_⟩
  apply .inl (qbD b rfl ?_);apply vI a ?_;apply .inl (qbD b rfl ?_);apply vI ⟨a,by lk⟩ ?_;apply .inl (qgK b rfl ?_);ext;have j:=Y5 v (show(m:Int)≠0 by lk);have l:=xr v a;have d:v % (m:Int)=(((v % (m:Int)).toNat:Nat):Int):=by lk
  rw[d];show k _ _ (by lk) (λx o n e=>by rw[qj n];show e) ⟨_,Int.ediv_nonneg hv (by lk),qb⟩
theorem kQ:FnScope ["_law_box_here","_law_many","_law_letters","_law_way","_law_first","_law_step","_law_tails","_law_names_here","_law_k","_law_sign"] wql (qf jg):=fS
theorem rep_ok6{c:Nat}(h:n<6):MulOk ⟨#[c]⟩ ((n:Int)+1)/\(Txt.mul ⟨#[c]⟩ ((n:Int)+1)).cps.toList=List.replicate (n+1) c:=by
 have a:n=0\/n=1\/n=2\/n=3\/n=4\/n=5:=by lk
 rcases a with rfl | rfl | rfl | rfl | rfl | rfl
 .show⟨⟨by decide,λ_ _=>by show ¬ ((1:Int)>(2 ^ 63-1) / 1);decide,λ_ _=>by show Builtin.Str.tooLong (1*1)=false;decide⟩,rfl⟩
 .show⟨⟨by decide,λ_ _=>by show ¬ ((1:Int)>(2 ^ 63-1) / 2);decide,λ_ _=>by show Builtin.Str.tooLong (1*2)=false;decide⟩,rfl⟩
 .show⟨⟨by decide,λ_ _=>by show ¬ ((1:Int)>(2 ^ 63-1) / 3);decide,λ_ _=>by show Builtin.Str.tooLong (1*3)=false;decide⟩,rfl⟩
 .show⟨⟨by decide,λ_ _=>by show ¬ ((1:Int)>(2 ^ 63-1) / 4);decide,λ_ _=>by show Builtin.Str.tooLong (1*4)=false;decide⟩,rfl⟩
 .show⟨⟨by decide,λ_ _=>by show ¬ ((1:Int)>(2 ^ 63-1) / 5);decide,λ_ _=>by show Builtin.Str.tooLong (1*5)=false;decide⟩,rfl⟩
 .show⟨⟨by decide,λ_ _=>by show ¬ ((1:Int)>(2 ^ 63-1) / 6);decide,λ_ _=>by show Builtin.Str.tooLong (1*6)=false;decide⟩,rfl⟩
theorem qcY(a b:Int):(if false=true then !eqV (V.int a) (V.int b) else eqV (V.int a) (V.int b))=decide (a=b):=by
 rw[yC (by decide)];unfold eqV;by_cases h:a=b<;>simp[h]
theorem But.trans7(a:But p H H1)(b:But p H1 H2):But p H H2:=λc o n e=>b c o n (a c o n e)
theorem But.new7(a:But p H H1)(hl:H1 l=none):But p H (upd H1 l o):=λc u n e=>by
 have:=a c u n e;have ne:c≠l:=λz=>by rw[z,hl] at this;cases this
 rw[qj ne];show this
theorem But.free7(a:But p H H1)(b:l≠p)(hl:H1 l=none):H l=none:=by
 cases e:H l with
 | none=>rfl
 | some o=>rw[a l o b e] at hl;cases hl
def setWith(s:Stmt)(a:List Expr):Stmt:=match s with
 | .Assign ts (.Subscript (.List _ lp) ix p1) p=>.Assign ts (.Subscript (.List a lp) ix p1) p
 | s=>s
abbrev qgy(s:Stmt)(i:Nat):Stmt:=(zC s).getD i (.Pass ⟨0,0,0,0⟩)
theorem names_parts:∃ d,zC jg=[qgy jg 0,qgy jg 1,qgy jg 2,setWith (qgy jg 3) d,qgy jg 4,qgy jg 5,qgy jg 6,qgy jg 7]/\∀(env:Env) (c:Expr->TE->Prop) (b:List Expr->TA->Prop),
  (∀ i j f,c (.Constant (.int i) j f) (tC (.int i)))->b [] qgI->(∀ e d g t,c e g->b d t->starEach (e::d) env=(false,eval e env)::starEach d env->b (e::d) (qak g t)) ->
  b d (qak (tC (.int 1)) (qak (tC (.int 3)) (qak (tC (.int 5)) (qak (tC (.int 7)) (qak (tC (.int 9)) (qak (tC (.int 11)) (qak (tC (.int 15)) (qak (tC (.int 17)) (qak (tC (.int 19)) (qak (tC (.int 21)) (qak (tC (.int 23)) (qak (tC (.int 25)) qgI)))))))))))):=
 ⟨_,rfl,λenv c b a h hc=>(hc _ _ _ _ (a _ _ _) (hc _ _ _ _ (a _ _ _) (hc _ _ _ _ (a _ _ _) (hc _ _ _ _ (a _ _ _) (hc _ _ _ _ (a _ _ _) (hc _ _ _ _ (a _ _ _) (hc _ _ _ _ (a _ _ _) (hc _ _ _ _ (a _ _ _) (hc _ _ _ _ (a _ _ _) (hc _ _ _ _ (a _ _ _) (hc _ _ _ _ (a _ _ _) (hc _ _ _ _ (a _ _ _) h rfl) rfl) rfl) rfl) rfl) rfl) rfl) rfl) rfl) rfl) rfl) rfl)⟩
theorem ok_nm7(F:Fun K "_law_names" "_law_names" jg f fd)(T:Txt K mg cc cw)(kS:wq7 1 "_law_take" wql spTk):wq9 2 f fd wql spNm7:=by
 show F.ok kQ λ_ _ _ s H vs Q E O h=>?_
 .obtain⟨p,m,rfl,hB,hm,q⟩:=h;have hu:=jT O;obtain⟨TC5,G⟩:∃ t:TS,t=λD σ H'=>(∀ u H',Q u H'->D.rt u H')/\∃(x7 I J:Option V) (way first step:Int) (t:Nat),σ=[some (.ref p),some (.int (m:Int)),some (.str L26),some (.int way),some (.int first),some (.int step),some (.int (t:Int)),x7,I,J]/\But p H H'/\Bx H' p/\(way=0\/way=1\/way=2)/\(0<=first/\first<26)/\step∈stepsL/\t<=5:=⟨_,rfl⟩;obtain⟨ao,L,ai⟩:=names_parts;rw[L];show⟨_,(qc (qo (i:=2) kQ.nd rfl (yF rfl) qaI)
 (qc (qo (i:=3) kQ.nd rfl (yF rfl) (qk kS (hmR O) qt (qa (pv 0) (qa qh qd))))
 (qc (qo (i:=4) kQ.nd rfl (yF rfl) (qk kS (hmR O) qt (qa (pv 0) (qa qh qd))))
 (qc (qo (i:=5) kQ.nd rfl (yF rfl) (qx (qz (K:=K) rfl hu) (qZ (ai _ _ _ (λ_ _ _=>qh) qd λ_ _ _ _ ha O hs=>qa ha O hs)) (qk kS (hmR O) qt (qa (pv 0) (qa qh qd))) (λ_ _=>rfl)))
 (qc (qo (i:=6) kQ.nd rfl (yF rfl) (qk kS (hmR O) qt (qa (pv 0) (qa qh qd))))
 (qcb TC5 (qc (qo (i:=7) kQ.nd rfl (yF rfl) (qZ qd))
 (qc (je yS rfl (jo rfl T.b_range (qa (pv 1) qd)) (qi (i:=8) kQ.nd rfl (yF rfl))
 (qc (qo (i:=9) kQ.nd rfl (yF rfl) (qx (qz (K:=K) rfl hu) (pv 2) (qC zh (qC (j9 (K:=K) rfl) (pv 4) (qC qdp (pv 5) (pv 8))) qh) (λ_ _=>rfl)))
 (qg (qR (qm (jX (K:=K) rfl hu) (pv 3) qh (qv _)) (qg (qU (qcO (K:=K) rfl yP yU yV qJ (pv 7) (qa (qC (j9 (K:=K) rfl) (pv 9) (zP (qgL (K:=K) rfl) qaI qbm (zO (qC zh (qC (j9 (K:=K) rfl) (pv 6) (qC qdp qh (pv 8))) qh)))) qd)))) (qg (qR (qm (jX (K:=K) rfl hu) (pv 3) qh (qv _)) (qg (qU (qcO (K:=K) rfl yP yU yV qJ (pv 7) (qa (qC (j9 (K:=K) rfl) (zP (qgL (K:=K) rfl) qaI qbm (zO (pv 6))) (pv 9)) qd)))) (qg (qR (qm qdS (pv 8) qh (qv _)) (qg (qU (qcO (K:=K) rfl yP yU yV qJ (pv 7) (qa (qC qdp (qx (qz (K:=K) rfl hu) (pv 2) (pv 4) (λ_ _=>rfl)) (qC (j9 (K:=K) rfl) (pv 8) qh)) qd)))) (qg (qU (qcO (K:=K) rfl yP yU yV qJ (pv 7) (qa (pv 9) qd))))))))))))
 (qg (qp (pv 7))))) ?cut5)))))),?_⟩
  case cut5 =>
   intro D σ H1 h;rw[G] at h;obtain⟨hD,x7,I,J,way,first,step,t,rfl,b1,hB1,an,hf,B,ht⟩:=h;apply⟨wqqb,λl hl=>?_⟩;obtain⟨bv,aj,ab⟩:=id hB1;have M:l≠p:=λz=>by rw[z,ab] at hl;cases hl
   apply⟨(m:Int),rfl,by lk,by lk,?_⟩;rw[y6];show jE (lo:=0) (n:=m) (λi σ H'=>∃(ss:LS) (I J:Option V),σ=[some (.ref p),some (.int (m:Int)),some (.str L26),some (.int way),some (.int first),some (.int step),some (.int (t:Int)),some (.ref l),I,J]/\H'=upd H1 l (.lst (ss.map V.str))/\ss.length=i/\∀(j:Nat) s,ss[j]?=some s->NmK way first step t j s) ⟨[],_,_,rfl,rfl,rfl,λj s h=>by simp at h⟩ (λi σ H' hi hp=>?_) fun σ H' hp=>?_
   .obtain⟨ss,I,J,rfl,rfl,R,A⟩:=hp;have b:upd H1 l (.lst (ss.map V.str)) l=some (.lst (ss.map V.str)):=qb;rw[xA];ext
    have ar:0<=step/\step<=25:=by
     have h:=B;simp only[stepsL,yN,Yq,xX] at h;lk
    show qdY (.inl ⟨by lk,by lk⟩) ?_;apply vI (by decide) ?_;have c1:=Y5 (first+step*(i:Int)) (show(26:Int)≠0 by decide);have c2:=xr (first+step*(i:Int)) (show(0:Int)<26 by decide);show .inl (qhQ (by room) (qgw c1 c2) ?_)
    have C:∀(s:Str),NmK way first step t i s->∃(W:LS) (I J:Option V),[some (V.ref p),some (.int (m:Int)),some (.str L26),some (.int way),some (.int first),some (.int step),some (.int (t:Int)),some (.ref l),some (.int (i:Int)),some (V.str ⟨#[97+((first+step*(i:Int)) % 26).toNat]⟩)]=[some (.ref p),some (.int (m:Int)),some (.str L26),some (.int way),some (.int first),some (.int step),some (.int (t:Int)),some (.ref l),I,J]/\upd (upd H1 l (.lst (ss.map V.str))) l (.lst (ss.map V.str++[.str s]))=upd H1 l (.lst (W.map V.str))/\W.length=i+1/\∀(j:Nat) s,W[j]?=some s->NmK way first step t j s:=λs hs=>by
     show⟨ss++[s],_,_,rfl,?_,by rw[yu,R];rfl,λj s' r=>?_⟩
     .rw [yq];funext c;by_cases hc:c=l
      .subst hc;rw[qb,qb];rfl
      .rw [qj hc,qj hc,qj hc]
     .by_cases ak:j<ss.length
      .rw [yX ak] at r;show A j s' r
      .rw [Ye (by lk)] at r
       have e0:j-ss.length=0:=by
        have:=(yc.mp r).1;simp only[Yd,YY] at this;lk
       rw[e0] at r;cases r;have:j=i:=by lk
       rw[this];show hs
    have g:(ss.map V.str).length<sizeLine:=by rw[ya];show qe (by lk)
    apply .inl (.inl (.inl ⟨rfl,rfl,?_⟩));rw[qcY];apply qP (λh=>?_) (λh=>?_)
    .have hw:way=0:=yj h;apply⟨.inl ⟨rfl,_,.of b⟩,?_⟩;apply qdY (.inl ⟨by decide,by decide⟩) ?_;apply vI (by decide) ?_;apply qhR (by room) ?_;have e6:((t:Int)+5*(i:Int)) % 6=(((t+5*i) % 6:Nat):Int):=by lk
     rw[e6];have a:=qcD (Str.ofString "zabqk") ((t+5*i) % 6)
     have Y:((Str.ofString "zabqk").cps.toList.take ((t+5*i) % 6)).all sg=true:=by
      have h0:(Str.ofString "zabqk").cps.toList.all sg=true:=by room
      show Yy.mpr λx hx=>Yy.mp h0 x (Yv hx)
     have y:((Str.ofString "zabqk").cps.toList.take ((t+5*i) % 6)).length<=5:=by rw[yH];lk
     have al:(Txt.slice (Str.ofString "zabqk") none (some (((t+5*i) % 6:Nat):Int))).length<=5:=by
      have:(Txt.slice (Str.ofString "zabqk") none (some (((t+5*i) % 6:Nat):Int))).length=(Txt.slice (Str.ofString "zabqk") none (some (((t+5*i) % 6:Nat):Int))).cps.toList.length:=by simp[Str.length]
      rw[this,a];show y
     show qha (by show 1+_<=sizeLine;show yI (qe (by lk))) ?_;apply⟨l,_,_,rfl,rfl,b,g,?_⟩;show C _ ?_;unfold NmK;rw[yG hw];show⟨_,?_,Y,y⟩;rw[qeG,a];rfl
    .have S:way≠0:=λe=>h (yw e);apply .inl (.inl (.inl ⟨rfl,rfl,?_⟩));rw[qcY];apply qP (λh=>?_) (λh=>?_)
     .have hw:way=1:=yj h;apply⟨.inl ⟨rfl,_,.of b⟩,?_⟩;apply qhR (by room) ?_;have a:=qcD (Str.ofString "mmmmm") t
      have am:(Str.ofString "mmmmm").cps.toList.take t=List.replicate t 109:=by
       have h0:(Str.ofString "mmmmm").cps.toList=List.replicate 5 109:=by room
       rw[h0,List.take_replicate,xY ht]
      rw[am] at a
      have al:(Txt.slice (Str.ofString "mmmmm") none (some (t:Int))).length<=5:=by
       have:(Txt.slice (Str.ofString "mmmmm") none (some (t:Int))).length=(Txt.slice (Str.ofString "mmmmm") none (some (t:Int))).cps.toList.length:=by simp[Str.length]
       rw[this,a,Y7];show ht
      apply qha (by show _+1<=sizeLine;show yI (qe (by lk))) ?_;apply⟨l,_,_,rfl,rfl,b,g,?_⟩;show C _ ?_;unfold NmK;rw[yC S,yG hw,qeG,a];rfl
     .have ad:way≠1:=λe=>h (yw e);ext;by_cases h6:i<6
      .rw [yw (show(i:Int)<6 by lk)];show zu ?_;apply⟨.inl ⟨rfl,_,.of b⟩,?_⟩;apply .inl (qhQ (by room) (qgw hf.1 hf.2) ?_);ext;obtain⟨mo,ml⟩:=rep_ok6 (c:=97+first.toNat) h6;show⟨mo,?_⟩;apply⟨l,_,_,rfl,rfl,b,g,?_⟩;show C _ ?_;unfold NmK;rw[yC S,yC ad,yG h6];show ml
      .rw [yk (show ¬ (i:Int)<6 by lk)];show yp ?_;apply⟨.inl ⟨rfl,_,.of b⟩,?_⟩;apply⟨l,_,_,rfl,rfl,b,g,?_⟩;show C _ ?_;unfold NmK;rw[yC S,yC ad,yC h6];rfl
   .obtain⟨ss,I,J,rfl,rfl,R,A⟩:=hp;apply hD _ _ (q l ss _ (b1.new7 hl) ⟨bv,aj,by rw[qj (YB M)];show ab⟩ (b1.free7 M hl) M qb ⟨by lk,nodup_key λj k s r hk=>?_,λs hs=>?_⟩ R)
    .have ap:j<ss.length:=(yc.mp r).1;have aq:k<ss.length:=(yc.mp hk).1;show NmK.inj B hf (by lk) (by lk) (A j s r) (A k s hk)
    .obtain⟨j,r⟩:=Y9 hs;show(A j s r).nm ht hf
  apply⟨p,3,rfl,hB,by decide,by decide,λway H1 hw b1 hB1=>?_⟩;apply⟨p,26,rfl,hB1,by decide,by decide,λfirst H2 hf b2 af=>?_⟩;apply⟨by show 12<=sizeLine;decide,λU N=>?_⟩;obtain⟨ae,Z,ac⟩:=id af;have aa:p≠U:=λz=>by rw[<- z,ac] at N;cases N
  have b3:=(b1.trans7 b2).new7 (o:=.lst (stepsL.map V.int)) N;have em:upd H2 U (.lst (stepsL.map V.int)) U=some (.lst (stepsL.map V.int)):=qb;have X:Bx (upd H2 U (.lst (stepsL.map V.int))) p:=⟨ae,Z,by rw[qj aa];show ac⟩;have eu:upd H2 U (.lst [V.int 1,V.int 3,V.int 5,V.int 7,V.int 9,V.int 11,V.int 15,V.int 17,V.int 19,V.int 21,V.int 23,V.int 25])=upd H2 U (.lst (stepsL.map V.int)):=rfl;rw[eu];generalize upd H2 U (.lst (stepsL.map V.int))=H3 at b3 em X;apply⟨p,12,rfl,X,by decide,by decide,λd H4 hd b4 ag=>?_⟩;obtain⟨st,B⟩:∃ st,stepsL[d]?=some st:=⟨_,yb hd⟩;show .inl (qbD (b4 _ _ (YB aa) em) (v:=.int st) (qal (by rw[yd,B];rfl)) ?_);apply⟨p,6,rfl,ag,by decide,by decide,λt H5 ht b5 ah=>?_⟩;ext;rw[G];show⟨λ_ _ z=>z,_,_,_,way,first,st,t,rfl,((b3.trans7 b4).trans7 b5),ah,by lk,by lk,ye B,by lk⟩
def tn(ss:LS)(i:Nat):Str:=ss.getD i ""
def nmP(ss:LS)(p:Nat×Nat):Str×Str:=(tn ss p.1,tn ss p.2)
def qhs(a b:Nat×Nat):Prop:=a.1<b.1\/(a.1=b.1/\a.2<b.2)
structure TIok(n:Nat)(TI:List (Nat×Nat)):Prop where
 few:TI.length<=30
 ok:∀ p∈TI,p.1<p.2/\p.2<n
 so:TI.Pairwise qhs
theorem zK(h:i<ss.length):ss[i]?=some (tn ss i):=by unfold tn;rw[yL,yb h];rfl
theorem qaL(h:i<ss.length):tn ss i∈ss:=ye (zK h)
theorem qas(a:ss.Nodup)(h:i<ss.length):ss.idxOf (tn ss i)=i:=by
 have h1:ss[ss.idxOf (tn ss i)]?=some (tn ss i):=by rw[yb (Yh (qaL h))];show congrArg some (Yw _)
 show jf a h1 (zK h)
theorem jR(a:ss.Nodup)(b:i<ss.length)(c:j<ss.length)(e:tn ss i=tn ss j):i=j:=by rw[<- qas a b,<- qas a c,e]
theorem qbB{n:Addr}{Q:VK}(h:H n=some (.lst (ss.map V.str)))(a:i<ss.length)(q:Q (.str (tn ss i)) H):qhr K (.ref n) (.int (i:Int)) H Q:=
 .inl (qbD h (v:=.str (tn ss i)) (by
  unfold atI;rw[ya,zk a];show(ss.map V.str)[i]?=_;rw[yd,zK a];rfl) q)
theorem TIok.two{TI:List (Nat×Nat)}(h:TIok n TI):∀ q∈TI,q.1<n/\q.2<n:=λq a=>by have:=h.ok q a;lk
theorem lex_irr(a:Nat×Nat):¬ qhs a a:=λh=>by rcases h with h | ⟨_,h⟩<;>lk
theorem TIok.nd{TI:List (Nat×Nat)}(h:TIok n TI):TI.Nodup:=h.so.imp λ{a b} c e=>by subst e;show lex_irr _ c
theorem TIok.filter{TI:List (Nat×Nat)}(h:TIok n TI)(f:Nat×Nat->Bool):TIok n (TI.filter f):=
 ⟨yh (yt _ _) h.few,λp a=>h.ok p (yo.mp a).1,h.so.filter _⟩
theorem All2.app9{R:α->β->Prop}{e g:List α}{m1 h:List β}(a:All2 R e m1)(b:All2 R g h):All2 R (e++g) (m1++h):=by
 show⟨by rw[yu,yu,a.len,b.len],λk x y c d=>?_⟩;by_cases f:k<e.length
 .rw [yX f] at c;rw[yX (by rw[<- a.len];show f)] at d;show a.at_ k x y c d
 .rw [Ye (by lk)] at c;rw[Ye (by rw[<- a.len];lk),<- a.len] at d;show b.at_ _ x y c d
def swP(a:Str×Str):Str×Str:=(a.2,a.1)
def evP(p:Nat×Nat):Bool:=decide ((p.1+p.2) % 2=0)
def hdU(ss:LS)(TI:List (Nat×Nat)):LP:=(TI.filter λp=>!evP p).map (λp=>swP (nmP ss p))++((TI.filter evP).map (nmP ss)).reverse
def hdN(ss:LS)(p:Nat×Nat):Str×Str:=if evP p=true then nmP ss p else swP (nmP ss p)
theorem qdE(f:α->Bool):∀ l:List α,(l.filter (λx=>!f x)++l.filter f).Perm l
 | []=>.nil
 | a::l=>by
  have b:=qdE f l;rw[yM,yM]
  cases f a with
  | false=>show .cons a b
  | true=>show(List.perm_middle).trans (.cons a b)
theorem qcd(ss:LS)(TI:List (Nat×Nat)):(hdU ss TI).Perm (TI.map (hdN ss)):=by
 have b:(TI.filter λp=>!evP p).map (λp=>swP (nmP ss p))=(TI.filter λp=>!evP p).map (hdN ss):=by
  show xH λp a=>?_;have:=(yo.mp a).2;unfold hdN;rw[yC (by simpa using this)]
 have c:(TI.filter evP).map (nmP ss)=(TI.filter evP).map (hdN ss):=by
  show xH λp a=>?_;unfold hdN;rw[yG (yo.mp a).2]
 unfold hdU;rw[b,c];show(List.Perm.append_left _ (List.reverse_perm _)).trans ?_;rw[<- yq];show(qdE evP TI).map _
theorem qfv(ss:LS)(p:Nat×Nat):hdN ss p=nmP ss p\/hdN ss p=swP (nmP ss p):=by
 unfold hdN;split
 .show .inl rfl
 .show .inr rfl
theorem hd_tA{TI:List (Nat×Nat)}{a b:Str}:tA (hdU ss TI) a b↔tA (TI.map (nmP ss)) a b:=by
 have m:∀ x y,(x,y)∈hdU ss TI->tA (TI.map (nmP ss)) x y:=λx y h=>by
  obtain⟨p,c,e⟩:=yJ.mp ((qcd ss TI).mem_iff.mp h);rcases qfv ss p with k | k
  .rw [k] at e;show .inl (yJ.mpr ⟨p,c,e⟩)
  .rw [k] at e;show .inr (yJ.mpr ⟨p,c,by cases e;rfl⟩)
 have d:∀ x y,(x,y)∈TI.map (nmP ss)->tA (hdU ss TI) x y:=λx y h=>by
  obtain⟨p,c,e⟩:=yJ.mp h;have:=(qcd ss TI).mem_iff.mpr (yJ.mpr ⟨p,c,rfl⟩);rcases qfv ss p with k | k
  .rw [k,e] at this;show .inl this
  .rw [k,e] at this;show .inr this
 show⟨λh=>h.elim (m a b) λz=>(m b a z).symm,λh=>h.elim (d a b) λz=>(d b a z).symm⟩
theorem hd_go{TI:List (Nat×Nat)}(c:ss.Nodup)(h:TIok ss.length TI):TGo ss (hdU ss TI):=by
 show⟨by rw[(qcd ss TI).length_eq,ya];show h.few,λs d=>?_,?_⟩
 .obtain⟨p,r,e⟩:=yJ.mp ((qcd ss TI).mem_iff.mp d);have k:=h.ok p r;have m:=qaL (ss:=ss) (i:=p.1) (by lk);have n:=qaL (ss:=ss) (i:=p.2) (by lk);have o:tn ss p.1≠tn ss p.2:=λz=>by have:=jR c (by lk) (by lk) z;lk
  rcases qfv ss p with z | z<;>rw[z] at e<;>subst e
  .show⟨m,n,o⟩
  .show⟨n,m,YB o⟩
 .show((qcd ss TI).pairwise_iff UN.symm).mpr (xB.mpr (h.nd.imp_of_mem λ{a b} q hb f=>?_));have t:=h.ok a q;have u:=h.ok b hb
  have key:nmP ss a≠nmP ss b/\nmP ss a≠swP (nmP ss b):=by
   show⟨λe=>f ?_,λe=>?_⟩
   .have g:=jR c (by lk) (by lk) (congrArg Prod.fst e);have l:=jR c (by lk) (by lk) (congrArg Prod.snd e);show XF g l
   .have g:=jR c (i:=a.1) (j:=b.2) (by lk) (by lk) (congrArg Prod.fst e);have l:=jR c (i:=a.2) (j:=b.1) (by lk) (by lk) (congrArg Prod.snd e);lk
  rcases qfv ss a with z | z<;>rcases qfv ss b with y | y<;>rw[z,y]
  .show key
  .show⟨key.2,λe=>key.1 e⟩
  .show⟨λe=>key.2 (by rw[<- e];rfl),λe=>key.1 (congrArg swP e)⟩
  .show⟨λe=>key.1 (congrArg swP e),λe=>key.2 (congrArg swP e)⟩
def qgz(G H:Hp):Hp:=λc=>match G c with
 | none=>H c
 | some _=>none
theorem qce(h:G c=none)(e:H c=some o):qgz G H c=some o:=by unfold qgz;rw[h];show e
theorem qbr(h:qgz G H c=some o):G c=none/\H c=some o:=by
 unfold qgz at h
 cases e:G c with
 | none=>rw[e] at h;show⟨rfl,h⟩
 | some u=>rw[e] at h;cases h
theorem qd4:L2.Same (qgz G H) H:=λc o e=>(qbr e).2
theorem qfw{m y:Addr}{Q:VK}(I:LTu G m (ss.map V.str))(g:NOk ss)(r:PLT G l us kps)(u:TGo ss kps)(q:G y=none)(H:G dx=none)(p:dx≠y)
  (h:∀ ns H2,L2.Same G H2->Wt cw (qgz G H2) y ss ns kps->Q .non H2):spWeb cw [.ref y,.ref m,.ref l] (upd (upd G dx (.own y)) y (.ins cw dx [])) Q E:=by
 have f:=qw (qw (Sr G) (o:=.own y) H) (o:=.ins cw dx []) (show upd G dx (.own y) y=none by rw[qj (YB p)];show q);show⟨y,dx,m,l,ss,us,kps,rfl,qb,I.same f,g.few,g.nd,g.nm,⟨r.1.same f,r.2.mono λ_ _ z=>f _ _ z⟩,u,λns H' b i hb=>?_⟩;obtain⟨J,d,ol,n,h1,A,B,C,D,v,w,x⟩:=i;show h ns H' (λc o e=>b c o (λz=>by rw[z,q] at e;cases e) (f _ _ e)) ⟨⟨J,d,ol,n,qce q h1,qce (f.free v) A,qce (f.free w) B,qce (f.free x) C,D⟩,λa b s t F j=>by rw[hb.2.2 a b s t F j,yD],u.inn⟩
theorem qhl{m y:Addr}{Q:VK}(f:LTu G m (ss.map V.str))(b:NOk ss)(c:PLT G l us kps)(e:TGo ss kps)(g:G y=none)(d:G dx=none)(a:dx≠y)
  (h:∀ ns H2,L2.Same G H2->Wt cw H2 y ss ns kps->Q .non H2):spWeb cw [.ref y,.ref m,.ref l] (upd (upd G dx (.own y)) y (.ins cw dx [])) Q E:=
 qfw f b c e g d a λns H2 s W=>h ns H2 s (W.same qd4)
theorem Wt.to{y:Addr}(h:Wt cw H y ss ns kps)(ok:∀ ab∈tps,ab.1∈ss/\ab.2∈ss/\ab.1≠ab.2)(e:∀ a b,a∈ss->b∈ss->(tA kps a b↔tA tps a b)):Wt cw H y ss ns tps:=
 ⟨h.web,λa b s t c hb=>(h.adj a b s t c hb).trans (e s t (ye c) (ye hb)),ok⟩
theorem TIok.go{TI:List (Nat×Nat)}(c:ss.Nodup)(h:TIok ss.length TI):∀ a∈TI.map (nmP ss),a.1∈ss/\a.2∈ss/\a.1≠a.2:=λa b=>by
 obtain⟨p,d,rfl⟩:=yJ.mp b;have k:=h.ok p d;show⟨qaL (by lk),qaL k.2,λz=>by have:=jR c (by lk) (by lk) z;lk⟩
theorem kL:FnScope wqg wqV (qf qat):=fS
abbrev iT(q:Nat×Nat):HO:=.tup [.int (q.1:Int),.int (q.2:Int)]
def IPL(H:Hp)(l:Addr)(ts:LI)(TI:List (Nat×Nat)):Prop:=H l=some (.lst (ts.map V.ref))/\All2 (λt q=>H t=some (iT q)) ts TI
theorem IPL.same{TI:List (Nat×Nat)}(h:IPL H l ts TI)(s:L2.Same H H'):IPL H' l ts TI:=⟨s _ _ h.1,h.2.mono λ_ _ z=>s _ _ z⟩
theorem vRng2{a:TA}{R:It->Hp->Prop}(h:a σ H λvs H1=>∃ i j:Int,vs=[.int i,.int j]/\(-(2 ^ 62)<=i/\i<2 ^ 62/\-(2 ^ 62)<=j/\j<2 ^ 62)/\R (Itr i (j-i).toNat) H1):qg3 a σ H R:=h
theorem qga{i j:Int}{Q:VK}(q:Q (.bl (decide (i=j))) H):qgN K (.int i) (.int j) H Q:=.inl (.inl (.inl ⟨rfl,rfl,by rw[qcY];show q⟩))
theorem But.same7(s:L2.Same H H1)(a:H p=none)(b:But p H1 H2):L2.Same H H2:=λc o e=>b c o (λz=>by rw[z,a] at e;cases e) (s c o e)
theorem Same.set7(a:L2.Same H H1)(hl:H l=none):L2.Same H (upd H1 l o):=λc u e=>by
 have:c≠l:=λz=>by rw[z,hl] at e;cases e
 rw[qj this];show a c u e
theorem qfx{i j:Int}{Q:VK}(q:Q (.bl (!decide (i=j))) H):qeX K true (.int i) (.int j) H Q:=.inl ⟨rfl,rfl,by
 rw[yG rfl];have:=zZ i j;rw[yC (by decide)] at this;rw[this];show q⟩
inductive spDr(vs:List V)(H:Hp)(Q:VK)(E:XK):Prop|mk (c:Int) (_:vs=[.int c,.bl true]) (_:∀(cl:Nat->Bool) (t n l:Addr) (ss:LS) (ts:LI) (TI:List (Nat×Nat)) (H':Hp),L2.Same H H'->H' t=some (.tup [.ref n,.ref l])->H n=none->H' n=some (.lst (ss.map V.str))->NOk ss->H l=none->IPL H' l ts TI->TIok ss.length TI->(∀ q∈TI,cl q.2=!cl q.1)->Q (.ref t) H')
theorem ok_dr(F:Fun K "_law_drawn" "_law_drawn" qat f fd)(T:Txt K mg cc cw)(Ui:wq7 1 "_law_box" ["_law_cell"] spBx)(kS:wq7 1 "_law_take" wql spTk)(Ub:wq7 2 "_law_names" wql spNm7):wq9 3 f fd wqV spDr:=by
 show F.ok kL λ_ _ _ _ H vs Q E hr h=>?_
 .obtain⟨c,rfl,q⟩:=h;have hu:=jT hr;obtain⟨TC3,Y⟩:∃ t:TS,t=λD σ H'=>(∀ u H',Q u H'->D.rt u H')/\∃(p:Addr) (m:Nat) (x4 x5 x6 x7 x8 x9 ax:Option V),σ=[some (.int c),some (.bl true),some (.ref p),some (.int (m:Int)),x4,x5,x6,x7,x8,x9,ax]/\L2.Same H H'/\H p=none/\Bx H' p/\m<=14:=⟨_,rfl⟩;show⟨_,(qc (qo (i:=2) kL.nd rfl (YX rfl) (qk Ui (hmR hr) qt (qa (pv 0) qd)))
 (qc (qo (i:=3) kL.nd rfl (yF rfl) (qk kS (hmR hr) qt (qa (pv 2) (qa qh qd))))
 (qc (qR (qm (jX (K:=K) rfl hu) (qk kS (hmR hr) qt (qa (pv 2) (qa qh qd))) qh (qv _)) (qg (qo (i:=3) kL.nd rfl (yF rfl) (qk kS (hmR hr) qt (qa (pv 2) (qa qh qd))))) qu)
 (qcb TC3 (qc (qo (i:=4) kL.nd rfl (yF rfl) (qk Ub (hmR hr) qt (qa (pv 2) (qa (pv 3) qd))))
 (qc (qo (i:=5) kL.nd rfl (yF rfl) (qC (j9 (K:=K) rfl) qh (qk kS (hmR hr) qt (qa (pv 2) (qa qh qd)))))
 (qc (jM (sc:=qf qat) (XN:=wqg) ["_law_k","_law_box_here"] 1 [2] rfl rfl rfl (by room) rfl (by room) (i:=6) kL.nd rfl rfl
  (jo rfl T.b_range (qa (pv 3) qd)) (λ_ _ _ _=>(qi (i:=0) (show(["_law_k","_law_box_here"]:LS).Nodup by room) rfl (yF rfl))) qA
  (λ_ _ _ _=>jj)
  (λ_ _ _ _=>(qk kS (hmR hr) qt (qa (pv 1) (qa qh qd)))))
 (qc (qo (i:=7) kL.nd rfl (yF rfl) (qZ qd))
 (qc (je yS rfl (jo rfl T.b_range (qa (pv 3) qd)) (qi (i:=8) kL.nd rfl (yF rfl))
 (qg (je yS rfl (pi_range2 rfl T.b_range (qa (qC (j9 (K:=K) rfl) (pv 8) qh) (qa (pv 3) qd))) (qi (i:=9) kL.nd rfl (yF rfl))
 (qc (qo (i:=10) kL.nd rfl (yF rfl) (qbP (jL qdS (qk kS (hmR hr) qt (qa (pv 2) (qa qh qd))) (pv 5) (qv _)) (qbx (pe_or (qgf (pv 1)) (qbx (jL (zv (K:=K) rfl hu) (qx (qz (K:=K) rfl hu) (pv 6) (pv 8) (λ_ _=>rfl)) (qx (qz (K:=K) rfl hu) (pv 6) (pv 9) (λ_ _=>rfl)) (qv _)))))))
 (qg (qR (PW.pt (qge (qY (pv 10)) (qeZ (qm qdS (qq (j8 (K:=K) rfl) rfl T.b_len YE (qa (pv 7) qd)) qh (qv _))))) (qg (qU (qcO (K:=K) rfl yP yU yV qJ (pv 7) (qa (jD (qa (pv 8) (qa (pv 9) qd))) qd)))) qu))))))
 (qg (qp (jD (qa (pv 4) (qa (pv 7) qd)))))))))) ?cut3)))),?_⟩
  case cut3 =>
   intro D σ H1 h;rw[Y] at h;obtain⟨hD,p,m,x4,x5,x6,x7,x8,x9,ax,rfl,s1,B,hB1,hm⟩:=h;apply⟨p,m,rfl,hB1,hm,λn ss H2 b2 ae bb ai bc hO bf=>?_⟩;have s2:=But.same7 s1 B b2;apply⟨p,3,rfl,ae,by decide,by decide,λd H3 hd b3 ab=>?_⟩;have s3:=But.same7 s2 B b3;have bd:=b3 _ _ ai bc;apply⟨(m:Int),rfl,by lk,by lk,?_⟩;rw[y6];show qbo (lo:=0) (λi ys J=>L2.Same H J/\Bx J p/\J n=some (.lst (ss.map V.str))/\∃ g:LN,ys=ivs g/\g.length=i/\∀ v∈g,v<2) ⟨s3,ab,bd,[],rfl,rfl,λv hv=>by cases hv⟩ (λi ys J hi Z=>?_) λys J Z=>?_
   .obtain⟨W,r,x,g,rfl,av,al⟩:=Z;apply zu ?_;apply⟨p,2,rfl,r,by decide,by decide,λd2 J2 ap b4 I=>?_⟩
    show⟨by rw[ya];show qe (by lk),But.same7 W B b4,I,b4 _ _ ai x,g++[d2],by show _=List.map iv _;rw[yq];rfl,by rw[yu,av];rfl,λv hv=>by
     rcases yO.mp hv with z | z
     .show al v z
     .rw [yx.mp z];show ap⟩
   .obtain⟨W,r,x,g,rfl,av,al⟩:=Z;show⟨by rw[ya];show yI (qe (by lk)),λsd aa=>?_⟩;have s4:=qw W (o:=.lst (ivs g)) aa;have aw:=qw (Sr J) (o:=.lst (ivs g)) aa;have ah:=aw _ _ x;have I:Bx (upd J sd (.lst (ivs g))) p:=r.elim λv h=>⟨v,h.1,aw _ _ h.2⟩;have ag:upd J sd (.lst (ivs g)) sd=some (.lst (ivs g)):=qb;have bg:sd≠p:=λz=>by obtain⟨v,_,e⟩:=r;rw[z,e] at aa;cases aa
    have an:∀ i,i<m->g[i]?=some (g.getD i 0)/\g.getD i 0<2:=λi hi=>by
     have e:g[i]?=some g[i]:=yb (by lk);rw[yL,e];show⟨rfl,al _ (Yz _)⟩
    have ao:∀ i,i<m->atI (ivs g) (i:Int)=some (iv (g.getD i 0)):=λi hi=>by
     unfold atI;rw[ya,zk (show i<g.length by lk)];show(ivs g)[i]?=_;rw[yd,(an i hi).1];rfl
    have bj:H sd=none:=W.free aa;generalize upd J sd (.lst (ivs g))=H4 at s4 ah I ag;apply⟨wqqb,λl G=>?_⟩;have s5:=qw s4 (o:=.lst []) G;have am:=qw (Sr H4) (o:=.lst []) G;have ar:H l=none:=s4.free G;have as:l≠p:=λz=>by obtain⟨v,_,e⟩:=I;rw[z,e] at G;cases G
    have az:l≠n:=λz=>by rw[z,ah] at G;cases G
    have ba:l≠sd:=λz=>by rw[z,ag] at G;cases G
    apply⟨(m:Int),rfl,by lk,by lk,?_⟩;rw[y6];show jE (lo:=0) (n:=m) (λi σ J=>L2.Same H J/\Bx J p/\J n=some (.lst (ss.map V.str))/\J sd=some (.lst (ivs g))/\∃(ts:LI) (TI:List (Nat×Nat)) (y8 y9 M:Option V),σ=[some (.int c),some (.bl true),some (.ref p),some (.int (m:Int)),some (.ref n),some (.int (1+(d:Int))),some (.ref sd),some (.ref l),y8,y9,M]/\IPL J l ts TI/\TI.length<=30/\(∀ q∈TI,q.1<q.2/\q.2<m)/\TI.Pairwise qhs/\(∀ q∈TI,g.getD q.1 0≠g.getD q.2 0)/\∀ q∈TI,q.1<i)
     ⟨s5,I.elim λv h=>⟨v,h.1,am _ _ h.2⟩,am _ _ ah,am _ _ ag,[],[],_,_,_,rfl,⟨qb,.nil⟩,by decide,λq y=>(by cases y),.nil,(λq y=>by cases y),λq y=>by cases y⟩ (λi σ J hi Z=>?_) fun σ J Z=>?_
    .obtain⟨W,r,x,S,ts,TI,y8,y9,M,rfl,X,j,s,C,A,L⟩:=Z;rw[xA];apply vRng2 ?_;apply⟨_,_,rfl,⟨by lk,by lk,by lk,by lk⟩,?_⟩;rw[show((m:Int)-((i:Int)+1)).toNat=m-(i+1) by lk];show jE (lo:=(i:Int)+1) (n:=m-(i+1)) (λk σ J=>L2.Same H J/\Bx J p/\J n=some (.lst (ss.map V.str))/\J sd=some (.lst (ivs g))/\∃(ts:LI) (TI:List (Nat×Nat)) (y9 M:Option V),σ=[some (.int c),some (.bl true),some (.ref p),some (.int (m:Int)),some (.ref n),some (.int (1+(d:Int))),some (.ref sd),some (.ref l),some (.int (i:Int)),y9,M]/\IPL J l ts TI/\TI.length<=30/\(∀ q∈TI,q.1<q.2/\q.2<m)/\TI.Pairwise qhs/\(∀ q∈TI,g.getD q.1 0≠g.getD q.2 0)/\∀ q∈TI,q.1<i\/(q.1=i/\q.2<i+1+k))
      ⟨W,r,x,S,ts,TI,_,_,rfl,X,j,s,C,A,λq y=>.inl (L q y)⟩ (λk σ J hk Z=>?_) fun σ J Z=>?_
     .obtain⟨W,r,x,S,ts,TI,y9,M,rfl,X,j,s,C,A,L⟩:=Z;apply⟨p,4,rfl,r,by decide,by decide,λd2 J2 ap b6 ac=>?_⟩;have s6:=But.same7 W B b6;have ad:=b6 _ _ ai x;have O:IPL J2 l ts TI:=⟨b6 _ _ as X.1,X.2.mono λt q z=>b6 _ _ (λe=>by obtain⟨v,_,e2⟩:=r;rw[e,e2] at z;cases z) z⟩;have R:=b6 _ _ bg S;have N:∀ q∈TI,q.1<i\/(q.1=i/\q.2<i+1+(k+1)):=λq y=>by have:=L q y;lk
      ext;by_cases aq:(d2:Int)<1+(d:Int)
      .rw [yw aq];show zu ?_;apply yp ?_;apply .inl (qbD R (ao i (by lk)) ?_);apply .inl (qbD R (v:=iv (g.getD (i+1+k) 0)) (by rw[show(i:Int)+1+(k:Int)=((i+1+k:Nat):Int) by lk];show ao _ (by lk)) ?_);apply qfx ?_;by_cases ay:g.getD i 0=g.getD (i+1+k) 0
       .rw [yw (show(g.getD i 0:Int)=(g.getD (i+1+k) 0:Nat) by lk)];apply yp ?_;show yp ?_;apply⟨s6,ac,ad,R,ts,TI,_,_,rfl,O,j,s,C,A,N⟩
       rw[yk (show ¬ (g.getD i 0:Int)=(g.getD (i+1+k) 0:Nat) by lk)];apply zu ?_;apply zT O.1 ?_;ext;by_cases bh:TI.length<30
       .rw [yw (show(((ts.map V.ref).length:Nat):Int)<30 by rw[ya,X.2.len];lk)];show zu ?_;apply⟨.inl ⟨rfl,_,.of O.1⟩,?_⟩;apply⟨wqqd,λt aj=>?_⟩;have U:=qw (Sr J2) (o:=.tup [.int (i:Int),.int ((i:Int)+1+(k:Int))]) aj
        have ak:upd J2 t (.tup [.int (i:Int),.int ((i:Int)+1+(k:Int))]) t=some (iT (i,i+1+k)):=by
         rw[qb];show _=some (HO.tup [_,V.int ((i+1+k:Nat):Int)]);rw[show((i+1+k:Nat):Int)=(i:Int)+1+(k:Int) by lk]
        have s7:=s6.trans U;generalize upd J2 t (.tup [.int (i:Int),.int ((i:Int)+1+(k:Int))])=J7 at U ak s7;have af:=O.same U;apply⟨l,_,_,rfl,rfl,af.1,by rw[ya,X.2.len];show qe (by lk),?_⟩;have au:∀{c:Addr} {o:HO},J7 c=some o->(∀ xs,o≠.lst xs)->c≠l:=λe be z=>by rw[z,af.1] at e;cases e;show be _ rfl
        show⟨Same.set7 s7 ar,ac.elim λv h=>⟨v,h.1,by rw[qj (YB as)];show U _ _ h.2⟩,by rw[qj (YB az)];show U _ _ ad,by rw[qj (YB ba)];show U _ _ R,ts++[t],TI++[(i,i+1+k)],_,_,rfl,⟨by rw[qb,yq];rfl,?_⟩,by rw[yu];show TI.length+1<=30;lk,λq y=>?_,?_,λq y=>?_,λq y=>?_⟩
        .show All2.snoc (af.2.mono λt' q z=>?_) ?_
         .rw [qj (au z λxs e=>by cases e)];show z
         .rw [qj (au ak λxs e=>by cases e)];show ak
        .rcases yO.mp y with z | z
         .show s q z
         .rw [yx.mp z];show i<i+1+k/\i+1+k<m;lk
        .show Xg.mpr ⟨C,List.pairwise_singleton _ _,λa ha b hb=>?_⟩;rw[yx.mp hb];rcases L a ha with z | z
         .show .inl z
         .show .inr z
        .rcases yO.mp y with z | z
         .show A q z
         .rw [yx.mp z];show ay
        .rcases yO.mp y with z | z
         .show N q z
         .rw [yx.mp z];show .inr ⟨rfl,by show i+1+k<_;lk⟩
       .rw [yk (show ¬ (((ts.map V.ref).length:Nat):Int)<30 by rw[ya,X.2.len];lk)];show yp ?_;apply⟨s6,ac,ad,R,ts,TI,_,_,rfl,O,j,s,C,A,N⟩
      .rw [yk aq];show yp ?_;apply yp ?_;show yp ?_;apply⟨s6,ac,ad,R,ts,TI,_,_,rfl,O,j,s,C,A,N⟩
     .obtain⟨W,r,x,S,ts,TI,y9,M,rfl,X,j,s,C,A,L⟩:=Z;show⟨W,r,x,S,ts,TI,_,_,_,rfl,X,j,s,C,A,λq y=>by have:=L q y;lk⟩
    .obtain⟨W,r,x,S,ts,TI,y8,y9,M,rfl,X,j,s,C,A,L⟩:=Z;apply⟨wqqd,λt aj=>hD _ _ ?_⟩;have s8:=qw (Sr J) (o:=.tup [.ref n,.ref l]) aj
     show q (λi=>decide (g.getD i 0=0)) t n l ss ts TI _ (W.trans s8) qb (s1.free bb) (s8 _ _ x) hO ar (X.same s8) ⟨j,λq y=>by rw[bf];show s q y,C⟩ λq y=>by
      have h1:=(an q.1 (by have:=s q y;lk)).2;have h2:=(an q.2 (s q y).2).2;have h3:=A q y;show decide (g.getD q.2 0=0)=!decide (g.getD q.1 0=0);rcases(by lk:g.getD q.1 0=0\/g.getD q.1 0=1) with k1 | k1<;>rcases(by lk:g.getD q.2 0=0\/g.getD q.2 0=1) with k2 | k2<;>rw[k1,k2] at h3 ⊢<;>first | rfl | show absurd rfl h3
  apply⟨c,rfl,λp H1 s1 B hB1=>?_⟩;apply⟨p,8,rfl,hB1,by decide,by decide,λm H2 hm b2 ae=>?_⟩;have s2:=But.same7 s1 B b2;apply⟨p,8,rfl,ae,by decide,by decide,λm2 H3 bm b3 ab=>?_⟩;have s3:=But.same7 s2 B b3;apply qga ?_;apply qP (λh=>?_) (λh=>?_)
  .ext;show⟨p,15,rfl,ab,by decide,by decide,λm4 H4 bn b4 I=>?_⟩;ext;rw[Y];show⟨λ_ _ z=>z,p,m4,_,_,_,_,_,_,_,rfl,But.same7 s3 B b4,B,I,by lk⟩
  .ext;rw[Y];show⟨λ_ _ z=>z,p,m,_,_,_,_,_,_,_,rfl,s3,B,ab,by lk⟩
theorem uc:FnScope wqA wqE (qf qbs):=fS
inductive spWb(cw:Addr)(vs:List V)(H:Hp)(Q:VK)(E:XK):Prop|mk (n l:Addr) (ss:LS) (ts:LI) (TI:List (Nat×Nat)) (_:vs=[.ref n,.ref l]) (_:H n=some (.lst (ss.map V.str))) (_:IPL H l ts TI) (_:NOk ss) (_:TIok ss.length TI) (_:∀(b:Addr) (ns:LN) (H':Hp),L2.Same H H'->Wt cw (qgz H H') b ss ns (TI.map (nmP ss))->Q (.ref b) H')
theorem ok_wb(F:Fun K "_law_web" "_law_web" qbs f fd)(T:Txt K mg cc cw)(K0:wqqa 5 cw "Web" wqs (spWeb cw)):wq9 7 f fd wqE (spWb cw):=by
 show F.ok uc λ_ _ _ _ H vs Q E hr h=>?_
 .obtain⟨n,l,ss,ts,TI,rfl,hn,I,hO,hT,q⟩:=h;have hu:=jT hr;have few:=hT.few;have two:=hT.two;show⟨_,(qc (jM (sc:=qf qbs) (XN:=wqA) wqi 2 [0] rfl rfl rfl (by room) rfl (by room) (i:=2) uc.nd rfl rfl
  (qeA (K:=K) rfl (pv 1)) (λ_ _ _ _=>(qby (n:=2) rfl (jd (qi (i:=0) (show(wqi:LS).Nodup by room) rfl (yF rfl)) (jd (qi (i:=1) (show(wqi:LS).Nodup by room) rfl (yF rfl)) qai)))) qeE
  (λ_ _ _ _=>(qE (qm (jX (K:=K) rfl hu) (qC zh (qC (j9 (K:=K) rfl) (pv 0) (pv 1)) qh) qh (qv _))))
  (λ_ _ _ _=>(jD (qa (qx (qz (K:=K) rfl hu) (pv 2) (pv 0) (λ_ _=>rfl)) (qa (qx (qz (K:=K) rfl hu) (pv 2) (pv 1) (λ_ _=>rfl)) qd)))))
 (qc (qo (i:=2) uc.nd rfl (yF rfl) (qC (j9 (K:=K) rfl) (qL (sc:=qf qbs) (XN:=wqA) wqi 2 [0] rfl rfl rfl (by room) rfl (by room)
  (qeA (K:=K) rfl (pv 1)) (λ_ _ _ _=>(qby (n:=2) rfl (jd (qi (i:=0) (show(wqi:LS).Nodup by room) rfl (yF rfl)) (jd (qi (i:=1) (show(wqi:LS).Nodup by room) rfl (yF rfl)) qai)))) qeE
  (λ_ _ _ _=>(qE (qm (jX (K:=K) rfl hu) (qC zh (qC (j9 (K:=K) rfl) (pv 0) (pv 1)) qh) qh (qv _))))
  (λ_ _ _ _=>(jD (qa (qx (qz (K:=K) rfl hu) (pv 2) (pv 1) (λ_ _=>rfl)) (qa (qx (qz (K:=K) rfl hu) (pv 2) (pv 0) (λ_ _=>rfl)) qd))))) (pe_rvL (K:=K) rfl (pv 2) (zO (qgH qe0 qh)))))
 (qc (qR (qm (jX (K:=K) rfl hu) (qC zh (qq (j8 (K:=K) rfl) rfl T.b_len YE (qa (pv 1) qd)) qh) qh (qv _)) (qg (qp (qa1 K0 (hmR hr) (qa (zi (qey (K:=K) rfl) rfl T.b_tuple boot_tuple (qa (pv 0) qd)) (qa (pv 2) qd))))) qu)
 (qg (qp (qa1 K0 (hmR hr) (qa (zi (qb2 (K:=K) rfl rfl) rfl T.b_list Xc (qa (pv 0) qd)) (qa (zi (qey (K:=K) rfl) rfl T.b_tuple boot_tuple (qa (pv 2) qd)) qd)))))))),?_⟩
  apply qf9 ?_;apply⟨l,_,rfl,.of I.1,qr (xs:=ts.map V.ref) (λi ys J=>L2.Same H J/\∃ us:LI,ys=us.map V.ref/\All2 (λt g=>J t=some (.tup [.str g.1,.str g.2])) us (((TI.take i).filter evP).map (nmP ss))) ⟨L2.Same.refl H,[],rfl,.nil⟩ (λi ys J _ d=>.of (d.1 _ _ I.1)) (λi x ys J hx d=>?_) λys J d=>?_⟩
  .obtain⟨s2,us,rfl,W⟩:=d;rw[yd] at hx;obtain⟨u,A,rfl⟩:=ym.mp hx;have hi:i<TI.length:=by rw[<- I.2.len];show(yc.mp A).1
   obtain⟨p,hp⟩:∃ p,TI[i]?=some p:=⟨_,yb hi⟩;have ac:=s2 _ _ (I.2.at_ i u p A hp);have r:=two p (ye hp);show⟨u,_,rfl,.of ac,rfl,_,_,rfl,_,_,rfl,rfl,?_⟩;apply vI (by decide) ?_;show qga ?_;ext;have ee:decide (((p.1:Int)+(p.2:Int)) % 2=0)=evP p:=Yi.mpr (by lk);rw[ee,yA,hp,yQ,yq]
   have ai:us.length<=30:=by
    rw[W.len,ya];have:=yt evP (TI.take i);rw[yH] at this;lk
   show qP (λh=>?_) (λh=>?_)
   .ext;show qbB (s2 _ _ hn) r.1 ?_;apply qbB (s2 _ _ hn) r.2 ?_;apply⟨wqqd,λm hm=>?_⟩;show⟨by rw[ya];show qe (by lk),qw s2 hm,us++[m],by rw[yq];rfl,?_⟩;have e:([p].filter evP).map (nmP ss)=[nmP ss p]:=by rw[yM,yG h];rfl
    show All2 _ _ (_++([p].filter evP).map (nmP ss));rw[e];show(W.mono λt' q z=>qw (Sr J) hm _ _ z).snoc qb
   .show⟨s2,us,rfl,?_⟩;have e:([p].filter evP).map (nmP ss)=[]:=by rw[yM,yC h];rfl
    show All2 _ _ (_++([p].filter evP).map (nmP ss));rw[e,yZ];show W
  .obtain⟨s2,us,rfl,W⟩:=d;have e:(ts.map V.ref).length=TI.length:=by rw[ya,I.2.len]
   rw[e,yv] at W;have ba:us.length<=30:=by rw[W.len,ya];show yh (yt _ _) few
   show⟨by rw[ya];show yI (qe (by lk)),λr1 al=>?_⟩;have s3:=qw s2 (o:=.lst (us.map V.ref)) al;have ap:=qw (Sr J) (o:=.lst (us.map V.ref)) al;have M:upd J r1 (.lst (us.map V.ref)) r1=some (.lst (us.map V.ref)):=qb;have ag:=W.mono λt g z=>ap _ _ z;generalize upd J r1 (.lst (us.map V.ref))=H3 at s3 ap M ag;apply qf9 ?_;ext;have Y:=I.same s3;show⟨l,_,rfl,.of Y.1,qr (xs:=ts.map V.ref) (λi ys J=>L2.Same H3 J/\∃ us:LI,ys=us.map V.ref/\All2 (λt g=>J t=some (.tup [.str g.1,.str g.2])) us (((TI.take i).filter λp=>!evP p).map λp=>swP (nmP ss p))) ⟨L2.Same.refl H3,[],rfl,.nil⟩ (λi ys J _ d=>.of (d.1 _ _ Y.1)) (λi x ys J hx d=>?_) λys J d=>?_⟩
   .obtain⟨s4,vs,rfl,X⟩:=d;rw[yd] at hx;obtain⟨u,A,rfl⟩:=ym.mp hx;have hi:i<TI.length:=by rw[<- I.2.len];show(yc.mp A).1
    obtain⟨p,hp⟩:∃ p,TI[i]?=some p:=⟨_,yb hi⟩;have ac:=s4 _ _ (Y.2.at_ i u p A hp);have r:=two p (ye hp);have aj:=s4 _ _ (s3 _ _ hn);show⟨u,_,rfl,.of ac,rfl,_,_,rfl,_,_,rfl,rfl,?_⟩;apply vI (by decide) ?_;show qga ?_;ext
    have ee:decide (((p.1:Int)+(p.2:Int)) % 2=1)=!evP p:=by
     unfold evP;rw[<- decide_not];show Yi.mpr (by lk)
    rw[ee,yA,hp,yQ,yq]
    have ai:vs.length<=30:=by
     rw[X.len,ya];have:=yt (λp=>!evP p) (TI.take i);rw[yH] at this;lk
    show qP (λh=>?_) (λh=>?_)
    .ext;show qbB aj r.2 ?_;apply qbB aj r.1 ?_;apply⟨wqqd,λm hm=>?_⟩;show⟨by rw[ya];show qe (by lk),qw s4 hm,vs++[m],by rw[yq];rfl,?_⟩;have e:([p].filter λp=>!evP p).map (λp=>swP (nmP ss p))=[swP (nmP ss p)]:=by rw[yM,yG h];rfl
     show All2 _ _ (_++([p].filter λp=>!evP p).map (λp=>swP (nmP ss p)));rw[e];show(X.mono λt' q z=>qw (Sr J) hm _ _ z).snoc qb
    .show⟨s4,vs,rfl,?_⟩;have e:([p].filter λp=>!evP p).map (λp=>swP (nmP ss p))=[]:=by rw[yM,yC h];rfl
     show All2 _ _ (_++([p].filter λp=>!evP p).map (λp=>swP (nmP ss p)));rw[e,yZ];show X
   .obtain⟨s4,vs,rfl,X⟩:=d;have e:(ts.map V.ref).length=TI.length:=by rw[ya,I.2.len]
    rw[e,yv] at X;have bb:vs.length<=30:=by rw[X.len,ya];show yh (yt _ _) few
    show⟨by rw[ya];show yI (qe (by lk)),λr2 av=>?_⟩;have aq:=qw (Sr J) (o:=.lst (vs.map V.ref)) av;have s5:=s4.trans aq;have N:upd J r2 (.lst (vs.map V.ref)) r2=some (.lst (vs.map V.ref)):=qb;have ah:=X.mono λt g z=>aq _ _ z;generalize upd J r2 (.lst (vs.map V.ref))=H5 at s5 N ah;show vRvL ?_;apply vU ?_;apply⟨rfl,r1,_,rfl,.of (s5 _ _ M),λr3 aw=>?_⟩;rw[<- List.map_reverse];have B:=qw (Sr H5) (o:=.lst (us.reverse.map V.ref)) aw;have O:upd H5 r3 (.lst (us.reverse.map V.ref)) r3=some (.lst (us.reverse.map V.ref)):=qb;generalize upd H5 r3 (.lst (us.reverse.map V.ref))=H6 at B O;show .inl ⟨r2,r3,_,_,rfl,rfl,B _ _ N,O,by rw[ya,ya,xF];show yI (qe (by lk)),λr4 ax=>?_⟩;rw[<- yq];have L:=qw (Sr H6) (o:=.lst ((vs++us.reverse).map V.ref)) ax;have s:upd H6 r4 (.lst ((vs++us.reverse).map V.ref)) r4=some (.lst ((vs++us.reverse).map V.ref)):=qb;have s7:=((s3.trans s5).trans B).trans L;have ao:=(s5.trans B).trans L
    have hU:All2 (λt g=>upd H6 r4 (.lst ((vs++us.reverse).map V.ref)) t=some (.tup [.str g.1,.str g.2])) (vs++us.reverse) (hdU ss TI):=by
     show All2.app9 (ah.mono λt g z=>L _ _ (B _ _ z)) ?_
     have am:∀{α β:Type} {R:α->β->Prop} {x:List α} {y:List β},All2 R x y->All2 R x.reverse y.reverse:=λ{α β R x y} h=>by
      show⟨by rw[xF,xF,h.len],λk a b ha hb=>?_⟩;have hk:=(yc.mp ha).1;rw[xF] at hk;rw[List.getElem?_reverse hk] at ha;rw[List.getElem?_reverse (by rw[<- h.len];show hk),<- h.len] at hb;show h.at_ _ a b ha hb
     show am (ag.mono λt g z=>ao _ _ z)
    generalize upd H6 r4 (.lst ((vs++us.reverse).map V.ref))=U at L s s7 ao hU;have ak:=s7 _ _ hn;have au:=I.same s7;have ar:=hd_go hO.nd hT
    have af:∀(S:Addr) (ns:LN) (D G:Hp),L2.Same U D->L2.Same D G->Wt cw (qgz D G) S ss ns (hdU ss TI)->Q (.ref S) G:=λS ns D G C s9 hW =>
     q S ns G ((s7.trans C).trans s9) ((hW.same λc o e=>qce ((s7.trans C).free (qbr e).1) (qbr e).2).to (hT.go hO.nd) λ_ _ _ _=>hd_tA)
    apply zT au.1 ?_;apply vI (by decide) ?_;show qga ?_;apply qP (λh=>?_) (λh=>?_)
    .ext;show⟨n,_,rfl,.inl ⟨.of ak,λt1 aa=>?_⟩⟩;have C:=qw (Sr U) (o:=.tup (ss.map V.str)) aa;have v:upd U t1 (.tup (ss.map V.str)) t1=some (.tup (ss.map V.str)):=qb;generalize upd U t1 (.tup (ss.map V.str))=D at C v;apply λS as ad j Z=>?_;show qfw (.inr v) hO ⟨.inl (C _ _ s),hU.mono λt g z=>C _ _ z⟩ ar ad j Z λns G s9 hW=>⟨rfl,af S ns D G C s9 hW⟩
    .ext;show .inl ⟨n,_,rfl,.inl (.of ak),λt1 aa=>?_⟩;have C:=qw (Sr U) (o:=.lst (ss.map V.str)) aa;have v:upd U t1 (.lst (ss.map V.str)) t1=some (.lst (ss.map V.str)):=qb;generalize upd U t1 (.lst (ss.map V.str))=D at C v;apply⟨r4,_,rfl,.inl ⟨.of (C _ _ s),λt2 ay=>?_⟩⟩;have ae:=qw (Sr D) (o:=.tup ((vs++us.reverse).map V.ref)) ay;have an:upd D t2 (.tup ((vs++us.reverse).map V.ref)) t2=some (.tup ((vs++us.reverse).map V.ref)):=qb;have s9:=C.trans ae;generalize upd D t2 (.tup ((vs++us.reverse).map V.ref))=G at ae an s9;apply λS as ad j Z=>?_;show qfw (.inl (ae _ _ v)) hO ⟨.inr an,hU.mono λt g z=>s9 _ _ z⟩ ar ad j Z λns H10 az hW=>⟨rfl,af S ns G H10 s9 az hW⟩
theorem and_or_dis:∀(a b:Nat),a &&& b=0->a+b=a ||| b:=by
 intro a
 induction a using Nat.strongRecOn with
 | ind a ih =>
  intro b h;by_cases d:a=0
  .subst d;simp
  .have c:(a / 2) &&& (b / 2)=0:=by rw[<- Nat.and_div_two,h]
   have e:=ih (a / 2) (by lk) (b / 2) c
   have h1:(a % 2) &&& (b % 2)=0:=by
    have:=congrArg (· % 2) h;simpa [Nat.and_mod_two_pow (n:=1)] using this
   have j:(a ||| b) / 2=a / 2 ||| b / 2:=Nat.or_div_two
   have i:(a ||| b) % 2=(a % 2) ||| (b % 2):=by
    simpa using Nat.or_mod_two_pow (a:=a) (b:=b) (n:=1)
   have g:(a % 2) ||| (b % 2)=a % 2+b % 2:=by
    rcases xq a with x | x<;>rcases xq b with y | y<;>rw[x,y] at h1 ⊢<;>first | rfl | show absurd h1 (by decide)
   have f:=kt (a ||| b) 2;rw[j,i,g,<- e] at f;lk
def bsT(is:LN):Nat:=(is.map λk=>2 ^ k).sum
theorem qaR:∀{is:LN},is.Nodup->∀ k,(bsT is).testBit k=decide (k∈is)
 | [],_,k=>by unfold bsT;simp
 | i::r,nd,k=>by
  obtain⟨c,d⟩:=yn.mp nd;have a:=qaR d;have e:bsT (i::r)=2 ^ i+bsT r:=by unfold bsT;rw[Yk,List.sum_cons]
  have b:2 ^ i &&& bsT r=0:=by
   apply YH;intro j;rw[Nat.testBit_and,xG,Ym,a];by_cases h:i=j
   .subst h;rw[yk c,Yt]
   .rw [yk h,xJ]
  rw[e,and_or_dis _ _ b,xQ,xG,a,yW,YZ,yD,yD,yD,yN];show⟨λz=>z.imp Eq.symm id,λz=>z.imp Eq.symm id⟩
theorem qgA{is:LN}(nd:is.Nodup)(h:∀ k∈is,k<n):bsT is<2 ^ n:=by
 show Xm _ λi a=>?_;rw[qaR nd];show yk λz=>by have:=h i z;lk
theorem qba(r:α->α->Prop)(f:∀ a,¬ r a a)(g:∀ a b,r a b->¬ r b a):∀(l m:List α),l.Pairwise r->m.Pairwise r->(∀ x,x∈l↔x∈m)->l=m
 | [],[],_,_,_=>rfl
 | [],b::m,_,_,h=>by have:=(h b).mpr (yK ..);cases this
 | a::l,[],_,_,h=>by have:=(h a).mp (yK ..);cases this
 | a::l,b::m,hl,hm,h=>by
  have c:=xV.mp hl;have d:=xV.mp hm
  have j:a=b:=by
   rcases yN.mp ((h a).mp (yK ..)) with e | e
   .show e
   .rcases yN.mp ((h b).mpr (yK ..)) with e2 | e2
    .show e2.symm
    .show absurd (d.1 a e) (g _ _ (c.1 b e2))
  subst j
  congr 1
  show qba r f g l m c.2 d.2 λx=>⟨λi=>?_,λi=>?_⟩
  .rcases yN.mp ((h x).mp (yy _ i)) with e | e
   .subst e;show absurd (c.1 x i) (f x)
   .show e
  .rcases yN.mp ((h x).mpr (yy _ i)) with e | e
   .subst e;show absurd (d.1 x i) (f x)
   .show e
theorem qfy{P c:Nat}(h:P<2 ^ n)(hc:P.testBit c=true):c<n:=by
 apply Y6;intro a;rw[Yx (yi h (Yl (by decide) (by lk)))] at hc;cases hc
def adjI(TI:List (Nat×Nat))(a b:Nat):Prop:=(a,b)∈TI\/(b,a)∈TI
def bsN(TI:List (Nat×Nat))(h:Nat):LN:=(TI.filter λp=>decide (h=p.1)||decide (h=p.2)).map λp=>p.1+p.2-h
inductive RI(TI:List (Nat×Nat))(a:Nat):Nat->Prop
 | refl:RI TI a a
 | on {b c:Nat} (h:RI TI a b) (t:adjI TI b c):RI TI a c
def BI(ns:LN)(TI:List (Nat×Nat)):Prop:=∀ a b,(ns.getD a 0).testBit b=true↔adjI TI a b
theorem RI.trans{TI:List (Nat×Nat)}{c:Nat}(h:RI TI a b)(k:RI TI b c):RI TI a c:=by
 induction k with
 | refl=>show h
 | on _ t ih=>show ih.on t
theorem adjI.symm{TI:List (Nat×Nat)}(h:adjI TI a b):adjI TI b a:=Or.symm h
theorem RI.symm{TI:List (Nat×Nat)}(h:RI TI a b):RI TI b a:=by
 induction h with
 | refl=>show .refl
 | on _ t ih=>show(RI.refl.on t.symm).trans ih
section
variable{n:Nat}{TI:List (Nat×Nat)}
theorem TIok.adj(c:TIok n TI)(h:adjI TI a b):a<n/\b<n/\a≠b:=by
 rcases h with h | h<;>have:=c.ok _ h<;>simp only at this<;>lk
theorem zl(d:TIok n TI){h:Nat}:b∈bsN TI h↔adjI TI h b:=by
 unfold bsN;rw[yJ];constructor
 .rintro ⟨p,c,rfl⟩;obtain⟨a,e⟩:=yo.mp c;rw[YZ,yD,yD] at e;rcases e with e | e
  .subst e;rw[show p.1+p.2-p.1=p.2 by lk];show .inl a
  .subst e;rw[show p.1+p.2-p.2=p.1 by lk];show .inr a
 .rintro (k | k)
  .show⟨_,yo.mpr ⟨k,by simp⟩,by show h+b-h=b;lk⟩
  .show⟨_,yo.mpr ⟨k,by simp⟩,by show b+h-h=b;lk⟩
theorem qdF(c:TIok n TI)(h:Nat):(bsN TI h).Nodup:=by
 unfold bsN;show xB.mpr ((c.nd.filter _).imp_of_mem λ{a b} d hb f e=>f ?_);obtain⟨d,g⟩:=yo.mp d;obtain⟨hb,i⟩:=yo.mp hb;have j:=c.ok a d;have l:=c.ok b hb;rw[YZ,yD,yD] at g i;show XF (by lk) (by lk)
theorem qcf(a:TIok n TI)(h:Nat):(bsN TI h).length<=30:=by
 unfold bsN;rw[ya];show yh (yt _ _) a.few
def qO(TI:List (Nat×Nat))(v:Nat):Nat:=bsT (bsN TI v)
theorem jl(a:TIok n TI):(qO TI v).testBit b=true↔adjI TI v b:=by
 unfold qO;rw[qaR (qdF a v),yD,zl a]
theorem qcg(a:TIok n TI)(v:Nat):qO TI v<2 ^ n:=qgA (qdF a v) λk b=>(a.adj ((zl a).mp b)).2.1
theorem BI.col(h:BI ns TI)(a:TIok n TI)(v:Nat):ns.getD v 0=qO TI v:=YH λi=>by
 rw[yW,h v i,jl a]
theorem qeI(c:BI ns TI):Rch ns a b↔RI TI a b:=by
 constructor
 .intro h
  induction h with
  | zero=>show .refl
  | step _ t ih=>show ih.on ((c _ _).mp t)
 .intro h
  induction h with
  | refl=>show .zero
  | on _ t ih=>show .step ih ((c _ _).mpr t)
def nr(TI:List (Nat×Nat))(cl:Nat->Bool)(n s:Nat)(c:Bool):LN:=(List.range n).filter λv=>@decide (RI TI s v/\cl v=c) (Classical.propDecidable _)
theorem nr_mem{c:Bool}:v∈nr TI cl n s c↔v<n/\RI TI s v/\cl v=c:=by
 unfold nr;rw[yo,y7,@decide_eq_true_iff _ (Classical.propDecidable _)]
theorem nr_inc{c:Bool}:(nr TI cl n s c).Pairwise (· < ·):=List.Pairwise.filter _ List.pairwise_lt_range
theorem nr_nd{c:Bool}:(nr TI cl n s c).Nodup:=nr_inc.imp λh e=>by lk
theorem qch{c:Bool}:(nr TI cl n s c).length<=n:=by
 unfold nr;have:=yt (λv=>@decide (RI TI s v/\cl v=c) (Classical.propDecidable _)) (List.range n)
 rwa[Yc] at this
theorem qfz{c:Bool}{l m:LN}(hl:∀ v,v∈l↔v<n/\RI TI s v/\cl v=c)(nd:l.Nodup)(e:m.Perm l)(f:m.Pairwise (·<=·)):m=nr TI cl n s c:=by
 show qba (· < ·) (λa=>Yr a) (λa b h k=>Nat.lt_asymm h k) m _ ?_ nr_inc λx=>?_
 .have d:=(e.nodup_iff).mpr nd;show(List.Pairwise.and f d).imp λ{a b} h=>Nat.lt_of_le_of_ne h.1 h.2
 .rw [e.mem_iff,hl,nr_mem]
end
theorem Wt.bi{TI:List (Nat×Nat)}(W:Wt cw H x ss ns (TI.map (nmP ss)))(d:TIok ss.length TI):BI ns TI:=by
 have f:=W.wok.nd
 have l:∀{i j:Nat},i<ss.length->j<ss.length->((tn ss i,tn ss j)∈TI.map (nmP ss)↔(i,j)∈TI):=λ{i j} o q=>by
  constructor
  .intro h;obtain⟨p,g,e⟩:=yJ.mp h;have k:=d.ok p g;have m:=jR f (i:=p.1) (j:=i) (by lk) o (congrArg Prod.fst e);have n:=jR f (i:=p.2) (j:=j) (by lk) q (congrArg Prod.snd e);rw[<- m,<- n];show g
  .show λh=>yJ.mpr ⟨_,h,rfl⟩
 intro a b;by_cases c:a<ss.length
 .by_cases hb:b<ss.length
  .rw [W.adj a b _ _ (zK c) (zK hb),l c hb,l hb c];show kF
  .show⟨λh=>absurd (qfy (W.wok.lt a) h) hb,λh=>absurd (d.adj h).2.1 hb⟩
 .show⟨λh=>?_,λh=>absurd (d.adj h).1 c⟩;have hl:=W.wok.len;rw[yL,Xz (by lk)] at h;simp at h
def par{α:Type}(l:List α)(p:α->Bool):Bool:=l.foldr (λi b=>p i ^^ b) false
section
variable{α β:Type}
theorem qQ(x:α)(l:List α)(p:α->Bool):par (x::l) p=(p x ^^ par l p):=rfl
theorem qad{l:List α}{p:α->Bool}(h:∀ i∈l,p i=false):par l p=false:=by
 induction l with
 | nil=>rfl
 | cons x l ih=>rw[qQ,h x yK,ih λi a=>h i (yy _ a)];rfl
theorem qB{l:List α}{p q:α->Bool}(h:∀ i∈l,p i=q i):par l p=par l q:=by
 induction l with
 | nil=>rfl
 | cons x l ih=>rw[qQ,qQ,h x yK,ih λi a=>h i (yy _ a)]
theorem qbt(l:List α)(p q:α->Bool):par l (λi=>p i ^^ q i)=(par l p ^^ par l q):=by
 induction l with
 | nil=>rfl
 | cons x l ih=>rw[qQ,qQ,qQ,ih];cases p x<;>cases q x<;>cases par l p<;>cases par l q<;>rfl
theorem qeJ(l:List α)(m:List β)(a:α->β->Bool):par l (λi=>par m (a i))=par m λj=>par l λi=>a i j:=by
 induction l with
 | nil=>show(qad λ_ _=>rfl).symm
 | cons x l ih=>rw[qQ,ih,<- qbt];show qB λj _=>rfl
theorem qcZ(l:List α)(c:Bool)(p:α->Bool):par l (λi=>c&&p i)=(c&&par l p):=by
 cases c with
 | false=>show qad λ_ _=>rfl
 | true=>show qB λ_ _=>rfl
theorem qci{l:List α}(nd:l.Nodup){x:α}(b:x∈l){p:α->Bool}(h:∀ i∈l,i≠x->p i=false):par l p=p x:=by
 induction l with
 | nil=>cases b
 | cons y l ih =>
  obtain⟨c,d⟩:=yn.mp nd;rw[qQ];by_cases e:y=x
  .subst e;rw[qad λi a=>h i (yy _ a) λz=>c (z ▸ a)];cases p y<;>rfl
  .rw [h y yK e,ih d ((yN.mp b).resolve_left (YB e)) λi a=>h i (yy _ a)];cases p x<;>rfl
theorem par_some{l:List α}{p:α->Bool}(h:par l p=true):∃ i∈l,p i=true:=by
 show Y6 λz=>?_;rw[qad λi a=>by cases e:p i with | false=>rfl | true=>show absurd ⟨i,a,e⟩ z] at h;cases h
theorem qd5(l:List α)(p:α->Bool):par l p=decide ((l.filter p).length % 2=1):=by
 induction l with
 | nil=>rfl
 | cons x l ih =>
  rw[qQ,ih,yM];cases p x
  .rw [yC (by decide),Xi]
  .rw [yG rfl,Yd];rcases xq (l.filter p).length with k | k
   .rw [k,show((l.filter p).length+1) % 2=1 by lk];rfl
   .rw [k,show((l.filter p).length+1) % 2=0 by lk];rfl
end
def dot(n:Nat)(T:Nat->Bool)(v:Nat):Bool:=par (List.range n) λb=>T b&&v.testBit b
theorem qfA(n:Nat)(T:Nat->Bool)(v w:Nat):dot n T (v ^^^ w)=(dot n T v ^^ dot n T w):=by
 unfold dot;rw[<- qbt];show qB λb _=>?_;rw[Yb];cases T b<;>cases v.testBit b<;>cases w.testBit b<;>rfl
theorem qfB(n:Nat)(T U:Nat->Bool)(v:Nat):dot n (λb=>T b ^^ U b) v=(dot n T v ^^ dot n U v):=by
 unfold dot;rw[<- qbt];show qB λb _=>?_;show((T b ^^ U b)&&_)=_;cases T b<;>cases U b<;>cases v.testBit b<;>rfl
theorem dot_sb(n:Nat)(T:Nat->Bool):Sb λv=>dot n T v=false:=
 ⟨qad λb _=>by rw[Ym];cases T b<;>rfl,λx y a c=>by rw[qfA,a,c];rfl⟩
theorem qhC:∀{L:LN} {g:Nat},g<2 ^ n->(∀ v∈L,v<2 ^ n)->¬ Spn L g->∃ T:Nat->Bool,(∀ v∈L,dot n T v=false)/\dot n T g=true
 | [],g,hg,_,h=>by
  obtain⟨b,hb⟩:∃ b,g.testBit b=true:=Y6 λz=>h (YH λi=>by
   rw[Ym]
   cases e:g.testBit i with
   | false=>rfl
   | true=>show absurd ⟨i,e⟩ z)
  show⟨λi=>decide (i=b),λv hv=>by(cases hv),?_⟩;unfold dot;rw[qci List.nodup_range (x:=b) (y7.mpr (qfy hg hb)) λi _ ne=>by show(decide (i=b)&&_)=_;rw[yk ne];rfl];show(decide (b=b)&&_)=_;rw[yw rfl,hb];rfl
 | x::L,g,hg,hL,h=>by
  have q:=hL x yK;have c:∀ v∈L,v<2 ^ n:=λv hv=>hL v (yy _ hv);have h1:¬ Spn L g:=λz=>h (.inl z);have p:¬ Spn L (g ^^^ x):=λz=>h (.inr z);obtain⟨T,j,l⟩:=qhC hg c h1;obtain⟨U,m,a⟩:=qhC (XY hg q) c p;rw[qfA] at a
  cases f:dot n T x with
  | false =>
   show⟨T,λv hv=>?_,l⟩;rcases yN.mp hv with z | z
   .rw [z];show f
   .show j v z
  | true =>
   cases d:dot n U x with
   | false =>
    rw[d,Yp] at a;show⟨U,λv hv=>?_,a⟩;rcases yN.mp hv with z | z
    .rw [z];show d
    .show m v z
   | true =>
    rw[d,kc] at a;show⟨λb=>T b ^^ U b,λv hv=>?_,?_⟩
    .rw [qfB];rcases yN.mp hv with z | z
     .rw [z,f,d];rfl
     .rw [j v z,m v z];rfl
    .rw [qfB,l]
     cases o:dot n U g with
     | false=>rfl
     | true=>rw[o] at a;cases a
theorem qbK{f:Nat->Nat}:∀{l:LN} {g:Nat},l.Nodup->Spn (l.map f) g->∃ x:Nat->Bool,∀ b,g.testBit b=par l λv=>x v&&(f v).testBit b
 | [],g,_,h=>⟨λ_=>false,λb=>by rw[show g=0 from h,Ym];rfl⟩
 | a::l,g,nd,h=>by
  obtain⟨d,i⟩:=yn.mp nd;rcases h with h | h
  .obtain⟨x,c⟩:=qbK i h;show⟨λv=>x v&&!decide (v=a),λb=>?_⟩;show _=((x a&&!decide (a=a)&&_) ^^ par l _);rw[c b,yw rfl,Bool.not_true,Yt,xJ,Xi];show qB λv hv=>?_;show _=((x v&&!decide (v=a))&&_);rw[yk (show ¬ v=a from λz=>d (z ▸ hv))];cases x v<;>rfl
  .obtain⟨x,c⟩:=qbK i h;show⟨λv=>x v||decide (v=a),λb=>?_⟩;have k:=c b;rw[Yb] at k;show _=(((x a||decide (a=a))&&_) ^^ par l λv=>(x v||decide (v=a))&&(f v).testBit b);rw[yw rfl,Bool.or_true,xn];have e:(par l λv=>(x v||decide (v=a))&&(f v).testBit b)=par l λv=>x v&&(f v).testBit b:=qB λv hv=>by rw[yk (show ¬ v=a from λz=>d (z ▸ hv)),Xq]
   rw[e,<- k];cases g.testBit b<;>cases (f a).testBit b<;>rfl
theorem qc0{f:Nat->Nat}{x:Nat->Bool}:∀{l:LN} {g:Nat},(∀ b,g.testBit b=par l λv=>x v&&(f v).testBit b)->Spn (l.map f) g
 | [],g,h=>YH λb=>by rw[h b,Ym];rfl
 | a::l,g,h=>by
  cases e:x a with
  | false =>
   show .inl (qc0 (x:=x) λb=>?_);rw[h b,qQ,e,xJ,Xi]
  | true =>
   show .inr (qc0 (x:=x) λb=>?_);rw[Yb,h b,qQ,e,xn];cases (f a).testBit b<;>cases par l _<;>rfl
def oth(TI:List (Nat×Nat))(cl:Nat->Bool)(n s:Nat):LN:=(nr TI cl n s (cl s)).filter λv=>!decide (v=s)
def Lst(TI:List (Nat×Nat))(cl:Nat->Bool)(n s:Nat):Prop:=Spn ((oth TI cl n s).map (qO TI)) (qO TI s)
def rmT(TI:List (Nat×Nat))(s p:Nat):List (Nat×Nat):=TI.filter λq=>!decide (q=(min p s,max p s))
theorem qbu(l:List α)(q p:α->Bool):par (l.filter q) p=par l λi=>q i&&p i:=by
 induction l with
 | nil=>rfl
 | cons x l ih =>
  rw[yM,qQ,<- ih];cases q x
  .rw [yC (by decide),xJ,Xi]
  .rw [yG rfl,xn,qQ]
theorem qbv{l:LN}{q:Nat->Bool}(nd:l.Nodup)(hl:∀ v∈l,v<n)(h:∀ v,v<n->q v=true->v∈l):par l q=par (List.range n) q:=by
 have e:par l q=par (l.filter q) λ_=>true:=by rw[qbu];show qB λi _=>by cases q i<;>rfl
 have a:par (List.range n) q=par ((List.range n).filter q) λ_=>true:=by rw[qbu];show qB λi _=>by cases q i<;>rfl
 rw[e,a]
 have:(l.filter q).Perm ((List.range n).filter q):=by
  show(Xj (nd.filter _) (List.nodup_range.filter _)).mpr λv=>?_;rw[yo,yo,y7];show⟨λz=>⟨hl v z.1,z.2⟩,λz=>⟨h v z.1 z.2,z.2⟩⟩
 rw[qd5,qd5,(this.filter _).length_eq]
section
variable{n:Nat}{TI:List (Nat×Nat)}{cl:Nat->Bool}{s p:Nat}
theorem oth_mem:v∈oth TI cl n s↔(v<n/\RI TI s v/\cl v=cl s)/\v≠s:=by
 unfold oth;rw[yo,nr_mem];simp
theorem qeK:(oth TI cl n s).Nodup:=nr_nd.filter _
theorem qdG(a:TIok n TI):TIok n (rmT TI s p):=a.filter _
theorem qcj(c:TIok n TI):adjI (rmT TI s p) a b↔adjI TI a b/\¬ (a=s/\b=p)/\¬ (a=p/\b=s):=by
 have m:∀ x y,(x,y)∈rmT TI s p↔(x,y)∈TI/\¬ (x=s/\y=p)/\¬ (x=p/\y=s):=λx y=>by
  unfold rmT;rw[yo];show and_congr_right λh=>?_;have k:x<y:=(c.ok _ h).1;rw[YF,Yn,X9];lk
 unfold adjI;rw[m,m];constructor
 .rintro (⟨h,k⟩ | ⟨h,k⟩)
  .show⟨.inl h,k⟩
  .show⟨.inr h,λz=>k.2 z.symm,λz=>k.1 z.symm⟩
 .rintro ⟨h | h,k⟩
  .show .inl ⟨h,k⟩
  .show .inr ⟨h,λz=>k.2 z.symm,λz=>k.1 z.symm⟩
theorem qc1(c:TIok n TI)(a b:Nat):(qO TI a).testBit b=(qO TI b).testBit a:=by
 rw[yW,jl c,jl c];show⟨adjI.symm,adjI.symm⟩
theorem qfC(a:TIok n TI)(b:adjI TI s p){f:Nat}(h:¬ (v=p/\f=s)):(qO TI v).testBit f=((qO (rmT TI s p) v).testBit f ^^ (decide (v=s)&&decide (f=p))):=by
 have e:(qO (rmT TI s p) v).testBit f=true↔(qO TI v).testBit f=true/\¬ (v=s/\f=p):=by
  rw[jl (qdG a),jl a,qcj a];show⟨λz=>⟨z.1,z.2.1⟩,λz=>⟨z.1,z.2,h⟩⟩
 by_cases k:v=s/\f=p
 .obtain⟨rfl,rfl⟩:=k;have c:(qO TI v).testBit f=true:=(jl a).mpr b
  have d:(qO (rmT TI v f) v).testBit f=false:=by
   cases z:(qO (rmT TI v f) v).testBit f with
   | false=>rfl
   | true=>show absurd ⟨rfl,rfl⟩ (e.mp z).2
  rw[c,d,yw rfl,yw rfl];rfl
 .have g:(decide (v=s)&&decide (f=p))=false:=by
   rw[<- Bool.decide_and,yk k]
  rw[g,Yp,yW,e];show⟨λz=>⟨z,k⟩,λz=>z.1⟩
theorem RI.rm(c:TIok n TI)(h:RI (rmT TI s p) a b):RI TI a b:=by
 induction h with
 | refl=>show .refl
 | on _ t ih=>show ih.on ((qcj c).mp t).1
theorem lost_no(j:TIok n TI)(B:∀ a b,adjI TI a b->cl b=!cl a)(d:adjI TI s p)(h1:Lst TI cl n s)(A:Lst (rmT TI s p) cl n p):False:=by
 obtain⟨x,D⟩:=qbK qeK h1;obtain⟨y,E⟩:=qbK qeK A;have c:cl p≠cl s:=by rw[B _ _ d];cases cl s<;>decide
 let X:=λv=>decide (v=s)||x v;let Y:=λv=>decide (v=p)||y v;have l:X s=true:=by show(decide (s=s)||_)=true;rw[yw rfl];rfl
 have m:Y p=true:=by show(decide (p=p)||_)=true;rw[yw rfl];rfl
 have F:∀ v∈oth TI cl n s,X v=x v:=λv hv=>by
  show(decide (v=s)||_)=_;rw[yk (oth_mem.mp hv).2];rfl
 have G:∀ v∈oth (rmT TI s p) cl n p,Y v=y v:=λv hv=>by
  show(decide (v=p)||_)=_;rw[yk (oth_mem.mp hv).2];rfl
 have H:∀ f,par (s::oth TI cl n s) (λv=>X v&&(qO TI v).testBit f)=false:=λf=>by
  rw[qQ,l,xn,D f,qB (p:=λv=>X v&&(qO TI v).testBit f) (q:=λv=>x v&&(qO TI v).testBit f) λv hv=>by show(X v&&_)=_;rw[F v hv]];cases par (oth TI cl n s) _<;>rfl
 have I:∀ v,par (p::oth (rmT TI s p) cl n p) (λf=>Y f&&(qO (rmT TI s p) f).testBit v)=false:=λv=>by
  rw[qQ,m,xn,E v,qB (p:=λf=>Y f&&(qO (rmT TI s p) f).testBit v) (q:=λf=>y f&&(qO (rmT TI s p) f).testBit v) λf C=>by show(Y f&&_)=_;rw[G f C]];cases par (oth (rmT TI s p) cl n p) _<;>rfl
 have e:par (p::oth (rmT TI s p) cl n p) (λf=>Y f&&par (s::oth TI cl n s) λv=>X v&&(qO TI v).testBit f)=false:=qad λf _=>by rw[H f,Yt]
 have i:par (s::oth TI cl n s) (λv=>X v&&par (p::oth (rmT TI s p) cl n p) λf=>Y f&&(qO (rmT TI s p) f).testBit v)=false:=qad λv _=>by rw[I v,Yt]
 have r:par (p::oth (rmT TI s p) cl n p) (λf=>Y f&&par (s::oth TI cl n s) λv=>X v&&(qO TI v).testBit f)=par (s::oth TI cl n s) λv=>par (p::oth (rmT TI s p) cl n p) λf=>(X v&&Y f)&&(qO TI v).testBit f:=by
  rw[<- qeJ];show qB λf _=>?_;rw[<- qcZ];show qB λv _=>by cases X v<;>cases Y f<;>rfl
 have t:par (s::oth TI cl n s) (λv=>X v&&par (p::oth (rmT TI s p) cl n p) λf=>Y f&&(qO (rmT TI s p) f).testBit v)=par (s::oth TI cl n s) λv=>par (p::oth (rmT TI s p) cl n p) λf=>(X v&&Y f)&&(qO (rmT TI s p) v).testBit f:=by
  show qB λv _=>?_;rw[<- qcZ];show qB λf _=>by rw[qc1 (qdG j)];cases X v<;>cases Y f<;>rfl
 rw[r] at e;rw[t] at i
 have o:∀ v∈s::oth TI cl n s,v≠p:=λv hv z=>by
  subst z;rcases yN.mp hv with k | k
  .show c (by rw[k])
  .show c (oth_mem.mp k).1.2.2
 have u:(par (s::oth TI cl n s) λv=>par (p::oth (rmT TI s p) cl n p) λf=>(X v&&Y f)&&(qO TI v).testBit f)=(par (s::oth TI cl n s) (λv=>par (p::oth (rmT TI s p) cl n p) λf=>(X v&&Y f)&&(qO (rmT TI s p) v).testBit f) ^^ par (s::oth TI cl n s) λv=>par (p::oth (rmT TI s p) cl n p) λf=>(X v&&Y f)&&(decide (v=s)&&decide (f=p))):=by
  rw[<- qbt];show qB λv hv=>?_;rw[<- qbt];show qB λf _=>?_;rw[qfC j d λz=>o v hv z.1];cases X v<;>cases Y f<;>rfl
 have g:(s::oth TI cl n s).Nodup:=yn.mpr ⟨λz=>(oth_mem.mp z).2 rfl,qeK⟩;have h:(p::oth (rmT TI s p) cl n p).Nodup:=yn.mpr ⟨λz=>(oth_mem.mp z).2 rfl,qeK⟩
 have w:(par (s::oth TI cl n s) λv=>par (p::oth (rmT TI s p) cl n p) λf=>(X v&&Y f)&&(decide (v=s)&&decide (f=p)))=true:=by
  rw[qci g (x:=s) yK λv _ ne=>qad λf _=>by rw[yk ne,xJ,Yt],qci h (x:=p) yK λf _ ne=>by rw[yk ne,Yt,Yt],l,m,yw rfl,yw rfl];rfl
 rw[u,i,w] at e;cases e
theorem qck(a:TIok n TI)(h:¬ Lst TI cl n s):∃ T:Nat->Bool,(∀ v∈oth TI cl n s,dot n T (qO TI v)=false)/\dot n T (qO TI s)=true:=by
 obtain⟨T,h1,b⟩:=qhC (qcg a s) (λv hv=>by obtain⟨w,_,rfl⟩:=yJ.mp hv;show qcg a w) h;show⟨T,λv hv=>h1 _ (yJ.mpr ⟨v,hv,rfl⟩),b⟩
theorem lost_yes(l:TIok n TI)(t:∀ a b,adjI TI a b->cl b=!cl a)(h:¬ Lst TI cl n s):∃ p,adjI TI s p/\Lst (rmT TI s p) cl n p:=by
 obtain⟨T,I,C⟩:=qck l h;obtain⟨p,B,e⟩:=par_some C;rw[y1] at e;obtain⟨D,e⟩:=e;have i:=(jl l).mp e;have u:=y7.mp B;have q:cl p=!cl s:=t _ _ i;have d:=qdG (s:=s) (p:=p) l;show⟨p,i,Y6 λz=>?_⟩;obtain⟨U,J,K⟩:=qck d z
 have A:par (nr (rmT TI s p) cl n p (cl p)) (λf=>T f&&dot n U (qO (rmT TI s p) f))=true:=by
  rw[qci nr_nd (x:=p) (nr_mem.mpr ⟨u,.refl,rfl⟩) λf j ne=>?_,D,K]
  .rfl
  .rw [J f (oth_mem.mpr ⟨nr_mem.mp j,ne⟩),Yt]
 have E:par (nr (rmT TI s p) cl n p (cl p)) (λf=>T f&&dot n U (qO (rmT TI s p) f))=par (List.range n) λv=>U v&&par (nr (rmT TI s p) cl n p (cl p)) λf=>T f&&(qO (rmT TI s p) f).testBit v:=by
  have:∀ f,(T f&&dot n U (qO (rmT TI s p) f))=par (List.range n) λv=>U v&&(T f&&(qO (rmT TI s p) f).testBit v):=λf=>by
   unfold dot;rw[<- qcZ];show qB λv _=>by cases U v<;>cases T f<;>rfl
  rw[qB λf _=>this f,qeJ];show qB λv _=>qcZ _ _ _
 rw[E,qad λv hv=>?_] at A
 .cases A
 .have y:=y7.mp hv
  suffices g:(par (nr (rmT TI s p) cl n p (cl p)) λf=>T f&&(qO (rmT TI s p) f).testBit v)=false by rw[g,Yt]
  by_cases c:cl v=cl p
  .show qad λf j=>?_
   cases k:(qO (rmT TI s p) f).testBit v with
   | false=>show Yt _
   | true =>
    have:=t _ _ ((qcj l).mp ((jl d).mp k)).1;rw[c,(nr_mem.mp j).2.2] at this;cases h:cl p<;>rw[h] at this<;>cases this
  .have r:cl v=cl s:=by
    rw[q] at c;cases h1:cl v<;>cases H:cl s<;>rw[h1,H] at c<;>first | rfl | show absurd rfl c
   by_cases w:RI (rmT TI s p) p v
   .have F:(par (nr (rmT TI s p) cl n p (cl p)) λf=>T f&&(qO (rmT TI s p) f).testBit v)=dot n T (qO (rmT TI s p) v):=by
     unfold dot;rw[<- qbv (n:=n) nr_nd (λf j=>(nr_mem.mp j).1) λf j k=>?_]
     .show qB λf _=>by rw[qc1 d]
     .rw [y1] at k;have a:=(jl d).mp k.2;show nr_mem.mpr ⟨j,w.on a,?_⟩;rw[t _ _ ((qcj l).mp a).1,r,q]
    rw[F];by_cases m:v=s
    .subst m
     have o:dot n T (qO TI v)=(dot n T (qO (rmT TI v p) v) ^^ T p):=by
      unfold dot
      have G:T p=par (List.range n) λb=>T b&&decide (b=p):=by
       rw[qci List.nodup_range B λb _ ne=>by rw[yk ne,Yt],yw rfl,ke]
      conv=>rhs;arg 2;rw[G]
      rw[<- qbt];show qB λb _=>?_;rw[qfC l i λz=>c (by rw[z.1]),yw rfl,xn];cases T b<;>rfl
     rw[C,D] at o
     cases h:dot n T (qO (rmT TI v p) v) with
     | false=>rfl
     | true=>rw[h] at o;cases o
    .have o:qO (rmT TI s p) v=qO TI v:=YH λb=>by
      rw[qfC l i (v:=v) (f:=b) λz=>c (by rw[z.1]),yk m,xJ,Yp]
     rw[o];show I v (oth_mem.mpr ⟨⟨y,(RI.refl.on i).trans (w.rm l),r⟩,m⟩)
   .show qad λf j=>?_
    cases k:(qO (rmT TI s p) f).testBit v with
    | false=>show Yt _
    | true=>show absurd ((nr_mem.mp j).2.1.on ((jl d).mp k)) w
theorem far_spn(g:TIok n TI)(i:∀ a b,adjI TI a b->cl b=!cl a)(o:s<n)(h:¬ Lst TI cl n s):Spn ((nr TI cl n s (!cl s)).map (qO TI)) (1 <<< s):=by
 obtain⟨T,l,m⟩:=qck g h;show qc0 (x:=T) λb=>?_;rw[qbq]
 have e:∀ b,cl b=cl s->RI TI s b->(par (nr TI cl n s (!cl s)) λf=>T f&&(qO TI f).testBit b)=dot n T (qO TI b):=λb hb j=>by
  unfold dot;rw[<- qbv (n:=n) nr_nd (λf d=>(nr_mem.mp d).1) λf d k=>?_]
  .show qB λf _=>by rw[qc1 g]
  .rw [y1] at k;have a:=(jl g).mp k.2;show nr_mem.mpr ⟨d,j.on a,by rw[i _ _ a,hb]⟩
 by_cases c:b=s
 .subst c;rw[e b rfl .refl,m,yw rfl]
 .rw [yk c];by_cases hb:b∈oth TI cl n s
  .have k:=oth_mem.mp hb;rw[e b k.1.2.2 k.1.2.1,l b hb]
  .show(qad λf d=>?_).symm
   cases k:(qO TI f).testBit b with
   | false=>show Yt _
   | true =>
    have a:=(jl g).mp k;show absurd (oth_mem.mpr ⟨⟨(g.adj a).2.1,(nr_mem.mp d).2.1.on a,?_⟩,c⟩) hb;rw[i _ _ a,(nr_mem.mp d).2.2,Bool.not_not]
end
theorem qhZ(h:v<2 ^ n):Bnd 0 n v:=λi a=>⟨YM _,by have:=qfy h a;lk⟩
theorem qbb:∀(n b:Nat),swp n b []=0
 | 0,_=>rfl
 | n+1,b=>by show swp n (b+1) []=0;show qbb n (b+1)
theorem spn_same(h:∀ x,x∈L↔x∈M)(x:Nat):Spn L x↔Spn M x:=
 ⟨λz=>zF (j3 M) (λa b=>jY ((h a).mp b)) x z,λz=>zF (j3 L) (λa b=>jY ((h a).mpr b)) x z⟩
open Classical in
theorem qd6{x:Nat}(b:∀ v∈L,v<2 ^ n)(d:x<2 ^ n):swp n 0 (L++[x])=swp n 0 L+if Spn L x then 0 else 1:=by
 rw[qao,qao,zG λv=>qb3];show qeC n 0 (j3 L) (zF qgo λa c=>qhZ (b a c)) (qhZ d)
theorem qfD(b:n<=30)(a:∀ v∈L,v<2 ^ n):swp n 0 L=rk L:=by
 have key:∀ k,k<=L.length->swp n 0 (L.take k)=rk (L.take k):=λk=>by
  induction k with
  | zero=>intro _;rw[Xw,qbb];show(qbb 30 0).symm
  | succ k ih =>
   intro c;have e:L[k]?=some L[k]:=yb (by lk);have big:∀ v,v<2 ^ n->v<2 ^ 30:=λv h=>yi h (Yl (by decide) b);rw[yA,e];show swp n 0 (L.take k++[_])=rk (L.take k++[_]);rw[qd6 (λv hv=>a v (Yv hv)) (a _ (Yz _)),qdw (λv hv=>big v (a v (Yv hv))) (big _ (a _ (Yz _))),ih (by lk)]
 have:=key L.length (yg _)
 rwa[yv] at this
theorem qdH(b:∀ v∈L,v<2 ^ 30):(qap L).length=rk L:=by
 have key:∀ k,k<=L.length->((List.range k).filter λi=>decide (rk (L.take i)<rk (L.take (i+1)))).length=rk (L.take k):=λk=>by
  induction k with
  | zero=>intro _;rw[Xw];show(qbb 30 0).symm
  | succ k ih =>
   intro c;have e:L.take (k+1)=L.take k++[L[k]]:=by rw[yA,yb (by lk)];rfl
   have a:=qdw (L:=L.take k) (x:=L[k]) (λv hv=>b v (Yv hv)) (b _ (Yz _));rw[YR,yQ,yu,ih (by lk),e,yM];by_cases z:rk (L.take k)<rk (L.take k++[L[k]])
   .rw [e,yw z,yG rfl];split at a<;>simp only[xj,Yd,YY]<;>lk
   .rw [e,yk z,yC (by decide)];split at a<;>simp only[xj,YY]<;>lk
 unfold qap;rw[key L.length (yg _),yv]
theorem qdI(b:∀ v∈L,v<2 ^ 30)(c:i<L.length):i∉qap L↔Spn (L.take i) L[i]:=by
 have e:L.take (i+1)=L.take i++[L[i]]:=by rw[yA,yb c];rfl
 have a:=qdw (L:=L.take i) (x:=L[i]) (λv hv=>b v (Yv hv)) (b _ (Yz _));unfold qap;rw[yo,y7,yD,e];by_cases z:Spn (L.take i) L[i]
 .rw [yG z] at a;show⟨λ_=>z,λ_ k=>by lk⟩
 .rw [yC z] at a;show⟨λk=>absurd ⟨c,by lk⟩ k,λk=>absurd k z⟩
def qcs(L:LN):LN:=(List.range L.length).filter λi=>!decide (i∈qap L)
theorem bnds_len(a:∀ v∈L,v<2 ^ 30):(qcs L).length=L.length-rk L:=by
 have key:∀ k,k<=L.length->((List.range k).filter λi=>!decide (i∈qap L)).length+((List.range k).filter λi=>decide (i∈qap L)).length=k:=λk=>by
  induction k with
  | zero=>intro _;rfl
  | succ k ih =>
   intro c;have:=ih (by lk);rw[YR,yQ,yQ,yu,yu,yM,yM];cases decide (k∈qap L)<;>simp<;>lk
 have e:((List.range L.length).filter λi=>decide (i∈qap L))=qap L:=by
  unfold qap;show YD λi b=>?_;rw[yW,yD,yo,yD];show⟨λz=>z.2,λz=>⟨b,z⟩⟩
 have:=key L.length (yg _);rw[e,qdH a] at this;unfold qcs;lk
def Rise(N T:LN):Prop:=N.length=T.length/\T.Pairwise (· < ·)/\∀(i x t:Nat),N[i]?=some x->T[i]?=some t->x.testBit t=true/\∀ j,t<j->x.testBit j=false
theorem Rise.out{N:LN}(h:Rise N T){x t:Nat}(f:∀ u∈T,u<t)(g:x.testBit t=true):¬ Spn N x:=λz=>by
 have:=zF (qfk t) (L:=N) (λa e=>?_) x z
 .rw [g] at this;cases this
 .obtain⟨i,b⟩:=Y9 e;have hl:=(yc.mp b).1;have d:i<T.length:=by rw[<- h.1];show hl
  have c:T[i]?=some T[i]:=yb d;show(h.2.2 i a _ b c).2 t (f _ (Yz _))
theorem Rise.take{N:LN}(h:Rise N T)(k:Nat):Rise (N.take k) (T.take k):=
 ⟨by rw[yH,yH,h.1],h.2.1.sublist (Xs _ _),λi x t a b=>by
  rw[XZ] at a b;split at a
  .rw [yG (by assumption)] at b;show h.2.2 i x t a b
  .cases a⟩
theorem Rise.below{N:LN}(h:Rise N T){k:Nat}(b:k<T.length):∀ u∈T.take k,u<T[k]:=λu c=>by
 obtain⟨i,a⟩:=Y9 c;rw[XZ] at a;split at a
 .next hik =>
  obtain⟨hl,e⟩:=yc.mp a;rw[<- e];show Yg.mp h.2.1 i k hl b hik
 .cases a
theorem Rise.rank{N:LN}(h:Rise N T)(b:∀ v∈N,v<2 ^ n):swp n 0 N=N.length:=by
 have key:∀ k,k<=N.length->swp n 0 (N.take k)=k:=λk=>by
  induction k with
  | zero=>intro _;rw[Xw,qbb]
  | succ k ih =>
   intro c;have e:N.take (k+1)=N.take k++[N[k]]:=by rw[yA,yb (by lk)];rfl
   have a:k<T.length:=by rw[<- h.1];lk
   rw[e,qd6 (λv hv=>b v (Yv hv)) (b _ (Yz _)),ih (by lk),yC];show(h.take k).out (h.below a) (h.2.2 k _ _ (yb (by lk)) (yb a)).1
 have:=key N.length (yg _)
 rwa[yv] at this
theorem qd7:∀(L M:LN) (k c:Nat),csm (L++M) k c=csm L k c ^^^ csm M (k+L.length) c
 | [],M,k,c=>by rw[show csm ([]++M) k c=csm M k c from rfl,show csm [] k c=0 from rfl,YJ];rfl
 | a::L,M,k,c=>by
  have b:=qd7 L M (k+1) c;show(_ ^^^ csm (L++M) (k+1) c)=(_ ^^^ csm L (k+1) c) ^^^ csm M (k+(L.length+1)) c;rw[b,qV,show k+1+L.length=k+(L.length+1) by lk]
theorem qfE{V:Nat->Prop}(S:Sb V):∀{L:LN} (k c:Nat),(∀ a∈L,V a)->V (csm L k c)
 | [],k,c,_=>S.z
 | a::L,k,c,h=>by
  show V ((if c.testBit k=true then a else 0) ^^^ csm L (k+1) c);show S.a _ _ ?_ (qfE S (k+1) c λb hb=>h b (yy _ hb));split
  .show h a yK
  .show S.z
theorem Rise.inj{N:LN}(h:Rise N T){c d:Nat}(hc:c<2 ^ N.length)(x:d<2 ^ N.length)(e:csm N 0 c=csm N 0 d):c=d:=by
 have key:∀ k,k<=N.length->csm (N.take k) 0 (c ^^^ d)=0->∀ i,i<k->(c ^^^ d).testBit i=false:=λk=>by
  induction k with
  | zero=>intro _ _ i n;lk
  | succ k ih =>
   intro y p i n;have s:N.take (k+1)=N.take k++[N[k]]:=by rw[yA,yb (by lk)];rfl
   have g:k<T.length:=by rw[<- h.1];lk
   rw[s,qd7,yH,xY (by lk),YS] at p
   have l:(csm (N.take k) 0 (c ^^^ d)).testBit T[k]=false:=qfE (qfk T[k]) 0 _ λa w=>by
    obtain⟨j,q⟩:=Y9 w;have hl:=(yc.mp q).1;have u:j<(T.take k).length:=by rw[<- (h.take k).1];show hl
    have t:(T.take k)[j]?=some (T.take k)[j]:=yb u;show((h.take k).2.2 j a _ q t).2 _ (h.below g _ (Yz _))
   have f:(c ^^^ d).testBit k=false:=by
    cases b:(c ^^^ d).testBit k with
    | false=>rfl
    | true =>
     have z:=congrArg (λv=>v.testBit T[k]) p
     have m:csm [N[k]] k (c ^^^ d)=N[k]:=by
      show((if (c ^^^ d).testBit k=true then _ else 0) ^^^ 0)=_;rw[b,yG rfl];show YQ _
     simp only[Yb,l,m,Ym,Xi] at z;rw[(h.2.2 k _ _ (yb (by lk)) (yb g)).1] at z;cases z
   by_cases o:i=k
   .rw [o];show f
   .show ih (by lk) ?_ i (by lk)
    have m:csm [N[k]] k (c ^^^ d)=0:=by
     show((if (c ^^^ d).testBit k=true then _ else 0) ^^^ 0)=_;rw[f,yC (by decide)];rfl
    rwa[m,YQ] at p
 have z:csm N 0 (c ^^^ d)=0:=by rw[qcQ,e,qan]
 have k:=key N.length (yg _) (by rwa[yv])
 have r:c ^^^ d=0:=YH λi=>by
  rw[Ym];by_cases n:i<N.length
  .show k i n
  .show Yx (yi (XY hc x) (Yl (by decide) (by lk)))
 have:=jy c d;rw[r,YJ] at this;show this.symm
section
variable{n:Nat}{TI:List (Nat×Nat)}{cl:Nat->Bool}{s:Nat}
theorem qeL(a:TIok n TI)(b:s<n):swp n 0 ((nr TI cl n s (cl s)).map (qO TI))=swp n 0 ((oth TI cl n s).map (qO TI))↔Lst TI cl n s:=by
 have e:swp n 0 ((nr TI cl n s (cl s)).map (qO TI))=swp n 0 ((oth TI cl n s).map (qO TI)++[qO TI s]):=by
  rw[qao,qao];show zG λv=>spn_same (λx=>?_) v;rw[yJ,yO,yJ,yx];constructor
  .rintro ⟨v,hv,rfl⟩;by_cases h:v=s
   .rw [h];show .inr rfl
   .show .inl ⟨v,oth_mem.mpr ⟨nr_mem.mp hv,h⟩,rfl⟩
  .rintro (⟨v,hv,rfl⟩ | rfl)
   .show⟨v,nr_mem.mpr (oth_mem.mp hv).1,rfl⟩
   .show⟨s,nr_mem.mpr ⟨b,.refl,rfl⟩,rfl⟩
 rw[e,qd6 (λv hv=>by obtain⟨w,_,rfl⟩:=yJ.mp hv;show qcg a w) (qcg a s)];unfold Lst;by_cases z:Spn ((oth TI cl n s).map (qO TI)) (qO TI s)
 .rw [yG z];show⟨λ_=>z,λ_=>rfl⟩
 .rw [yC z];show⟨λk=>by lk,λk=>absurd k z⟩
end
theorem uR:FnScope wqh wqh (qf zL):=fS
theorem Kj:FnScope ["_law_ties","_law_start","_law_side","_law_line","_law_here","_law_other"] wqb (qf qbc):=fS
theorem qfF{a b:Addr}(c:H a=some (.lst xs))(hb:H b=some (.lst [])):EqT K H 1 a b xs.isEmpty:=by
 cases xs with
 | nil=>show EqT.lst (n:=0) (e:=λ_=>true) (SqL.of c) (SqL.of hb) rfl λj x y h=>by(simp at h)
 | cons x r=>show EqT.lstL (SqL.of c) (SqL.of hb) (by simp)
theorem qeM{a b:Addr}{Q:VK}(c:H a=some (.lst xs))(hb:H b=some (.lst []))(q:Q (.bl (!xs.isEmpty)) H):qeX K true (.ref a) (.ref b) H Q:=
 .inr (.inl ⟨a,b,_,1,rfl,rfl,by decide,qfF c hb,q⟩)
theorem qcE{l:LN}(nd:l.Nodup)(h:∀ v∈l,v<n):l.length<=n:=by
 have e:l.Perm ((List.range n).filter λv=>decide (v∈l)):=(Xj nd (List.nodup_range.filter _)).mpr λv=>by
  rw[yo,y7,yD];show⟨λz=>⟨h v z,z⟩,λz=>z.2⟩
 rw[e.length_eq];have:=yt (λv=>decide (v∈l)) (List.range n)
 rwa[Yc] at this
inductive spBeI(vs:List V)(H:Hp)(Q:VK)(E:XK):Prop|mk (l:Addr) (ts:LI) (TI:List (Nat×Nat)) (h n:Nat) (_:vs=[.ref l,iv h]) (_:IPL H l ts TI) (_:TIok n TI) (_:∀(b:Addr) (H':Hp),L2.Same H H'->H b=none->H' b=some (.lst (ivs (bsN TI h)))->Q (.ref b) H')
def sdK(cl:Nat->Bool)(s:Nat)(a:LN):List (Key×V):=a.map λ(v:Nat)=>((Sum.inl (v:Int):Key),iv (if cl v=cl s then 0 else 1))
theorem qcF(cl:Nat->Bool)(s:Nat)(v:Nat):∀ a:LN,zQ (sdK cl s a) (Sum.inl (v:Int):Key)=if v∈a then some (iv (if cl v=cl s then 0 else 1)) else none
 | []=>rfl
 | u::a=>by
  have b:=qcF cl s v a;unfold sdK at b ⊢;unfold zQ at b ⊢;rw[Yk,xi];by_cases h:u=v
  .subst h;rw[yw rfl,yG yK];rfl
  .have ne:¬ (Sum.inl (u:Int):Key)=Sum.inl (v:Int):=λe=>h (by have:=Sum.inl.inj e;lk);rw[yk ne];by_cases c:v∈a
   .rw [yG c] at b;rw[yG (yy _ c)];show b
   .rw [yC c] at b;rw[yC (λz=>c ((yN.mp z).resolve_left (YB h)))];show b
theorem sd_put{a:LN}(h:v∉a):qbn (sdK cl s a) (Sum.inl (v:Int):Key) (iv (if cl v=cl s then 0 else 1))=sdK cl s (a++[v]):=by
 rw[qer _ (by rw[qcF,yC h])];unfold sdK;rw[yq];rfl
inductive spSiI(vs:List V)(H:Hp)(Q:VK)(E:XK):Prop|mk (l:Addr) (ts:LI) (TI:List (Nat×Nat)) (s n:Nat) (cl:Nat->Bool) (_:vs=[.ref l,iv s]) (_:IPL H l ts TI) (_:TIok n TI) (_:n<=14) (_:s<n) (_:(∀ a b,adjI TI a b->cl b=!cl a)) (_:∀(d:Addr) (vis:LN) (H':Hp),L2.Same H H'->H d=none->H' d=some (.dK (sdK cl s vis))->vis.Nodup->(∀ v,v∈vis↔v<n/\RI TI s v)->Q (.ref d) H')
theorem ok_beI(F:Fun K "_law_beside" "_law_beside" zL f fd):wq9 1 f fd wqh spBeI:=by
 show F.ok uR λ_ _ _ _ H vs Q E O h=>?_
 .obtain⟨l,ts,TI,h,n,rfl,c,v,q⟩:=h;have R:=jT O;show⟨_,(qg (qp (qL (sc:=qf zL) (XN:=wqh) wqO 2 [1] rfl rfl rfl (by room) rfl (by room)
  (qeA (K:=K) rfl (pv 0)) (λ_ _ _ _=>(qby (n:=2) rfl (jd (qi (i:=0) (show(wqO:LS).Nodup by room) rfl (yF rfl)) (jd (qi (i:=1) (show(wqO:LS).Nodup by room) rfl (yF rfl)) qai)))) qeE
  (λ_ _ _ _=>(qE (qm (qcP (K:=K) rfl R) (pv 2) (jD (qa (pv 0) (qa (pv 1) qd))) (by with_unfolding_all rfl))))
  (λ_ _ _ _=>(qC qel (qC (j9 (K:=K) rfl) (pv 0) (pv 1)) (pv 2)))))),?_⟩
  apply qf9 ?_;apply⟨l,_,rfl,.of c.1,qr (xs:=ts.map V.ref) (λi ys J=>L2.Same H J/\ys=ivs (bsN (TI.take i) h)) ⟨L2.Same.refl H,rfl⟩ (λi ys J _ a=>.of (a.1 _ _ c.1)) (λi x ys J D a=>?_) λys J a=>?_⟩
  .obtain⟨j,rfl⟩:=a;rw[yd] at D;obtain⟨u,g,rfl⟩:=ym.mp D;have M:i<TI.length:=by rw[<- c.2.len];show(yc.mp g).1
   obtain⟨p,y⟩:∃ p,TI[i]?=some p:=⟨_,yb M⟩;have z:=j _ _ (c.2.at_ i u p g y);show⟨u,_,rfl,.of z,rfl,_,_,rfl,_,_,rfl,rfl,?_⟩;apply⟨wqqd,λm N=>?_⟩;have A:=qw j (o:=iT p) N;have d:upd J m (iT p) m=some (iT p):=qb;generalize upd J m (iT p)=S at A d;apply .inl ⟨m,_,rfl,.inr (SqT.of d),rfl,rfl,?_⟩
   have t:(if false=true then !inV (iv h) [iv p.1,iv p.2] else inV (iv h) [iv p.1,iv p.2])=(decide (h=p.1)||decide (h=p.2)):=by
    rw[yC (by decide)];have B:=zZ (p.1:Int) (h:Int);have C:=zZ (p.2:Int) (h:Int);rw[yC (by decide)] at B C;show(eqV (iv p.1) (iv h)||(eqV (iv p.2) (iv h)||false))=_;rw[B,C,Xq]
    congr 1<;>show Yi.mpr (by lk)
   rw[t]
   have s:bsN (TI.take (i+1)) h=bsN (TI.take i) h++bsN [p] h:=by
    unfold bsN;rw[yA,y,yQ,yq];rfl
   rw[s]
   have L:(bsN (TI.take i) h).length<=30:=by
    unfold bsN;rw[ya];show yh (yt _ _) ?_;rw[yH];have:=v.few;lk
   ext
   cases r:(decide (h=p.1)||decide (h=p.2)) with
   | false =>
    show yp ?_;have G:bsN [p] h=[]:=by unfold bsN;rw[yM,r];rfl
    rw[G];show⟨A,by simp⟩
   | true =>
    show zu ?_;ext;have I:bsN [p] h=[p.1+p.2-h]:=by unfold bsN;rw[yM,r];rfl
    rw[I];have T:=v.ok p (ye y);rw[YZ,yD,yD] at r;show⟨by rw[ya];show qe (by lk),A,?_⟩;show _=List.map iv _;rw[yq];show _++[V.int _]=_++[V.int ((p.1+p.2-h:Nat):Int)]
    congr 3
    lk
  .obtain⟨j,rfl⟩:=a;have e:(ts.map V.ref).length=TI.length:=by rw[ya,c.2.len]
   rw[e,yv];show⟨by rw[ya];show yI (qe (by have:=qcf v h;lk)),λb hb=>?_⟩;show q b _ (qw j hb) (j.free hb) qb
theorem ok_siI(F:Fun K "_law_sides" "_law_sides" qbc f fd)(T:Txt K mg cc cw)(kN:wq7 1 "_law_beside" wqh spBeI):wq9 2 f fd wqb spSiI:=by
 show F.ok Kj λ_ _ _ _ H vs Q E hr h=>?_
 .obtain⟨l,ts,TI,st,n,cl,rfl,hI,hT,bf,az,hC,q⟩:=h;have U:=jT hr;show⟨_,(qc (qo (i:=2) Kj.nd rfl (yF rfl) (pe_disp (pps_cons (pv 1) qh pps_nil) rfl rfl (λh=>nomatch h) (by show 1<=15;decide)))
 (qc (qo (i:=3) Kj.nd rfl (yF rfl) (qZ (qa (pv 1) qd)))
 (qc (qcL yS (qm (zv (K:=K) rfl U) (pv 3) (qZ qd) (qv _))
 (qc (qo (i:=4) Kj.nd rfl (yF rfl) (qhd (K:=K) rfl yP PySem.F.slot_list_pop PySem.F.type_list_pop mtR_pop (pv 3)))
 (qg (je yS rfl (qF (K:=K) rfl (qk kN (hmR hr) qt (qa (pv 0) (qa (pv 4) qd)))) (qi (i:=5) Kj.nd rfl (yF rfl))
 (qg (qR (qm (zb (K:=K) rfl U) (pv 5) (pv 2) (by with_unfolding_all rfl)) (qc (qaj (qC qel qh (qx (qz (K:=K) rfl U) (pv 2) (pv 4) (λ_ _=>rfl))) (qaJ (pv 2) (pv 5) (qaK U)))
 (qg (qU (qcO (K:=K) rfl yP yU yV qJ (pv 3) (qa (pv 5) qd))))) qu))))))
 (qg (qp (pv 2)))))),?_⟩
  ext;intro d hd;show⟨_,rfl,qb,[(Sum.inl (st:Int),V.int 0)],rfl,by show 1<=15;decide,?_⟩;have s1:L2.Same H (upd (upd H d (HO.dK [])) d (HO.dK (qaV [] [(Sum.inl (st:Int),V.int 0)]))):=qdQ (qdQ (Sr H) hd) hd
  have ed:upd (upd H d (HO.dK [])) d (HO.dK (qaV [] [(Sum.inl (st:Int),V.int 0)])) d=some (.dK (sdK cl st [st])):=by
   rw[qb];have e0:sdK cl st [st]=[(Sum.inl (st:Int),V.int 0)]:=by unfold sdK;rw[Yk,yG rfl];rfl
   rw[e0];rfl
  show qf0 _ _ _ _ (upd (upd H d (HO.dK [])) d (HO.dK (qaV [] [(Sum.inl (st:Int),V.int 0)])));generalize upd (upd H d (HO.dK [])) d (HO.dK (qaV [] [(Sum.inl (st:Int),V.int 0)]))=H1 at s1 ed;apply⟨wqqc,λp R=>?_⟩;have s2:=qw s1 (o:=.lst (ivs [st])) R;have bb:=qw (Sr H1) (o:=.lst (ivs [st])) R;have ew:upd H1 p (.lst (ivs [st])) p=some (.lst (ivs [st])):=qb;have ak:=bb _ _ ed;have ar:H p=none:=s1.free R;have ai:p≠d:=λz=>by rw[z,ed] at R;cases R
  show qf0 _ _ _ _ (upd H1 p (.lst (ivs [st])));generalize upd H1 p (.lst (ivs [st]))=H2 at s2 ew ak;ext;obtain⟨Wp,af⟩:∃ Wp:Nat->L2.St->Hp->Prop,Wp=λm σ J=>∃(c wl:LN) (y4 y5:Option V),m=2*(n-c.length)+wl.length/\σ=[some (.ref l),some (iv st),some (.ref d),some (.ref p),y4,y5]/\L2.Same H J/\J p=some (.lst (ivs wl))/\J d=some (.dK (sdK cl st c))/\c.Nodup/\(∀ v∈c,v<n/\RI TI st v)/\(∀ v∈wl,v∈c)/\(∀ a∈c,a∉wl->∀ b,adjI TI a b->b∈c)/\st∈c/\wl.length<=c.length:=⟨_,rfl⟩
  have vl:∀{c:LN},c.Nodup->(∀ v∈c,v<n/\RI TI st v)->c.length<=n:=λ{c} h1 h2=>by
   show qcE h1 λv hv=>(h2 v hv).1
  show⟨Wp,⟨_,by rw[af];show⟨[st],[st],none,none,rfl,rfl,s2,ew,ak,by simp,λv hv=>by rw[yx.mp hv];show⟨az,.refl⟩,λv hv=>hv,λa ha hn=>absurd ha hn,by simp,yg _⟩⟩,λm σ J hW=>?_⟩;rw[af] at hW;obtain⟨c,wl,y4,y5,hm,rfl,sJ,ae,am,s,j,S,L,N,ah⟩:=hW;have ba:=vl s j;apply⟨wqqb,λe ax=>?_⟩;have Z:=qw (Sr J) (o:=.lst []) ax;have ee:upd J e (.lst []) e=some (.lst []):=qb;generalize upd J e (.lst [])=J3 at Z ee;show qeM (Z _ _ ae) ee ?_;ext
  have hL:wl=[]\/∃ g a,wl=g++[a]:=by
   rcases List.eq_nil_or_concat wl with h | ⟨g,a,h⟩
   .show .inl h
   .show .inr ⟨g,a,by rw[h,List.concat_eq_append]⟩
  rcases hL with rfl | ⟨g,a,rfl⟩
  .show yp ?_;apply q d c J3 (sJ.trans Z) hd (Z _ _ am) s λv=>⟨j v,λh=>?_⟩;obtain⟨_,h⟩:=h
   induction h with
   | refl=>show N
   | on _ t ih=>show L _ (ih (hT.adj t).1) (by simp) _ t
  .show qP (λ_=>⟨λbc H'=>∃ n',n'<m/\Wp n' bc H',λ_ _ z=>z,?_⟩) λh=>absurd (show(!(ivs (g++[a])).isEmpty)=true by rw[show ivs (g++[a])=ivs g++[iv a] from yq ..];cases ivs g<;>rfl) h;apply⟨.inl ⟨rfl,_,.of (Z _ _ ae)⟩,?_⟩;show⟨p,_,iv a,rfl,rfl,Z _ _ ae,by rw[ya,yu,yd];simp,?_⟩;have aw:(ivs (g++[a])).dropLast=ivs g:=by rw[show ivs (g++[a])=ivs g++[iv a] from yq ..];simp
   rw[aw];have s4:L2.Same H (upd J3 p (.lst (ivs g))):=qdQ (sJ.trans Z) ar;have ac:upd J3 p (.lst (ivs g)) p=some (.lst (ivs g)):=qb;have ab:upd J3 p (.lst (ivs g)) d=some (.dK (sdK cl st c)):=by rw[qj (YB ai)];show Z _ _ am
   generalize upd J3 p (.lst (ivs g))=J4 at s4 ac ab;have r:a∈c:=S a (by simp);have bg:=j a r;apply⟨l,ts,TI,a,n,rfl,hI.same s4,hT,λb J5 s5 X hb=>?_⟩;have av:b≠p:=λz=>by rw[z,ac] at X;cases X
   have bd:b≠d:=λz=>by rw[z,ab] at X;cases X
   show .inl ⟨⟨_,.of hb⟩,ju (xs:=ivs (bsN TI a)) (λi σ G=>∃(vs A:LN) (y5:Option V),σ=[some (.ref l),some (iv st),some (.ref d),some (.ref p),some (iv a),y5]/\L2.Same H G/\G b=some (.lst (ivs (bsN TI a)))/\G p=some (.lst (ivs A))/\G d=some (.dK (sdK cl st vs))/\vs.Nodup/\(∀ v∈vs,v<n/\RI TI st v)/\(∀ v∈A,v∈vs)/\(∀ u∈vs,u∉A->u≠a->∀ x,adjI TI u x->x∈vs)/\st∈vs/\a∈vs/\(∀ x∈(bsN TI a).take i,x∈vs)/\2*(n-vs.length)+A.length<=2*(n-c.length)+g.length/\A.length<=vs.length)
    ⟨c,g,_,rfl,s4.trans s5,hb,s5 _ _ ac,s5 _ _ ab,s,j,λv hv=>S v (by simp[hv]),λu U hw ne=>L u U (by simp[hw,ne]),N,r,λx D=>by simp at D,yg _,by simp at ah;lk⟩
    (λi σ G _ hp=>?_) (λi y σ G hy hp=>?_) fun σ G hp=>?_⟩
   .obtain⟨vs,A,y5,_,_,e,_⟩:=hp;show .of e
   .obtain⟨vs,A,y5,rfl,sG,aa,W,I,s,j,S,L,N,r,O,ao,ah⟩:=hp;have ba:=vl s j;rw[yd] at hy;obtain⟨o,ho,rfl⟩:=ym.mp hy;have ag:adjI TI a o:=(zl hT).mp (ye ho);have Y:(bsN TI a).take (i+1)=(bsN TI a).take i++[o]:=by rw[yA,ho];rfl
    apply .inr (.inl ⟨d,_,rfl,DGet.k (k:=Sum.inl (o:Int)) I,?_⟩);rw[yG rfl,qcF];ext;by_cases M:o∈vs
    .rw [yG M];show yp ?_;show⟨vs,A,_,rfl,sG,aa,W,I,s,j,S,L,N,r,λx D=>?_,ao,ah⟩;rw[Y] at D;rcases yO.mp D with z | z
     .show O x z
     .rw [yx.mp z];show M
    .rw [yC M];show zu ?_;apply .inr ⟨d,iv (if cl a=cl st then 0 else 1),rfl,by have:=DGet.k (k:=Sum.inl (a:Int)) I;rw[qcF,yG r] at this;show this,?_⟩;ext
     have ev:V.int (1-((if cl a=cl st then 0 else 1:Nat):Int))=iv (if cl o=cl st then 0 else 1):=by
      rw[hC _ _ ag];cases cl a<;>cases cl st<;>rfl
     rw[ev];show .inr ⟨d,_,rfl,DPut.k (k:=Sum.inl (o:Int)) I (by rw[show(sdK cl st vs).length=vs.length from ya ..,xR];lk),?_⟩;rw[sd_put M];have s6:L2.Same H (upd G d (.dK (sdK cl st (vs++[o])))):=qdQ sG hd;have al:upd G d (.dK (sdK cl st (vs++[o]))) d=some (.dK (sdK cl st (vs++[o]))):=qb;have ad:upd G d (.dK (sdK cl st (vs++[o]))) p=some (.lst (ivs A)):=by rw[qj ai];show W
     have aj:upd G d (.dK (sdK cl st (vs++[o]))) b=some (.lst (ivs (bsN TI a))):=by rw[qj bd];show aa
     generalize upd G d (.dK (sdK cl st (vs++[o])))=G6 at s6 al ad aj;apply⟨.inl ⟨rfl,_,.of ad⟩,?_⟩;apply⟨p,_,_,rfl,rfl,ad,by rw[ya];show qe (by lk),?_⟩;have ay:=hT.adj ag;have C:(vs++[o]).Nodup:=xz.mpr ⟨s,by simp,λx D y hy e=>M (by rw[<- yx.mp hy,<- e];show D)⟩
     have B:∀ v∈vs++[o],v<n/\RI TI st v:=λv hv=>by
      rcases yO.mp hv with z | z
      .show j v z
      .rw [yx.mp z];show⟨ay.2.1,(j a r).2.on ag⟩
     have aq:=vl C B;rw[yu,xt] at aq;show⟨vs++[o],A++[o],_,rfl,qdQ s6 ar,by rw[qj av];show aj,by rw[qb,show ivs (A++[o])=ivs A++[iv o] from yq ..],by rw[qj (YB ai)];show al,C,B,λv hv=>?_,λu U hw ne x D=>?_,by simp[N],by simp[r],λx D=>?_,by rw[yu,yu,xt];lk,by rw[yu,yu,xt];lk⟩
     .rcases yO.mp hv with z | z
      .show YG _ (S v z)
      .show yT _ z
     .rcases yO.mp U with z | z
      .show YG _ (L u z (λk=>hw (YG _ k)) ne x D)
      .show absurd (yT _ z) hw
     .rw [Y] at D;rcases yO.mp D with z | z
      .show YG _ (O x z)
      .show yT _ z
   .obtain⟨vs,A,y5,rfl,sG,aa,W,I,C,B,au,an,ap,be,O,ao,as⟩:=hp;rw[show(ivs (bsN TI a)).length=(bsN TI a).length from ya ..,yv] at O;show⟨2*(n-vs.length)+A.length,?_,?_⟩
    .rw [yu,xt] at hm;lk
    .rw [af];show⟨vs,A,_,_,rfl,rfl,sG,W,I,C,B,au,λu U hw x D=>?_,ap,as⟩;by_cases h:u=a
     .subst h;show O x ((zl hT).mpr D)
     .show an u U hw h x D
theorem uw:FnScope wqv wqb (qf qbd):=fS
theorem uH:FnScope wqv wqb (qf qcm):=fS
theorem qbe{c:LQ}(d:c.Perm (L.map λ(v:Nat)=>(v:Int)))(f:c.Pairwise (·<=·)):∃ M:LN,c=(M.map λ(v:Nat)=>(v:Int))/\M.Perm L/\M.Pairwise (·<=·):=by
 have e:c=(c.map Int.toNat).map λ(v:Nat)=>(v:Int):=by
  rw[YC];show(List.map_id _).symm.trans (xH λx g=>?_);obtain⟨v,_,rfl⟩:=yJ.mp (d.mem_iff.mp g);show(v:Int)=(((v:Int).toNat:Nat):Int);lk
 show⟨c.map Int.toNat,e,?_,?_⟩
 .have:=d.map Int.toNat;rw[YC] at this;show this.trans (ku ?_);show(xH λv _=>rfl).trans (List.map_id _)
 .show xB.mpr (f.imp λ{a b} h=>by lk)
inductive spNrI(far:Bool)(vs:List V)(H:Hp)(Q:VK)(E:XK):Prop|mk (l:Addr) (ts:LI) (TI:List (Nat×Nat)) (s n:Nat) (cl:Nat->Bool) (_:vs=[.ref l,iv s]) (_:IPL H l ts TI) (_:TIok n TI) (_:n<=14) (_:s<n) (_:(∀ a b,adjI TI a b->cl b=!cl a)) (_:∀(b:Addr) (H':Hp),L2.Same H H'->H b=none->H' b=some (.lst (ivs (nr TI cl n s (cl s ^^ far))))->Q (.ref b) H')
theorem ok_nrI(F:Fun K "_law_near" "_law_near" qbd f fd)(T:Txt K mg cc cw)(D:wq7 2 "_law_sides" wqb spSiI):wq9 3 f fd wqb (spNrI false):=by
 show F.ok uw λ_ _ _ s H vs Q E B h=>?_
 .obtain⟨l,ts,TI,st,n,cl,rfl,N,O,t,z,L,q⟩:=h;have j:=jT B;show⟨_,(qc (qo (i:=2) uw.nd rfl (YX rfl) (qk D (hmR B) qt (qa (pv 0) (qa (pv 1) qd))))
 (qg (qp (qq (qa2 (K:=K) rfl) rfl T.b_sorted X7 (qa (qL (sc:=qf qbd) (XN:=wqv) wqJ 1 [2] rfl rfl rfl (by room) rfl (by room)
  (qgq (pv 2)) (λ_ _ _ _=>(qi (i:=0) (show(wqJ:LS).Nodup by room) rfl (yF rfl))) qA
  (λ_ _ _ _=>(qE (qm (jX (K:=K) rfl j) (qx (qz (K:=K) rfl j) (pv 1) (pv 0) (λ_ _=>rfl)) qh (qv _))))
  (λ_ _ _ _=>(pv 0))) qd))))),?_⟩
  apply⟨l,ts,TI,st,n,cl,rfl,N,O,t,z,L,λd a H1 X x R m hv=>?_⟩;ext;have U:a.length<=n:=qcE m λv h=>((hv v).mp h).1;show qhj ?_;apply⟨d,_,rfl,R,λo=>qdz (λi ys J=>J=upd H1 d (.frz o (.dK (sdK cl st a)))/\ys=ivs ((a.take i).filter λv=>decide (cl v=(cl st ^^ false)))) ⟨rfl,rfl⟩ (λi ys J _ g=>by rw[g.1];show qb) (λi k v ys J y g=>?_) λys J g=>?_⟩
  .obtain⟨rfl,rfl⟩:=g
   have e:∃ u,a[i]?=some u/\k=Sum.inl (u:Int)/\v=iv (if cl u=cl st then 0 else 1):=by
    unfold sdK at y;rw[yd] at y;obtain⟨u,j,e⟩:=ym.mp y;cases e;show⟨u,j,rfl,rfl⟩
   obtain⟨u,j,rfl,rfl⟩:=e;have A:=ye j;apply .inr ⟨d,iv (if cl u=cl st then 0 else 1),rfl,.inl ⟨_,Sum.inl (u:Int),.inr ⟨_,qb⟩,rfl,by rw[qcF,yG A]⟩,?_⟩;apply .inl (.inl (.inl ⟨rfl,rfl,?_⟩));rw[zZ];have I:decide (((if cl u=cl st then 0 else 1:Nat):Int)=0)=decide (cl u=(cl st ^^ false)):=by cases cl u<;>cases cl st<;>rfl
   rw[I,show a.take (i+1)=a.take i++[u] by rw[yA,j];rfl,yQ,yM];ext
   cases e:decide (cl u=(cl st ^^ false)) with
   | false =>
    show yp ?_;show⟨rfl,?_⟩;rw[yC (by decide)];simp
   | true =>
    show zu ?_;apply⟨?_,rfl,?_⟩
    .rw [ya];show qe (yh (yt _ _) (by rw[yH];lk))
    .rw [yG rfl];show _=List.map iv _;rw[yq];rfl
  .obtain⟨rfl,rfl⟩:=g;rw[show(sdK cl st a).length=a.length from ya ..,yv];have hl:=yt (λv=>decide (cl v=(cl st ^^ false))) a;show⟨by rw[ya];show yI (qe (by lk)),λb hb=>?_⟩;have Y:L2.Same H (upd H1 d (.frz o (.dK (sdK cl st a)))):=qdQ X x;have C:=qw Y (o:=.lst (ivs (a.filter λv=>decide (cl v=(cl st ^^ false))))) hb;apply⟨b,(a.filter λv=>decide (cl v=(cl st ^^ false))).map λ(v:Nat)=>(v:Int),rfl,.of (by rw[YC];show qb),by rw[ya];lk,λr ms p g S=>?_⟩;obtain⟨M,rfl,W,Z⟩:=qbe g S;have G:=qfz (n:=n) (TI:=TI) (cl:=cl) (s:=st) (c:=(cl st ^^ false)) (λv=>by rw[yo,hv,yD,and_assoc]) (m.filter _) W Z;rw[G];show q r _ (qw C p) (C.free p) ?_;rw[qb,YC];cases cl st<;>rfl
theorem ok_frI(F:Fun K "_law_far" "_law_far" qcm f fd)(T:Txt K mg cc cw)(D:wq7 2 "_law_sides" wqb spSiI):wq9 3 f fd wqb (spNrI true):=by
 show F.ok uH λ_ _ _ s H vs Q E B h=>?_
 .obtain⟨l,ts,TI,st,n,cl,rfl,N,O,t,z,L,q⟩:=h;have j:=jT B;show⟨_,(qc (qo (i:=2) uH.nd rfl (YX rfl) (qk D (hmR B) qt (qa (pv 0) (qa (pv 1) qd))))
 (qg (qp (qq (qa2 (K:=K) rfl) rfl T.b_sorted X7 (qa (qL (sc:=qf qcm) (XN:=wqv) wqJ 1 [2] rfl rfl rfl (by room) rfl (by room)
  (qgq (pv 2)) (λ_ _ _ _=>(qi (i:=0) (show(wqJ:LS).Nodup by room) rfl (yF rfl))) qA
  (λ_ _ _ _=>(qE (qm (jX (K:=K) rfl j) (qx (qz (K:=K) rfl j) (pv 1) (pv 0) (λ_ _=>rfl)) qh (qv _))))
  (λ_ _ _ _=>(pv 0))) qd))))),?_⟩
  apply⟨l,ts,TI,st,n,cl,rfl,N,O,t,z,L,λd a H1 X x R m hv=>?_⟩;ext;have U:a.length<=n:=qcE m λv h=>((hv v).mp h).1;show qhj ?_;apply⟨d,_,rfl,R,λo=>qdz (λi ys J=>J=upd H1 d (.frz o (.dK (sdK cl st a)))/\ys=ivs ((a.take i).filter λv=>decide (cl v=(cl st ^^ true)))) ⟨rfl,rfl⟩ (λi ys J _ g=>by rw[g.1];show qb) (λi k v ys J y g=>?_) λys J g=>?_⟩
  .obtain⟨rfl,rfl⟩:=g
   have e:∃ u,a[i]?=some u/\k=Sum.inl (u:Int)/\v=iv (if cl u=cl st then 0 else 1):=by
    unfold sdK at y;rw[yd] at y;obtain⟨u,j,e⟩:=ym.mp y;cases e;show⟨u,j,rfl,rfl⟩
   obtain⟨u,j,rfl,rfl⟩:=e;have A:=ye j;apply .inr ⟨d,iv (if cl u=cl st then 0 else 1),rfl,.inl ⟨_,Sum.inl (u:Int),.inr ⟨_,qb⟩,rfl,by rw[qcF,yG A]⟩,?_⟩;apply .inl (.inl (.inl ⟨rfl,rfl,?_⟩));rw[zZ];have I:decide (((if cl u=cl st then 0 else 1:Nat):Int)=1)=decide (cl u=(cl st ^^ true)):=by cases cl u<;>cases cl st<;>rfl
   rw[I,show a.take (i+1)=a.take i++[u] by rw[yA,j];rfl,yQ,yM];ext
   cases e:decide (cl u=(cl st ^^ true)) with
   | false =>
    show yp ?_;show⟨rfl,?_⟩;rw[yC (by decide)];simp
   | true =>
    show zu ?_;apply⟨?_,rfl,?_⟩
    .rw [ya];show qe (yh (yt _ _) (by rw[yH];lk))
    .rw [yG rfl];show _=List.map iv _;rw[yq];rfl
  .obtain⟨rfl,rfl⟩:=g;rw[show(sdK cl st a).length=a.length from ya ..,yv];have hl:=yt (λv=>decide (cl v=(cl st ^^ true))) a;show⟨by rw[ya];show yI (qe (by lk)),λb hb=>?_⟩;have Y:L2.Same H (upd H1 d (.frz o (.dK (sdK cl st a)))):=qdQ X x;have C:=qw Y (o:=.lst (ivs (a.filter λv=>decide (cl v=(cl st ^^ true))))) hb;apply⟨b,(a.filter λv=>decide (cl v=(cl st ^^ true))).map λ(v:Nat)=>(v:Int),rfl,.of (by rw[YC];show qb),by rw[ya];lk,λr ms p g S=>?_⟩;obtain⟨M,rfl,W,Z⟩:=qbe g S;have G:=qfz (n:=n) (TI:=TI) (cl:=cl) (s:=st) (c:=(cl st ^^ true)) (λv=>by rw[yo,hv,yD,and_assoc]) (m.filter _) W Z;rw[G];show q r _ (qw C p) (C.free p) ?_;rw[qb,YC];cases cl st<;>rfl
theorem kU:FnScope wqe wq1 (qf zm):=fS
theorem qeU{i j:Int}{Q:VK}(q:Q (.bl (decide (i=j))) H):qgN K (.int i) (.int j) H Q:=.inl (.inl (.inl ⟨rfl,rfl,by rw[zZ];show q⟩))
theorem qM(L:LN):(ivs L).length=L.length:=ya ..
theorem swp_nil(e:L.filter (λv=>v.testBit b)=[]):swp (n+1) b L=swp n (b+1) L:=by
 show(match L.filter (λv=>v.testBit b) with | []=>_ | p::t=>_)=_;rw[e]
theorem swp_cons{p:Nat}{t:LN}(e:L.filter (λv=>v.testBit b)=p::t):swp (n+1) b L=1+swp n (b+1) (L.filter (λv=>!v.testBit b)++t.map λv=>v ^^^ p):=by
 show(match L.filter (λv=>v.testBit b) with | []=>_ | p::t=>_)=_;rw[e]
theorem qab{f:Nat->Bool}(h:L[i]?=some n):(L.take (i+1)).filter f=(L.take i).filter f++if f n=true then [n] else []:=by
 rw[yA,h,yQ]
 congr 1
 show List.filter f [n]=_;rw[yM];rfl
theorem za{f:Nat->Bool}(h:L.length<=1000):((L.take i).filter f).length<=1000:=by
 have h1:=yt f (L.take i);rw[yH] at h1;lk
inductive spSw(vs:List V)(H:Hp)(Q:VK)(E:XK):Prop|mk (a:Addr) (L:LN) (_:vs=[.ref a]) (_:H a=some (.lst (ivs L))) (_:L.length<=1000) (_:∀ H',L2.Same H H'->Q (iv (swp 14 0 L)) H')
theorem ok_sw(F:Fun K "_law_swept" "_law_swept" zm f fd)(T:Txt K mg cc cw):wq9 1 f fd wq1 spSw:=by
 show F.ok kU λ_ _ _ _ H vs Q E hr h=>?_
 .obtain⟨a,L,rfl,ha,hL,q⟩:=h;have hu:=jT hr;show⟨_,(qc (qo (i:=1) kU.nd rfl (yF rfl) (zi (qb2 (K:=K) rfl rfl) rfl T.b_list Xc (qa (pv 0) qd)))
 (qc (qo (i:=2) kU.nd rfl (yF rfl) qh)
 (qc (je yS rfl (jo rfl T.b_range (qa qh qd)) (qi (i:=3) kU.nd rfl (YX rfl))
 (qc (qo (i:=4) kU.nd rfl (YX rfl) (qL (sc:=qf zm) (XN:=wqe) wqK 1 [3] rfl rfl rfl (by room) rfl (by room)
  (qF (K:=K) rfl (pv 1)) (λ_ _ _ _=>(qi (i:=0) (show(wqK:LS).Nodup by room) rfl (yF rfl))) qA
  (λ_ _ _ _=>(qE (qm (jX (K:=K) rfl hu) (qC qdb (qC qda (pv 0) (pv 1)) qh) qh (qv _))))
  (λ_ _ _ _=>(pv 0))))
 (qg (qR (qm (zv (K:=K) rfl hu) (pv 4) (qZ qd) (qv _)) (qc (qo (i:=2) kU.nd rfl (yF rfl) (qC (j9 (K:=K) rfl) (pv 2) qh))
 (qc (jM (sc:=qf zm) (XN:=wqe) wqK 1 [3] rfl rfl rfl (by room) rfl (by room) (i:=5) kU.nd rfl rfl
  (qF (K:=K) rfl (pv 1)) (λ_ _ _ _=>(qi (i:=0) (show(wqK:LS).Nodup by room) rfl (yF rfl))) qA
  (λ_ _ _ _=>(qE (qm (jX (K:=K) rfl hu) (qC qdb (qC qda (pv 0) (pv 1)) qh) qh (qv _))))
  (λ_ _ _ _=>(pv 0)))
 (qg (qo (i:=1) kU.nd rfl (yF rfl) (qC (j9 (K:=K) rfl) (pv 5) (qL (sc:=qf zm) (XN:=wqe) ["_law_number","_law_some"] 1 [4] rfl rfl rfl (by room) rfl (by room)
  (qF (K:=K) rfl (zP (qgL (K:=K) rfl) (pv 4) (zO qh) qbm)) (λ_ _ _ _=>(qi (i:=0) (show(["_law_number","_law_some"]:LS).Nodup by room) rfl (yF rfl))) qA
  (λ_ _ _ _=>jj)
  (λ_ _ _ _=>(qC qdc (pv 0) (qx (qz (K:=K) rfl hu) (pv 1) qh (λ_ _=>rfl)))))))))) qu))))
 (qg (qp (pv 2)))))),?_⟩
  apply .inl ⟨a,_,rfl,.inl (.of ha),λl hl=>?_⟩;apply⟨14,rfl,by decide,by decide,jE (lo:=0) (n:=14) (λi σ H'=>L2.Same H H'/\∃(l:Addr) (M:LN) (m:Nat) (x y z:Option V),σ=[some (.ref a),some (.ref l),some (iv m),x,y,z]/\H' l=some (.lst (ivs M))/\M.length<=1000/\m+swp (14-i) i M=swp 14 0 L) ⟨qw (Sr H) hl,l,L,0,_,_,_,rfl,qb,hL,by rw[YS]⟩ (λi σ H' hi b=>?_) fun σ H' b=>?_⟩
  .obtain⟨s1,l1,M,m,x,y,z,rfl,g,W,c⟩:=b;rw[show 14-i=(14-(i+1))+1 by lk] at c;rw[xA];apply .inl ⟨⟨_,.of g⟩,qr (xs:=ivs M) (λj ys J=>J=H'/\ys=ivs ((M.take j).filter λv=>v.testBit i)) ⟨rfl,by simp⟩ (λj ys J _ b=>by rw[b.1];show .of g) (λj x' ys J B b=>?_) λys J b=>?_⟩
   .obtain⟨rfl,rfl⟩:=b;rw[yd] at B;obtain⟨n,Z,rfl⟩:=ym.mp B;apply vI (show(0:Int)<=(i:Int) by lk) ?_;apply qeU ?_;ext;rw[qb6,qab Z];show qP (λh=>?_) (λh=>?_)
    .ext;show⟨by rw[ya];show qe (za W),rfl,?_⟩;rw[yG h];show _=List.map iv _;rw[yq];rfl
    .show⟨rfl,?_⟩;rw[yC h,yZ]
   .obtain⟨rfl,rfl⟩:=b;rw[qM M,yv];have D:(M.filter λv=>v.testBit i).length<=1000:=yh (yt _ _) W;show⟨by rw[ya];show yI (qe D),λr aa=>?_⟩;have s2:=qw s1 (o:=.lst (ivs (M.filter λv=>v.testBit i))) aa;have Y:=qw (Sr J) (o:=.lst (ivs (M.filter λv=>v.testBit i))) aa _ _ g;have G:upd J r (.lst (ivs (M.filter λv=>v.testBit i))) r=some (.lst (ivs (M.filter λv=>v.testBit i))):=qb;generalize upd J r (.lst (ivs (M.filter λv=>v.testBit i)))=J2 at s2 Y G;apply⟨wqqb,λe ag=>?_⟩;have s3:=qw (Sr J2) (o:=.lst []) ag;show qeM (s3 _ _ G) qb ?_;have s:=s3 _ _ Y;have I:=s3 _ _ G;have R:=s2.trans s3;generalize upd J2 e (.lst [])=J3 at s I R;ext
    cases ef:M.filter (λv=>v.testBit i) with
    | nil =>
     rw[swp_nil ef] at c;show yp ?_;apply⟨R,l1,M,m,_,_,_,rfl,s,W,c⟩
    | cons p t =>
     rw[swp_cons ef] at c;rw[ef] at I D;show zu ?_;apply .inl ⟨⟨_,.of s⟩,qr (xs:=ivs M) (λj ys J=>J=J3/\ys=ivs ((M.take j).filter λv=>!v.testBit i)) ⟨rfl,by simp⟩ (λj ys J _ b=>by rw[b.1];show .of s) (λj x' ys J B b=>?_) λys J b=>?_⟩
     .obtain⟨rfl,rfl⟩:=b;rw[yd] at B;obtain⟨n,Z,rfl⟩:=ym.mp B;apply vI (show(0:Int)<=(i:Int) by lk) ?_;apply qeU ?_;ext;rw[bit0_nat,qab Z];show qP (λh=>?_) (λh=>?_)
      .ext;show⟨by rw[ya];show qe (za W),rfl,?_⟩;rw[yG h];show _=List.map iv _;rw[yq];rfl
      .show⟨rfl,?_⟩;rw[yC h,yZ]
     .obtain⟨rfl,rfl⟩:=b;rw[qM M,yv]
      have A:(M.filter λv=>v.testBit i).length+(M.filter λv=>!v.testBit i).length=M.length:=by
       have:∀ N:LN,(N.filter λv=>v.testBit i).length+(N.filter λv=>!v.testBit i).length=N.length:=λN=>by
        induction N with
        | nil=>rfl
        | cons a N ih =>
         rw[yM,yM];cases a.testBit i
         .simp;lk
         .simp;lk
       show this M
      rw[ef] at A;simp only[Yd] at A D;show⟨by rw[ya];show yI (qe (by lk)),λr4 u=>?_⟩;have s4:=qw R (o:=.lst (ivs (M.filter λv=>!v.testBit i))) u;have O:=qw (Sr J) (o:=.lst (ivs (M.filter λv=>!v.testBit i))) u _ _ I;have S:upd J r4 (.lst (ivs (M.filter λv=>!v.testBit i))) r4=some (.lst (ivs (M.filter λv=>!v.testBit i))):=qb;generalize upd J r4 (.lst (ivs (M.filter λv=>!v.testBit i)))=J4 at s4 O S;apply .inl ⟨r,_,rfl,.of O,λd X=>?_⟩;have ec:qdO (ivs (p::t)) (some 1) none=ivs t:=by have:=qdv (ivs (p::t)) 1;show this
      rw[ec];have s5:=qw s4 (o:=.lst (ivs t)) X;have ae:=qw (Sr J4) (o:=.lst (ivs t)) X;have ab:=ae _ _ O;have U:=ae _ _ S;have C:upd J4 d (.lst (ivs t)) d=some (.lst (ivs t)):=qb;generalize upd J4 d (.lst (ivs t))=J5 at s5 ab U C;show .inl ⟨⟨_,.of C⟩,qr (xs:=ivs t) (λj ys J=>J=J5/\ys=ivs ((t.take j).map λv=>v ^^^ p)) ⟨rfl,by simp⟩ (λj ys J _ b=>by rw[b.1];show .of C) (λj x' ys J B b=>?_) λys J b=>?_⟩
      .obtain⟨rfl,rfl⟩:=b;rw[yd] at B;obtain⟨n,Z,rfl⟩:=ym.mp B;apply zu ?_;apply .inl (qbD ab (v:=iv p) (qal (xs:=ivs (p::t)) (j:=0) rfl) ?_);ext;rw[qdx];show⟨by rw[ya,ya,yH];show qe (by lk),rfl,?_⟩;rw[yA,Z];show _=List.map iv (List.map _ (t.take j++[n]));rw[yq,yq];rfl
      .obtain⟨rfl,rfl⟩:=b;rw[qM t,yv];show⟨by rw[ya,ya];show yI (qe (by lk)),λr6 ac=>?_⟩;have af:=qw (Sr J) (o:=.lst (ivs (t.map λv=>v ^^^ p))) ac;show .inl ⟨r4,r6,_,_,rfl,rfl,af _ _ U,qb,by rw[ya,ya,ya];show yI (qe (by lk)),λr7 ad=>?_⟩;show⟨qw (s5.trans af) ad,r7,M.filter (λv=>!v.testBit i)++t.map (λv=>v ^^^ p),m+1,some (.int i),some (.ref r),some (.ref r4),?_,?_,by rw[yu,ya];lk,by lk⟩
       .rfl
       .rw [qb];show _=some (HO.lst (List.map iv _));rw[yq]
  .obtain⟨s1,l1,M,m,x,y,z,rfl,g,W,c⟩:=b;ext;have:m=swp 14 0 L:=by rw[<- c];rfl
   rw[this];show q H' s1
theorem uY:FnScope wqm wqm (qf qau):=fS
theorem KB:FnScope ["_law_places","_law_total","_law_place"] wq3 (qf qbL):=fS
theorem uI:FnScope wqr wqr (qf zn):=fS
theorem KW:FnScope wqG wqb (qf qbf):=fS
theorem qgB(k:Nat)(L:LN):inV (iv k) (ivs L)=decide (k∈L):=by
 unfold inV;rw[List.any_map,yW,xo,yD]
 have a:∀ y:Nat,((λy=>eqV y (iv k)) ∘ iv) y=decide (y=k):=λy=>by
  have:=zZ (y:Int) (k:Int);rw[yC (by decide)] at this;show eqV (iv y) (iv k)=_;rw[this];show Yi.mpr (by lk)
 constructor
 .rintro ⟨y,b,e⟩;rw[a] at e;rw[<- yj e];show b
 .show λh=>⟨k,h,by rw[a];show yw rfl⟩
theorem vInI{Q:VK}(e:H p=some (.lst (ivs L)))(q:Q (.bl (decide (v∈L))) H):qgn K false (iv v) (.ref p) H Q:=by
 show .inl ⟨p,_,rfl,.inl (.of e),rfl,?_,?_⟩
 .show Yy.mpr λx a=>by obtain⟨u,_,rfl⟩:=yJ.mp a;rfl
 .rw [yC (by decide),qgB];show q
theorem qhm{Q:VK}(e:H p=some (.lst (ivs L)))(q:Q (.bl (!decide (v∈L))) H):qgn K true (iv v) (.ref p) H Q:=by
 show .inl ⟨p,_,rfl,.inl (.of e),rfl,?_,?_⟩
 .show Yy.mpr λx a=>by obtain⟨u,_,rfl⟩:=yJ.mp a;rfl
 .rw [yG rfl,qgB];show q
def oft(TI:List (Nat×Nat))(h:Nat)(ps:LN):Nat:=((bsN TI h).filter λv=>decide (v∈ps)).length
inductive spOf(vs:List V)(H:Hp)(Q:VK)(E:XK):Prop|mk (l pl:Addr) (ts:LI) (TI:List (Nat×Nat)) (h n:Nat) (ps:LN) (_:vs=[.ref l,iv h,.ref pl]) (_:IPL H l ts TI) (_:TIok n TI) (_:H pl=some (.lst (ivs ps))) (_:∀ H',L2.Same H H'->Q (iv (oft TI h ps)) H')
inductive spBt(vs:List V)(H:Hp)(Q:VK)(E:XK):Prop|mk (a:Addr) (L:LN) (_:vs=[.ref a]) (_:H a=some (.lst (ivs L))) (_:L.length<=30) (_:(∀ v∈L,v<14)) (_:Q (iv (bsT L)) H)
inductive spCm(vs:List V)(H:Hp)(Q:VK)(E:XK):Prop|mk (l pl:Addr) (ts:LI) (TI:List (Nat×Nat)) (n:Nat) (ps:LN) (_:vs=[.ref l,.ref pl]) (_:IPL H l ts TI) (_:TIok n TI) (_:n<=14) (_:H pl=some (.lst (ivs ps))) (_:ps.length<=100) (_:∀(b:Addr) (H':Hp),L2.Same H H'->H b=none->H' b=some (.lst (ivs (ps.map (qO TI))))->Q (.ref b) H')
inductive spLo(vs:List V)(H:Hp)(Q:VK)(E:XK):Prop|mk (l:Addr) (ts:LI) (TI:List (Nat×Nat)) (s n:Nat) (cl:Nat->Bool) (_:vs=[.ref l,iv s]) (_:IPL H l ts TI) (_:TIok n TI) (_:n<=14) (_:s<n) (_:(∀ a b,adjI TI a b->cl b=!cl a)) (_:∀(v:Bool) (H':Hp),L2.Same H H'->(v=true↔Lst TI cl n s)->Q (.bl v) H')
theorem ok_of(F:Fun K "_law_often" "_law_often" qau f fd)(T:Txt K mg cc cw)(u:wq7 1 "_law_beside" wqh spBeI):wq9 2 f fd wqm spOf:=by
 show F.ok uY λ_ _ _ _ H vs Q E g h=>?_
 .obtain⟨l,pl,ts,TI,h,n,ps,rfl,o,e,c,q⟩:=h;have t:=jT g;show⟨_,(qg (qp (qq (j8 (K:=K) rfl) rfl T.b_len YE (qa (qL (sc:=qf qau) (XN:=wqm) ["_law_one","_law_places"] 1 [2] rfl rfl rfl (by room) rfl (by room)
  (qF (K:=K) rfl (qk u (hmR g) qt (qa (pv 0) (qa (pv 1) qd)))) (λ_ _ _ _=>(qi (i:=0) (show(["_law_one","_law_places"]:LS).Nodup by room) rfl (yF rfl))) qA
  (λ_ _ _ _=>(qE (qm (qcP (K:=K) rfl t) (pv 0) (pv 1) (by with_unfolding_all rfl))))
  (λ_ _ _ _=>(pv 0))) qd)))),?_⟩
  apply⟨l,ts,TI,h,n,rfl,o,e,λb H1 m p hb=>?_⟩;have s:=qcf e h;show .inl ⟨⟨_,.of hb⟩,qr (xs:=ivs (bsN TI h)) (λi ys J=>J=H1/\ys=ivs (((bsN TI h).take i).filter λv=>decide (v∈ps))) ⟨rfl,by simp⟩ (λi ys J _ c=>by rw[c.1];show .of hb) (λi x ys J j a=>?_) λys J a=>?_⟩
  .obtain⟨rfl,rfl⟩:=a;rw[yd] at j;obtain⟨v,hv,rfl⟩:=ym.mp j;apply vInI (m _ _ c) ?_;ext;rw[qab hv];show qP (λh=>?_) (λh=>?_)
   .ext;show⟨by rw[ya];show qe (za (by lk)),rfl,?_⟩;rw[yG h];show _=List.map iv _;rw[yq];rfl
   .show⟨rfl,?_⟩;rw[yC h,yZ]
  .obtain⟨rfl,rfl⟩:=a;rw[qM (bsN TI h),yv];have hl:=yt (λv=>decide (v∈ps)) (bsN TI h);show⟨by rw[ya];show yI (qe (by lk)),λr d=>?_⟩;apply zT qb ?_;rw[qM];show q _ (qw m d)
theorem ok_bt(F:Fun K "_law_bits" "_law_bits" qbL f fd):wq9 1 f fd wq3 spBt:=by
 show F.ok KB λ_ _ _ _ H vs Q E m h=>?_
 .obtain⟨a,L,rfl,d,l,c,q⟩:=h;have n:=jT m;show⟨_,(qc (qo (i:=1) KB.nd rfl (yF rfl) qh)
 (qc (je yS rfl (qF (K:=K) rfl (pv 0)) (qi (i:=2) KB.nd rfl (yF rfl))
 (qg (qo (i:=1) KB.nd rfl (yF rfl) (qC (j9 (K:=K) rfl) (pv 1) (qC qbQ qh (pv 2))))))
 (qg (qp (pv 1))))),?_⟩
  apply .inl ⟨⟨_,.of d⟩,ju (xs:=ivs L) (λi σ J=>J=H/\∃ y,σ=[some (.ref a),some (iv (bsT (L.take i))),y]) ⟨rfl,_,rfl⟩ (λi σ J _ b=>by rw[b.1];show .of d) (λi x σ J j b=>?_) fun σ J b=>?_⟩
  .obtain⟨rfl,y,rfl⟩:=b;rw[yd] at j;obtain⟨v,hv,rfl⟩:=ym.mp j;have g:=c v (ye hv);apply vI ⟨by lk,by lk,by decide⟩ ?_;apply⟨rfl,some (iv v),?_⟩
   have e:bsT (L.take (i+1))=bsT (L.take i)+2 ^ v:=by
    unfold bsT;rw[yA,hv,yq,List.sum_append];simp
   rw[e];show [some (V.ref a),some (V.int ((bsT (L.take i):Int)+1*2 ^ (v:Int).toNat)),some (iv v)]=_;rw[show(bsT (L.take i):Int)+1*2 ^ (v:Int).toNat=((bsT (L.take i)+2 ^ v:Nat):Int) by rw[y6];simp]
  .obtain⟨rfl,y,rfl⟩:=b;rw[qM,yv];apply q
theorem ok_cm(F:Fun K "_law_columns" "_law_columns" zn f fd)(T:Txt K mg cc cw)(z:wq7 1 "_law_beside" wqh spBeI)(B:wq7 1 "_law_bits" wq3 spBt):wq9 2 f fd wqr spCm:=by
 show F.ok uI λ_ _ _ _ H vs Q E g h=>?_
 .obtain⟨l,pl,ts,TI,n,ps,rfl,t,e,s,m,j,q⟩:=h;have o:=jT g;show⟨_,(qg (qp (qL (sc:=qf zn) (XN:=wqr) ["_law_place","_law_ties"] 1 [0] rfl rfl rfl (by room) rfl (by room)
  (qF (K:=K) rfl (pv 1)) (λ_ _ _ _=>(qi (i:=0) (show(["_law_place","_law_ties"]:LS).Nodup by room) rfl (yF rfl))) qA
  (λ_ _ _ _=>jj)
  (λ_ _ _ _=>(qk B (hmR g) qt (qa (qk z (hmR g) qt (qa (pv 1) (qa (pv 0) qd))) qd)))))),?_⟩
  apply .inl ⟨⟨_,.of m⟩,qr (xs:=ivs ps) (λi ys J=>L2.Same H J/\ys=ivs ((ps.take i).map (qO TI))) ⟨L2.Same.refl H,by simp⟩ (λi ys J _ a=>.of (a.1 _ _ m)) (λi x ys J p a=>?_) λys J a=>?_⟩
  .obtain⟨d,rfl⟩:=a;rw[yd] at p;obtain⟨v,hv,rfl⟩:=ym.mp p;apply zu ?_;apply⟨l,ts,TI,v,n,rfl,t.same d,e,λb H1 A y hb=>?_⟩;show⟨b,bsN TI v,rfl,hb,qcf e v,λu o=>by have:=(e.adj ((zl e).mp o)).2.1;lk,?_⟩;show⟨by rw[ya,ya,yH];show qe (by lk),d.trans A,?_⟩;rw[yA,hv,yq];show _=List.map iv _;rw[yq];rfl
  .obtain⟨d,rfl⟩:=a;rw[qM ps,yv];show⟨by rw[ya,ya];show yI (qe (by lk)),λr c=>?_⟩;show q r _ (qw d c) (d.free c) qb
theorem ok_lo(F:Fun K "_law_lost" "_law_lost" qbf f fd)(T:Txt K mg cc cw)(U:wq7 3 "_law_near" wqb (spNrI false))(C:wq7 2 "_law_columns" wqr spCm)(D:wq7 1 "_law_swept" wq1 spSw):wq9 4 f fd wqb spLo:=by
 show F.ok KW λ_ _ _ s H vs Q E m h=>?_
 .obtain⟨l,ts,TI,st,n,cl,rfl,y,j,a,e,Y,q⟩:=h;have O:=jT m;have nl:=qch (n:=n) (TI:=TI) (cl:=cl) (s:=st) (c:=(cl st ^^ false));have I:((nr TI cl n st (cl st ^^ false)).filter λv=>!decide (v=st))=oth TI cl n st:=by unfold oth;rw[Yp]
  show⟨_,(qc (qo (i:=2) KW.nd rfl (yF rfl) (qk U (hmR m) qt (qa (pv 0) (qa (pv 1) qd))))
 (qc (jM (sc:=qf qbf) (XN:=wqG) ["_law_place","_law_start"] 1 [1] rfl rfl rfl (by room) rfl (by room) (i:=3) KW.nd rfl rfl
  (qF (K:=K) rfl (pv 2)) (λ_ _ _ _=>(qi (i:=0) (show(["_law_place","_law_start"]:LS).Nodup by room) rfl (yF rfl))) qA
  (λ_ _ _ _=>(qE (qm (zv (K:=K) rfl O) (pv 0) (pv 1) (qv _))))
  (λ_ _ _ _=>(pv 0)))
 (qg (qp (jL (jX (K:=K) rfl O) (qk D (hmR m) qt (qa (qk C (hmR m) qt (qa (pv 0) (qa (pv 2) qd))) qd)) (qk D (hmR m) qt (qa (qk C (hmR m) qt (qa (pv 0) (qa (pv 3) qd))) qd)) (qv _)))))),?_⟩
  apply⟨l,ts,TI,st,n,cl,rfl,y,j,a,e,Y,λb H1 s1 Z hb=>?_⟩;apply .inl ⟨⟨_,.of hb⟩,qr (xs:=ivs (nr TI cl n st (cl st ^^ false))) (λi ys J=>J=H1/\ys=ivs (((nr TI cl n st (cl st ^^ false)).take i).filter λv=>!decide (v=st))) ⟨rfl,by simp⟩ (λi ys J _ hp=>by rw[hp.1];show .of hb) (λi x ys J R d=>?_) λys J d=>?_⟩
  .obtain⟨rfl,rfl⟩:=d;rw[yd] at R;obtain⟨v,hv,rfl⟩:=ym.mp R;apply qfx ?_;ext;rw[show(!decide ((v:Int)=(st:Int)))=!decide (v=st) by congr 1;show Yi.mpr (by lk),qab hv];show qP (λh=>?_) (λh=>?_)
   .ext;show⟨by rw[ya];show qe (za (by lk)),rfl,?_⟩;rw[yG h];show _=List.map iv _;rw[yq];rfl
   .show⟨rfl,?_⟩;rw[yC h,yZ]
  .obtain⟨rfl,rfl⟩:=d;rw[qM (nr TI cl n st (cl st ^^ false)),yv,I];have ol:(oth TI cl n st).length<=n:=by rw[<- I];show yh (yt _ _) nl
   show⟨by rw[ya];show yI (qe (by lk)),λr t=>?_⟩;have u:=qw s1 (o:=.lst (ivs (oth TI cl n st))) t;have G:=qw (Sr J) (o:=.lst (ivs (oth TI cl n st))) t _ _ hb;have M:upd J r (.lst (ivs (oth TI cl n st))) r=some (.lst (ivs (oth TI cl n st))):=qb;generalize upd J r (.lst (ivs (oth TI cl n st)))=J2 at u G M;apply⟨l,b,ts,TI,n,_,rfl,y.same u,j,a,G,by lk,λW H3 s3 aa A=>?_⟩;show⟨W,_,rfl,A,by rw[ya];lk,λH4 s4=>?_⟩;ext;have g:=s3.trans s4;show⟨l,r,ts,TI,n,_,rfl,y.same (u.trans g),j,a,g _ _ M,by lk,λX H5 s5 N B=>?_⟩;show⟨X,_,rfl,B,by rw[ya];lk,λH6 s6=>?_⟩;show qeU ?_;show q _ _ ((u.trans g).trans (s5.trans s6)) ?_;have big:∀{L:LN},∀ v∈L.map (qO TI),v<2 ^ n:=λ{L} v hv=>by obtain⟨w,_,rfl⟩:=yJ.mp hv;show qcg j w
   have p:∀{L:LN},∀ v∈L.map (qO TI),v<2 ^ 14:=λ{L} v hv=>yi (big v hv) (Yl (by decide) a);have S:∀ L:LN,swp 14 0 (L.map (qO TI))=swp n 0 (L.map (qO TI)):=λL=>(qfD (by decide) p).trans (qfD (by lk) big).symm;rw[S,S,yD,Yp];show⟨λz=>(qeL j e).mp (by lk),λz=>by have:=(qeL j e).mpr z;lk⟩
theorem ux:FnScope wqp wqF (qf qaF):=fS
theorem qdJ{a b:Addr}{Q:VK}(c:H a=some (.lst xs))(hb:H b=some (.lst []))(q:Q (.bl xs.isEmpty) H):qgN K (.ref a) (.ref b) H Q:=
 .inl (.inl (.inr (.inl ⟨a,b,xs.isEmpty,1,rfl,rfl,by decide,qfF c hb,q⟩)))
inductive spEv(vs:List V)(H:Hp)(Q:VK)(E:XK):Prop|mk (l pl:Addr) (ts:LI) (TI:List (Nat×Nat)) (s n:Nat) (cl:Nat->Bool) (ps:LN) (_:vs=[.ref l,iv s,.ref pl]) (_:IPL H l ts TI) (_:TIok n TI) (_:n<=14) (_:s<n) (_:(∀ a b,adjI TI a b->cl b=!cl a)) (_:H pl=some (.lst (ivs ps))) (_:(∀ v∈ps,v∈nr TI cl n s (cl s))) (_:(∀ f,f<n->cl f=(!cl s)->oft TI f ps % 2=0)) (_:∀ H',L2.Same H H'->Q (.bl true) H')
theorem ok_ev(F:Fun K "_law_even" "_law_even" qaF f fd)(T:Txt K mg cc cw)(Kx:wq7 3 "_law_near" wqb (spNrI false))(Uj:wq7 3 "_law_far" wqb (spNrI true))(Uc:wq7 2 "_law_often" wqm spOf):wq9 4 f fd wqF spEv:=by
 show F.ok ux λ_ _ _ _ H vs Q E z h=>?_
 .obtain⟨l,pl,ts,TI,st,n,cl,ps,rfl,L,M,j,m,hC,S,U,R,q⟩:=h;have A:=jT z;show⟨_,(qc (qo (i:=3) ux.nd rfl (YX rfl) (qk Kx (hmR z) qt (qa (pv 0) (qa (pv 1) qd))))
 (qc (qR (qm (zv (K:=K) rfl A) (qL (sc:=qf qaF) (XN:=wqp) ["_law_one","_law_near_here"] 1 [3] rfl rfl rfl (by room) rfl (by room)
  (qF (K:=K) rfl (pv 2)) (λ_ _ _ _=>(qi (i:=0) (show(["_law_one","_law_near_here"]:LS).Nodup by room) rfl (yF rfl))) qA
  (λ_ _ _ _=>(qE (qm (zb (K:=K) rfl A) (pv 0) (pv 1) (by with_unfolding_all rfl))))
  (λ_ _ _ _=>(pv 0))) (qZ qd) (qv _)) (qg (qp qah)) qu)
 (qg (qp (jL (jX (K:=K) rfl A) (qL (sc:=qf qaF) (XN:=wqp) wqU 1 [0,2] rfl rfl rfl (by room) rfl (by room)
  (qF (K:=K) rfl (qk Uj (hmR z) qt (qa (pv 0) (qa (pv 1) qd)))) (λ_ _ _ _=>(qi (i:=0) (show(wqU:LS).Nodup by room) rfl (yF rfl))) qA
  (λ_ _ _ _=>(qE (qm (jX (K:=K) rfl A) (qC zh (qk Uc (hmR z) qt (qa (pv 1) (qa (pv 0) (qa (pv 2) qd)))) qh) qh (qv _))))
  (λ_ _ _ _=>(pv 0))) (qZ qd) (qv _)))))),?_⟩
  apply⟨l,ts,TI,st,n,cl,rfl,L,M,j,m,hC,λb H1 Z aa hb=>?_⟩;rw[Yp] at hb;apply .inl ⟨⟨_,.of (Z _ _ S)⟩,qr (xs:=ivs ps) (λi ys J=>J=H1/\ys=[]) ⟨rfl,rfl⟩ (λi ys J _ a=>by rw[a.1];show .of (Z _ _ S)) (λi x ys J s a=>?_) λys J a=>?_⟩
  .obtain⟨rfl,rfl⟩:=a;rw[yd] at s;obtain⟨v,hv,rfl⟩:=ym.mp s;apply qhm hb ?_;ext;rw[yw (U v (ye hv))];show qP (λh=>by cases h) λ_=>⟨rfl,rfl⟩
  .obtain⟨rfl,rfl⟩:=a;show⟨wqqb,λr W=>?_⟩;have s2:=qw Z (o:=.lst []) W;have er:upd J r (.lst []) r=some (.lst []):=qb;generalize upd J r (.lst [])=D at s2 er;apply⟨wqqb,λe N=>?_⟩;have s3:=qw (Sr D) (o:=.lst []) N;have ee:upd D e (.lst []) e=some (.lst []):=qb;generalize upd D e (.lst [])=J3 at s3 ee;have t:=s2.trans s3;show qeM (s3 _ _ er) ee ?_;apply yp ?_;apply⟨l,ts,TI,st,n,cl,rfl,L.same t,M,j,m,hC,λc H4 s4 ab hc=>?_⟩;have u:=t.trans s4;show .inl ⟨⟨_,.of hc⟩,qr (xs:=ivs (nr TI cl n st (cl st ^^ true))) (λi ys J=>L2.Same H4 J/\ys=[]) ⟨L2.Same.refl H4,rfl⟩ (λi ys J _ a=>.of (a.1 _ _ hc)) (λi x ys J s a=>?_) λys J a=>?_⟩
   .obtain⟨C,rfl⟩:=a;rw[yd] at s;obtain⟨v,hv,rfl⟩:=ym.mp s;have p:=nr_mem.mp (ye hv);have y:=u.trans C;apply⟨l,pl,ts,TI,v,n,ps,rfl,L.same y,M,y _ _ S,λH5 B=>?_⟩;apply vI (by decide) ?_;show qeU ?_;ext;have hz:=R v p.1 (by rw[p.2.2,kc]);rw[yk (show ¬ ((oft TI v ps:Nat):Int) % 2=1 by lk)];show qP (λh=>by cases h) λ_=>⟨C.trans B,rfl⟩
   .obtain⟨C,rfl⟩:=a;show⟨wqqb,λY X=>?_⟩;have B:=qw (u.trans C) (o:=.lst []) X;have g:upd J Y (.lst []) Y=some (.lst []):=qb;generalize upd J Y (.lst [])=G at B g;apply⟨wqqb,λI O=>?_⟩;have s6:=qw (Sr G) (o:=.lst []) O;have d:upd G I (.lst []) I=some (.lst []):=qb;generalize upd G I (.lst [])=J6 at s6 d;show qdJ (s6 _ _ g) d (q _ (B.trans s6))
theorem uB:FnScope wqw wqw (qf j5):=fS
theorem qdK{n:Addr}{Q:VK}(a:H n=some (.lst (ss.map V.str)))(q:Q (.bl (decide (z∈ss))) H):qgn K false (.str z) (.ref n) H Q:=
 .inl ⟨n,_,rfl,.inl (.of a),rfl,Yy.mpr λx b=>by(obtain⟨s,_,rfl⟩:=yJ.mp b;rfl),by rw[yC (by decide),qfq];show q⟩
theorem range_map(ss:LS):(List.range ss.length).map (λi=>ss.getD i "")=ss:=by
 apply List.ext_getElem?;intro i;rw[yd];by_cases h:i<ss.length
 .rw [List.getElem?_range h,yb h];simp[List.getD,h]
 .rw [Xz (by simpa using h),Xz (by lk)];rfl
theorem tn_map(ss:LS):(List.range ss.length).map (tn ss)=ss:=range_map ss
theorem qfG(ss:LS)(q:Str->Bool):ss.filter q=((List.range ss.length).filter λi=>q (tn ss i)).map (tn ss):=by
 conv=>lhs;arg 2;rw[<- tn_map ss]
 rw[XS];rfl
def qcG(TI:List (Nat×Nat))(n s:Nat):LN:=(List.range n).filter λv=>@decide (RI TI s v) (Classical.propDecidable _)
theorem cmp_mem{TI:List (Nat×Nat)}:v∈qcG TI n s↔v<n/\RI TI s v:=by
 unfold qcG;rw[yo,y7,@decide_eq_true_iff _ (Classical.propDecidable _)]
theorem qgC{TI:List (Nat×Nat)}{c:Bool}:(qcG TI n s).filter (λv=>decide (cl v=c))=nr TI cl n s c:=by
 unfold qcG nr;rw[X0];show YD λv _=>?_;rw[yW,y1,yD,@decide_eq_true_iff _ (Classical.propDecidable _),@decide_eq_true_iff _ (Classical.propDecidable _)];show And.comm
theorem comp_eq{TI:List (Nat×Nat)}{k:Nat}(d:ss.Nodup)(c:BI ns TI)(b:ss[s]?=some y)(h:y∈qca ss ns k):qca ss ns k=(qcG TI ss.length s).map (tn ss):=by
 have f:=(yc.mp b).1;have e:ss.idxOf y=s:=jf d (by rw[yb (Yh (ye b))];show congrArg some (Yw _)) b;unfold qca at h ⊢;have a:=@yj _ (Classical.propDecidable _) (yo.mp h).2;rw[e,qeI c] at a;rw[qfG];unfold qcG
 congr 1
 show YD λv hv=>?_;rw[qas d (y7.mp hv),yW,@decide_eq_true_iff _ (Classical.propDecidable _),@decide_eq_true_iff _ (Classical.propDecidable _),qeI c];show⟨λz=>a.symm.trans z,λz=>a.trans z⟩
theorem rep_has{TI:List (Nat×Nat)}(l:ss.Nodup)(e:BI ns TI)(d:ss[s]?=some y):∃ k,k∈qeY ns ss.length/\y∈qca ss ns k:=by
 have n:=(yc.mp d).1;have g:ss.idxOf y=s:=jf l (by rw[yb (Yh (ye d))];show congrArg some (Yw _)) d
 have f:∃ k,k<=s/\RI TI k s/\∀ j,j<k->¬ RI TI j s:=by
  have:∀ m,(∃ k,k<=m/\k<=s/\RI TI k s)->∃ k,k<=s/\RI TI k s/\∀ j,j<k->¬ RI TI j s:=λm=>by
   induction m with
   | zero=>rintro⟨k,h,h1,a⟩;show⟨k,h1,a,λj b=>by lk⟩
   | succ m ih =>
    rintro⟨k,h,h1,a⟩;by_cases z:∃ j,j<k/\RI TI j s
    .obtain⟨j,b,c⟩:=z;show ih ⟨j,by lk,by lk,c⟩
    .show⟨k,h1,a,λj b c=>z ⟨j,b,c⟩⟩
  show this s ⟨s,yg _,yg _,.refl⟩
 obtain⟨k,h1,a,i⟩:=f;show⟨k,?_,?_⟩
 .unfold qeY;show yo.mpr ⟨y7.mpr (by lk),isRep_iff.mpr λj b c=>i j b (((qeI e).mp c).trans a)⟩
 .unfold qca;show yo.mpr ⟨ye d,@decide_eq_true _ (Classical.propDecidable _) ?_⟩;rw[g];show(qeI e).mpr a
inductive spPw(cw:Addr)(vs:List V)(H:Hp)(Q:VK)(E:XK):Prop|mk (x:Addr) (ss:LS) (ns:LN) (TI:List (Nat×Nat)) (s:Nat) (y:Str) (_:vs=[.ref x,.str y]) (_:Wt cw H x ss ns (TI.map (nmP ss))) (_:TIok ss.length TI) (_:ss[s]?=some y) (_:∀(l:Addr) (H':Hp),L2.Same H H'->H l=none->H' l=some (.lst (((qcG TI ss.length s).map (tn ss)).map V.str))->Q (.ref l) H')
theorem ok_pw2(F:Fun K "piece_with" "piece_with" j5 f fd)(T:Txt K mg cc cw)(uJ:wq8 3 cw "pieces" wqf (spPcs cw)):wq9 4 f fd wqw (spPw cw):=by
 show F.ok uB λ_ _ _ _ H vs Q E O h=>?_
 .obtain⟨x,ss,ns,TI,st,y,rfl,W,U,S,q⟩:=h;have e:=jT O;have L:=W.bi U;have N:=W.wok.nd;obtain⟨wx,d,ol,nn,hb,X,aa,Z,hw⟩:=id W.web;show⟨_,(qg (qp (qx (qz (K:=K) rfl e) (qL (sc:=qf j5) (XN:=wqw) ["piece","place"] 1 [1] rfl rfl rfl (by room) rfl (by room)
  (qF (K:=K) rfl (qT uJ (hmR O) (pv 0))) (λ_ _ _ _=>(qi (i:=0) (show(["piece","place"]:LS).Nodup by room) rfl (yF rfl))) qA
  (λ_ _ _ _=>(qE (qm (qcP (K:=K) rfl e) (pv 1) (pv 0) (by with_unfolding_all rfl))))
  (λ_ _ _ _=>(pv 0))) qh (λ_ _=>rfl)))),?_⟩
  apply⟨x,wx,_,rfl,hb,jU (by room),?_⟩;apply⟨x,ss,ns,rfl,W.web,λl G H1 s1 Y hl t=>?_⟩
  have M:G.length<=14:=by
   rw[t.len,ya];unfold qeY;have:=yt (qeS ns) (List.range ss.length);rw[Yc] at this;have:=W.wok.few;lk
  have cont:∀ i a,G[i]?=some a->∃ k,(qeY ns ss.length)[i]?=some k/\H a=none/\H1 a=some (.lst ((qca ss ns k).map V.str)):=λi a g=>by
   have B:=(yc.mp g).1;rw[t.len,ya] at B;have I:=yb B;have:=t.at_ i a _ g (by rw[yd,I];rfl);show⟨_,I,this.1,this.2.2⟩
  show .inl ⟨⟨_,.of hl⟩,qr (xs:=G.map V.ref) (λi ys J=>J=H1/\∃ us:LI,ys=us.map V.ref/\us.length<=i/\(∀ u∈us,H u=none/\H1 u=some (.lst (((qcG TI ss.length st).map (tn ss)).map V.str)))/\(us=[]->∀ k∈(qeY ns ss.length).take i,y∉qca ss ns k)) ⟨rfl,[],rfl,yg _,λu e=>(by cases e),λ_ k m=>by simp at m⟩ (λi ys J _ o=>by rw[o.1];show .of hl) (λi v ys J R o=>?_) λys J o=>?_⟩
  .obtain⟨rfl,us,rfl,s,c,b⟩:=o;rw[yd] at R;obtain⟨a,g,rfl⟩:=ym.mp R;have B:=(yc.mp g).1;obtain⟨k,m,A,j⟩:=cont i a g;apply qdK j ?_;apply qP (λh=>?_) (λh=>?_)
   .have C:=yj h;apply⟨by rw[ya];show qe (by lk),rfl,us++[a],by rw[yq];rfl,by rw[yu];show us.length+1<=i+1;lk,λu e=>?_,λz=>by simp at z⟩;rcases yO.mp e with z | z
    .show c u z
    .rw [yx.mp z,<- comp_eq N L S C];show⟨A,j⟩
   .show⟨rfl,us,rfl,by lk,c,λz k' n=>?_⟩;rw[yA,m] at n;rcases yO.mp n with z' | z'
    .show b z k' z'
    .rw [yx.mp z'];show λz=>h (yw z)
  .obtain⟨rfl,us,rfl,s,c,b⟩:=o;rw[ya] at s b;obtain⟨k,m,D⟩:=rep_has N L S
   cases us with
   | nil =>
    show absurd D (b rfl k ?_);rw[t.len,ya,yv];show m
   | cons u us =>
    show⟨by rw[ya];show yI (qe (by lk)),λr p=>?_⟩;apply .inl (qbD (i:=0) (v:=.ref u) qb (by unfold atI;rw[ya,show(0:Int)=((0:Nat):Int) from rfl,zk (by simp)];rfl) ?_);have:=c u yK;show q u _ (qw s1 p) this.1 (qw (Sr J) p _ _ this.2)
theorem Ky:FnScope ["web","start","sides","own"] wqc (qf zo):=fS
theorem K7:FnScope ["web","start","near"] wqc (qf zM):=fS
theorem qfH{n:Addr}{Q:VK}(a:H n=some (.lst (ss.map V.str)))(q:Q (.bl (!decide (z∈ss))) H):qgn K true (.str z) (.ref n) H Q:=
 .inl ⟨n,_,rfl,.inl (.of a),rfl,Yy.mpr λx b=>by(obtain⟨s,_,rfl⟩:=yJ.mp b;rfl),by rw[yG rfl,qfq];show q⟩
theorem qgD{TI:List (Nat×Nat)}(c:ss.Nodup)(f:TIok ss.length TI){a b:Str}(h:tA (TI.map (nmP ss)) a b):adjI TI (ss.idxOf a) (ss.idxOf b):=by
 have m:∀ x y,(x,y)∈TI.map (nmP ss)->(ss.idxOf x,ss.idxOf y)∈TI:=λx y h=>by
  obtain⟨p,d,e⟩:=yJ.mp h;have k:=f.ok p d;cases e;rw[qas c (by lk),qas c k.2];show d
 show h.imp (m a b) (m b a)
theorem adj_tA{TI:List (Nat×Nat)}(h:adjI TI i j):tA (TI.map (nmP ss)) (tn ss i) (tn ss j):=
 h.imp (λz=>yJ.mpr ⟨_,z,rfl⟩) λz=>yJ.mpr ⟨_,z,rfl⟩
theorem ri_rc{TI:List (Nat×Nat)}(h:RI TI i j):Rc (tA (TI.map (nmP ss))) (tn ss i) (tn ss j):=by
 induction h with
 | refl=>show .refl
 | on _ t ih=>show ih.on (adj_tA t)
def qN(ss:LS)(l:LN):List V:=(l.map (tn ss)).map V.str
inductive spNS(cw:Addr)(far:Bool)(vs:List V)(H:Hp)(Q:VK)(E:XK):Prop|mk (x:Addr) (ss:LS) (ns:LN) (TI:List (Nat×Nat)) (s:Nat) (cl:Nat->Bool) (_:vs=[.ref x,.str (tn ss s)]) (_:Wt cw H x ss ns (TI.map (nmP ss))) (_:TIok ss.length TI) (_:s<ss.length) (_:(∀ a b,adjI TI a b->cl b=!cl a)) (_:∀(l:Addr) (H':Hp),L2.Same H H'->H l=none->H' l=some (.lst (qN ss (nr TI cl ss.length s (cl s ^^ far))))->Q (.ref l) H')
theorem qbg{f:Nat->Bool}(h:L[i]?=some v):qN ss ((L.take (i+1)).filter f)=qN ss ((L.take i).filter f)++if f v=true then [V.str (tn ss v)] else []:=by
 unfold qN;rw[qab h,yq,yq];split<;>rfl
theorem zq{x:V}(h:(qN ss L)[i]?=some x):∃ v,L[i]?=some v/\x=.str (tn ss v):=by
 unfold qN at h;rw[yd] at h;obtain⟨y,a,rfl⟩:=ym.mp h;rw[yd] at a;obtain⟨v,hv,rfl⟩:=ym.mp a;show⟨v,hv,rfl⟩
theorem qG(ss:LS)(L:LN):(qN ss L).length=L.length:=by unfold qN;rw[ya,ya]
theorem ok_nS(F:Fun K "near_side" "near_side" zo f fd)(T:Txt K mg cc cw)(kI:wq8 4 cw "number_of" wqa (spNum cw))(uZ:wq7 9 "sides_of" ["web"] (spSd cw))(Kz:wq7 4 "piece_with" wqw (spPw cw)):wq9 10 f fd wqc (spNS cw false):=by
 show F.ok Ky λ_ _ _ s H vs Q E g h=>?_
 .obtain⟨x,ss,ns,TI,st,cl,rfl,W,X,I,hC,q⟩:=h;have B:=jT g;have N:=W.wok.nd;have few:=W.wok.few;have A:=zK I;obtain⟨wx,dd,ol,nn,hb,_⟩:=id W.web;show⟨_,(qc (qU (qH kI (hmR g) (pv 0) (qa (pv 1) qd)))
 (qc (qo (i:=2) Ky.nd rfl (yF rfl) (qk uZ (hmR g) qt (qa (pv 0) qd)))
 (qc (qo (i:=3) Ky.nd rfl (YX rfl) (qcK (qm (qcP (K:=K) rfl B) (pv 1) (qx (qz (K:=K) rfl B) (pv 2) qh (λ_ _=>rfl)) (by with_unfolding_all rfl)) (qx (qz (K:=K) rfl B) (pv 2) qh (λ_ _=>rfl)) (qx (qz (K:=K) rfl B) (pv 2) qh (λ_ _=>rfl))))
 (qg (qp (qL (sc:=qf zo) (XN:=["web","start","sides","own"]) ["place","own"] 1 [3] rfl rfl rfl (by room) rfl (by room)
  (qF (K:=K) rfl (qk Kz (hmR g) qt (qa (pv 0) (qa (pv 1) qd)))) (λ_ _ _ _=>(qi (i:=0) (show(["place","own"]:LS).Nodup by room) rfl (yF rfl))) qA
  (λ_ _ _ _=>(qE (qm (qcP (K:=K) rfl B) (pv 0) (pv 1) (by with_unfolding_all rfl))))
  (λ_ _ _ _=>(pv 0)))))))),?_⟩
  apply⟨x,wx,_,rfl,hb,jU (by room),?_⟩;apply⟨x,ss,ns,tn ss st,st,rfl,W.web,A,λH1 Z=>?_⟩;apply⟨x,ss,ns,_,λz=>cl (ss.idxOf z),rfl,W.same Z,λa b h=>hC _ _ (qgD N X h),λd t S Y H2 s2 hd O h1 h2=>?_⟩;have D:=Z.trans s2;have m:(tn ss st∈ss.filter d)↔d (tn ss st)=true:=by rw[yo];show⟨λz=>z.2,λz=>⟨qaL I,z⟩⟩
  have same:∀ v,v∈qcG TI ss.length st->(d (tn ss v)=d (tn ss st)↔cl v=cl st):=λv hv=>by
   obtain⟨R,g⟩:=cmp_mem.mp hv;have:=hd (tn ss st) (tn ss v) (qaL I) (ri_rc g);rw[qas N I,qas N R] at this;show⟨λz=>(this.mp z.symm).symm,λz=>(this.mpr z.symm).symm⟩
  have U:(qcG TI ss.length st).length<=14:=by
   unfold qcG;show yh (yt _ _) ?_;rw[Yc];show few
  have j:∀(o:Addr) (f:Str->Bool),H2 o=some (.lst ((ss.filter f).map V.str))->(∀ v∈qcG TI ss.length st,f (tn ss v)=decide (cl v=(cl st ^^ false)))->qht (qf8 (qhq K (qf5 (spPw cw) [] E0 (qak (qgd 0) (qak (qgd 1) qgI)))) (qco 0) (qf3 (tOp (qgn K false) (qgd 0) (qgd 1))) (qgd 0) 1 [3]) { nx:=λ_ H'=>Q V.non H',rt:=Q } [some (.ref x),some (.str (tn ss st)),some (.ref t),some (.ref o)] H2:=λo f eo ef=>by
   apply⟨x,ss,ns,TI,st,_,rfl,W.same D,X,A,λl H3 s3 aa hl=>?_⟩;have G:=D.trans s3;have M:=s3 _ _ eo;show .inl ⟨⟨_,.of hl⟩,qr (xs:=qN ss (qcG TI ss.length st)) (λi ys J=>J=H3/\ys=qN ss (((qcG TI ss.length st).take i).filter λv=>decide (cl v=(cl st ^^ false)))) ⟨rfl,by simp[qN]⟩ (λi ys J _ p=>by rw[p.1];show .of hl) (λi y ys J hy p=>?_) λys J p=>?_⟩
   .obtain⟨rfl,rfl⟩:=p;obtain⟨v,hv,rfl⟩:=zq hy;have C:=ye hv;apply qdK M ?_
    have e:decide (tn ss v∈ss.filter f)=decide (cl v=(cl st ^^ false)):=by
     rw[<- ef v C,yW,yD,yo];show⟨λz=>z.2,λz=>⟨qaL (cmp_mem.mp C).1,z⟩⟩
    rw[e];ext;rw[qbg hv];show qP (λh=>?_) (λh=>?_)
    .ext;show⟨by rw[qG];show qe (za (by lk)),rfl,?_⟩;rw[yG h]
    .show⟨rfl,?_⟩;rw[yC h,yZ]
   .obtain⟨rfl,rfl⟩:=p;rw[qG (L:=qcG TI ss.length st),yv,qgC];have nl:=qch (n:=ss.length) (TI:=TI) (cl:=cl) (s:=st) (c:=(cl st ^^ false));show⟨by rw[qG];show yI (qe (by lk)),λr u=>?_⟩;show q r _ (qw G u) (G.free u) qb
  apply .inl (qcp O (v:=.ref S) rfl ?_);show qdK h1 ?_;apply qP (λh=>?_) (λh=>?_)
  .have e:=m.mp (yj h);apply .inl (qcp O (v:=.ref S) rfl ?_);show j S d h1 λv hv=>?_;rw[Yp,yW,yD,<- same v hv,e]
  .have e:d (tn ss st)=false:=by
    cases z:d (tn ss st) with
    | false=>rfl
    | true=>show absurd (yw (m.mpr z)) h
   apply .inl (qcp O (v:=.ref Y) rfl ?_);show j Y (λs=>!d s) h2 λv hv=>?_;rw[Yp,yW,yD,<- same v hv,e];cases d (tn ss v)<;>decide
theorem ok_fS(F:Fun K "far_side" "far_side" zM f fd)(T:Txt K mg cc cw)(kW:wq7 10 "near_side" wqc (spNS cw false))(S:wq7 4 "piece_with" wqw (spPw cw)):wq9 11 f fd wqc (spNS cw true):=by
 show F.ok K7 λ_ _ _ s H vs Q E d h=>?_
 .obtain⟨x,ss,ns,TI,st,cl,rfl,W,G,M,U,q⟩:=h;have B:=jT d;have Y:=W.wok.nd;have few:=W.wok.few;have A:=zK M
  have D:(qcG TI ss.length st).length<=14:=by
   unfold qcG;show yh (yt _ _) ?_;rw[Yc];show few
  show⟨_,(qc (qo (i:=2) K7.nd rfl (YX rfl) (qk kW (hmR d) qt (qa (pv 0) (qa (pv 1) qd))))
 (qg (qp (qL (sc:=qf zM) (XN:=["web","start","near"]) ["place","near"] 1 [2] rfl rfl rfl (by room) rfl (by room)
  (qF (K:=K) rfl (qk S (hmR d) qt (qa (pv 0) (qa (pv 1) qd)))) (λ_ _ _ _=>(qi (i:=0) (show(["place","near"]:LS).Nodup by room) rfl (yF rfl))) qA
  (λ_ _ _ _=>(qE (qm (zb (K:=K) rfl B) (pv 0) (pv 1) (by with_unfolding_all rfl))))
  (λ_ _ _ _=>(pv 0)))))),?_⟩
  apply⟨x,ss,ns,TI,st,cl,rfl,W,G,M,U,λo H2 N Z I=>?_⟩;rw[Yp] at I;ext
  .show⟨x,ss,ns,TI,st,_,rfl,W.same N,G,A,λl R O X hl=>?_⟩;have m:=N.trans O;have p:=O _ _ I;show .inl ⟨⟨_,.of hl⟩,qr (xs:=qN ss (qcG TI ss.length st)) (λi ys J=>J=R/\ys=qN ss (((qcG TI ss.length st).take i).filter λv=>decide (cl v=(cl st ^^ true)))) ⟨rfl,by simp[qN]⟩ (λi ys J _ b=>by rw[b.1];show .of hl) (λi y ys J hy b=>?_) λys J b=>?_⟩
   .obtain⟨rfl,rfl⟩:=b;obtain⟨v,hv,rfl⟩:=zq hy;have C:=ye hv;apply qfH p ?_
    have e:(!decide (tn ss v∈(nr TI cl ss.length st (cl st)).map (tn ss)))=decide (cl v=(cl st ^^ true)):=by
     obtain⟨j,d⟩:=cmp_mem.mp C;rw[yW,YF,Yn,yD,yJ,kc];constructor
     .intro z;cases h1:cl v<;>cases t:cl st<;>first | rfl | show absurd ⟨v,nr_mem.mpr ⟨j,d,h1.trans t.symm⟩,rfl⟩ z
     .rintro z ⟨u,B,e⟩;have a:=nr_mem.mp B;rw[jR Y a.1 j e,z] at a;have:=a.2.2;cases t:cl st<;>rw[t] at this<;>cases this
    rw[e];ext;rw[qbg hv];show qP (λh=>?_) (λh=>?_)
    .ext;show⟨by rw[qG];show qe (za (by lk)),rfl,?_⟩;rw[yG h]
    .show⟨rfl,?_⟩;rw[yC h,yZ]
   .obtain⟨rfl,rfl⟩:=b;rw[qG (L:=qcG TI ss.length st),yv,qgC];have nl:=qch (n:=ss.length) (TI:=TI) (cl:=cl) (s:=st) (c:=(cl st ^^ true));show⟨by rw[qG];show yI (qe (by lk)),λr g=>?_⟩;show q r _ (qw m g) (m.free g) qb
theorem KQ:FnScope wqH wqH (qf q9):=fS
theorem uS:FnScope wqB wqB (qf zN):=fS
theorem Ud:FnScope wqw wqw (qf qbM):=fS
inductive spBe(cw:Addr)(vs:List V)(H:Hp)(Q:VK)(E:XK):Prop|mk (x l:Addr) (ss:LS) (ns:LN) (TI:List (Nat×Nat)) (L:LN) (_:vs=[.ref x,.ref l]) (_:Wt cw H x ss ns (TI.map (nmP ss))) (_:TIok ss.length TI) (_:H l=some (.lst (qN ss L))) (_:L.length<=14) (_:(∀ v∈L,v<ss.length)) (_:∀(b:Addr) (H':Hp),L2.Same H H'->H b=none->H' b=some (.lst (ivs (L.map (qO TI))))->Q (.ref b) H')
inductive spNa(vs:List V)(H:Hp)(Q:VK)(E:XK):Prop|mk (l m:Addr) (ss:LS) (L P:LN) (_:vs=[.ref l,.ref m]) (_:H l=some (.lst (qN ss L))) (_:H m=some (.lst (ivs P))) (_:P.length<=100) (_:(∀ i∈P,i<L.length)) (_:∀(b:Addr) (H':Hp),L2.Same H H'->H b=none->H' b=some (.lst (qN ss (P.map λi=>L.getD i 0)))->Q (.ref b) H')
inductive spBi(cw:Addr)(vs:List V)(H:Hp)(Q:VK)(E:XK):Prop|mk (x:Addr) (ss:LS) (ns:LN) (s:Nat) (_:vs=[.ref x,.str (tn ss s)]) (_:WebAt cw H x ss ns) (_:s<ss.length) (_:ss.length<=14) (_:∀ H',L2.Same H H'->Q (iv (1 <<< s)) H')
theorem ok_be(F:Fun K "bits_beside_each" "bits_beside_each" q9 f fd)(T:Txt K mg cc cw)(p:wq8 5 cw "bits_beside" wqa (spBB cw)):wq9 6 f fd wqH (spBe cw):=by
 show F.ok KQ λ_ _ _ _ H vs Q E j h=>?_
 .obtain⟨x,l,ss,ns,TI,L,rfl,W,g,hl,m,n,q⟩:=h;have z:=jT j;show⟨_,(qg (qp (qL (sc:=qf q9) (XN:=wqH) ["place","web"] 1 [0] rfl rfl rfl (by room) rfl (by room)
  (qF (K:=K) rfl (pv 1)) (λ_ _ _ _=>(qi (i:=0) (show(["place","web"]:LS).Nodup by room) rfl (yF rfl))) qA
  (λ_ _ _ _=>jj)
  (λ_ _ _ _=>(qH p (hmR j) (pv 1) (qa (pv 0) qd)))))),?_⟩
  apply .inl ⟨⟨_,.of hl⟩,qr (xs:=qN ss L) (λi ys J=>L2.Same H J/\ys=ivs ((L.take i).map (qO TI))) ⟨L2.Same.refl H,by simp⟩ (λi ys J _ a=>.of (a.1 _ _ hl)) (λi y ys J o a=>?_) λys J a=>?_⟩
  .obtain⟨c,rfl⟩:=a;obtain⟨v,hv,rfl⟩:=zq o;have d:=n v (ye hv);have e:=W.same c;obtain⟨t,u,ol,A,hb,_⟩:=id e.web;apply zu ?_;apply⟨x,t,_,rfl,hb,jU (by room),?_⟩;apply⟨x,ss,ns,tn ss v,v,rfl,e.web,zK d,λH1 s=>?_⟩;rw[(W.bi g).col g v];show⟨by rw[ya,ya,yH];show qe (by lk),c.trans s,?_⟩;rw[yA,hv,yq];show _=List.map iv _;rw[yq];rfl
  .obtain⟨c,rfl⟩:=a;rw[qG ss L,yv];show⟨by rw[ya,ya];show yI (qe (by lk)),λr b=>?_⟩;show q r _ (qw c b) (c.free b) qb
theorem ok_na(F:Fun K "names_at" "names_at" zN f fd)(T:Txt K mg cc cw):wq9 1 f fd wqB spNa:=by
 show F.ok uS λ_ _ _ _ H vs Q E n h=>?_
 .obtain⟨l,m,ss,L,N,rfl,hl,e,d,j,q⟩:=h;have o:=jT n;show⟨_,(qg (qp (qL (sc:=qf zN) (XN:=wqB) ["number","names"] 1 [0] rfl rfl rfl (by room) rfl (by room)
  (qF (K:=K) rfl (pv 1)) (λ_ _ _ _=>(qi (i:=0) (show(["number","names"]:LS).Nodup by room) rfl (yF rfl))) qA
  (λ_ _ _ _=>jj)
  (λ_ _ _ _=>(qx (qz (K:=K) rfl o) (pv 1) (pv 0) (λ_ _=>rfl)))))),?_⟩
  apply .inl ⟨⟨_,.of e⟩,qr (xs:=ivs N) (λi ys J=>J=H/\ys=qN ss ((N.take i).map λi=>L.getD i 0)) ⟨rfl,by simp[qN]⟩ (λi ys J _ a=>by rw[a.1];show .of e) (λi y ys J g a=>?_) λys J a=>?_⟩
  .obtain⟨rfl,rfl⟩:=a;rw[yd] at g;obtain⟨v,hv,rfl⟩:=ym.mp g;have c:=j v (ye hv);apply zu ?_;ext
   show .inl (qbD hl (v:=.str (tn ss (L.getD v 0))) (by
    unfold atI;rw[qG,zk c];show(qN ss L)[v]?=_;unfold qN;rw[yd,yd,yL,yb c];rfl) ?_)
   show⟨by rw[qG,ya,yH];show qe (by lk),rfl,?_⟩;unfold qN;rw[yA,hv,yq,yq,yq];rfl
  .obtain⟨rfl,rfl⟩:=a;rw[qM N,yv];show⟨by rw[qG,ya];show yI (qe (by lk)),λr b=>?_⟩;show q r _ (qw (Sr _) b) b qb
theorem ok_bi(F:Fun K "bit_of" "bit_of" qbM f fd)(T:Txt K mg cc cw)(d:wq8 4 cw "number_of" wqa (spNum cw)):wq9 5 f fd wqw (spBi cw):=by
 show F.ok Ud λ_ _ _ _ H vs Q E a h=>?_
 .obtain⟨x,ss,ns,st,rfl,W,c,b,q⟩:=h;have l:=jT a;obtain⟨i,j,ol,m,hb,_⟩:=id W;show⟨_,(qg (qp (qC qbQ qh (qH d (hmR a) (pv 0) (qa (pv 1) qd))))),?_⟩;apply⟨x,i,_,rfl,hb,jU (by room),?_⟩;apply⟨x,ss,ns,tn ss st,st,rfl,W,zK c,λH1 g=>?_⟩;show vI ⟨by lk,by lk,by decide⟩ ?_
  have e:V.int (1*2 ^ (st:Int).toNat)=iv (1 <<< st):=by
   show V.int _=V.int _
   congr 1
   rw[y6,Nat.shiftLeft_eq];simp
  rw[e];show q H1 g
theorem Kb:FnScope wqx wqc (qf zg):=fS
theorem qfI{x:V}{b:Bool}{Q:VK}(e:decide (x=.non)=b)(q:Q (.bl b) H):qhA x .non H Q:=by subst e;cases x<;>show q
theorem qd8(a b:Str):eqV (.str a) (.str b)=decide (a=b):=by
 unfold eqV;by_cases h:a=b<;>simp[h]
theorem qh0{i j:Str}{Q:VK}(q:Q (.bl (decide (i=j))) H):qgN K (.str i) (.str j) H Q:=.inl (.inl (.inl ⟨rfl,rfl,by rw[yC (by decide),qd8];show q⟩))
theorem qh1{i j:Str}{Q:VK}(q:Q (.bl (!decide (i=j))) H):qeX K true (.str i) (.str j) H Q:=.inl ⟨rfl,rfl,by rw[yG rfl,qd8];show q⟩
theorem qeV{TI:List (Nat×Nat)}(b:TIok n TI)(a:n<=14)(v:Nat):qO TI v<2 ^ 30:=yi (qcg b v) (Yl (by decide) (by lk))
inductive spEs(cw:Addr)(vs:List V)(H:Hp)(Q:VK)(E:XK):Prop|mk (x:Addr) (ss:LS) (ns:LN) (TI:List (Nat×Nat)) (s:Nat) (cl:Nat->Bool) (_:vs=[.ref x,.str (tn ss s)]) (_:Wt cw H x ss ns (TI.map (nmP ss))) (_:TIok ss.length TI) (_:s<ss.length) (_:(∀ a b,adjI TI a b->cl b=!cl a)) (_:(Lst TI cl ss.length s->∀(l:Addr) (H':Hp),L2.Same H H'->Q (.ref l) H')) (_:(¬ Lst TI cl ss.length s->∀ H',L2.Same H H'->Q .non H'))
theorem ok_es(F:Fun K "even_set" "even_set" zg f fd)(T:Txt K mg cc cw)(kW:wq7 10 "near_side" wqc (spNS cw false))(KH:wq7 5 "picks" wqQ spPk)(kP:wq7 6 "bits_beside_each" wqH (spBe cw))(Kk:wq7 1 "names_at" wqB spNa)(kJ:wq8 5 cw "bits_beside" wqa (spBB cw)):wq9 11 f fd wqc (spEs cw):=by
 show F.ok Kb λ_ _ _ s H vs Q E e h=>?_
 .obtain⟨x,ss,ns,TI,st,cl,rfl,W,d,O,hC,q1,q2⟩:=h;have R:=jT e;have hn:=W.wok.nd;have few:=W.wok.few;have nl:=qch (n:=ss.length) (TI:=TI) (cl:=cl) (s:=st) (c:=cl st);have eo:((nr TI cl ss.length st (cl st)).filter λv=>!decide (v=st))=oth TI cl ss.length st:=rfl;have ol:(oth TI cl ss.length st).length<=ss.length:=yh (yt _ _) nl;show⟨_,(qc (qo (i:=2) Kb.nd rfl (yF rfl) (qk kW (hmR e) qt (qa (pv 0) (qa (pv 1) qd))))
 (qc (jM (sc:=qf zg) (XN:=wqx) ["place","start"] 1 [1] rfl rfl rfl (by room) rfl (by room) (i:=3) Kb.nd rfl rfl
  (qF (K:=K) rfl (pv 2)) (λ_ _ _ _=>(qi (i:=0) (show(["place","start"]:LS).Nodup by room) rfl (yF rfl))) qA
  (λ_ _ _ _=>(qE (qm (zv (K:=K) rfl R) (pv 0) (pv 1) (qv _))))
  (λ_ _ _ _=>(pv 0)))
 (qc (qo (i:=4) Kb.nd rfl (yF rfl) (qk KH (hmR e) qt (qa (qk kP (hmR e) qt (qa (pv 0) (qa (pv 3) qd))) (qa (qH kJ (hmR e) (pv 0) (qa (pv 1) qd)) qd))))
 (qc (qR (qm u_is (pv 4) qbN (qv _)) (qg (qp qbN)) qu)
 (qc (qo (i:=5) Kb.nd rfl (YX rfl) (qk Kk (hmR e) qt (qa (pv 3) (qa (pv 4) qd))))
 (qg (qp (qL (sc:=qf zg) (XN:=wqx) ["place","start","chosen"] 1 [1,5] rfl rfl rfl (by room) rfl (by room)
  (qF (K:=K) rfl (pv 2)) (λ_ _ _ _=>(qi (i:=0) (show(["place","start","chosen"]:LS).Nodup by room) rfl (yF rfl))) qA
  (λ_ _ _ _=>(qE (PW.pt (qcn (qm (jX (K:=K) rfl R) (pv 0) (pv 1) (qv _)) (qbw (qm (qcP (K:=K) rfl R) (pv 0) (pv 2) (by with_unfolding_all rfl)))))))
  (λ_ _ _ _=>(pv 0)))))))))),?_⟩
  apply⟨x,ss,ns,TI,st,cl,rfl,W,d,O,hC,λo H2 s2 ae C=>?_⟩;rw[Yp] at C;apply .inl ⟨⟨_,.of C⟩,qr (xs:=qN ss (nr TI cl ss.length st (cl st))) (λi ys J=>J=H2/\ys=qN ss (((nr TI cl ss.length st (cl st)).take i).filter λv=>!decide (v=st))) ⟨rfl,by simp[qN]⟩ (λi ys J _ a=>by rw[a.1];show .of C) (λi y ys J U a=>?_) λys J a=>?_⟩
  .obtain⟨rfl,rfl⟩:=a;obtain⟨v,hv,rfl⟩:=zq U;have S:=nr_mem.mp (ye hv);apply qh1 ?_;rw[show(!decide (tn ss v=tn ss st))=!decide (v=st) by congr 1;show Yi.mpr ⟨λz=>jR hn S.1 O z,λz=>by rw[z]⟩,qbg hv];apply qP (λh=>?_) (λh=>?_)
   .ext;show⟨by rw[qG];show qe (za (by lk)),rfl,?_⟩;rw[yG h]
   .show⟨rfl,?_⟩;rw[yC h,yZ]
  .obtain⟨rfl,rfl⟩:=a;rw[qG (L:=nr TI cl ss.length st (cl st)),yv,eo];show⟨by rw[qG];show yI (qe (by lk)),λr m=>?_⟩;have X:=qw s2 (o:=.lst (qN ss (oth TI cl ss.length st))) m;have g:=qw (Sr J) (o:=.lst (qN ss (oth TI cl ss.length st))) m _ _ C;have G:upd J r (.lst (qN ss (oth TI cl ss.length st))) r=some (.lst (qN ss (oth TI cl ss.length st))):=qb;generalize upd J r (.lst (qN ss (oth TI cl ss.length st)))=J2 at X g G;apply⟨x,r,ss,ns,TI,_,rfl,W.same X,d,G,by lk,λv hv=>(oth_mem.mp hv).1.1,λb H4 Z aa hb=>?_⟩;have t:=X.trans Z;ext;have W4:=W.same t;obtain⟨wx,dd,af,nn,I,_⟩:=id W4.web;show⟨x,wx,_,rfl,I,jU (by room),?_⟩;apply⟨x,ss,ns,tn ss st,st,rfl,W4.web,zK O,λH5 s5=>?_⟩;rw[(W.bi d).col d st];have A:=t.trans s5;have hg:GoodL H5 b ((oth TI cl ss.length st).map (qO TI)):=⟨s5 _ _ hb,by rw[ya];lk,λv hv=>by obtain⟨u,_,rfl⟩:=yJ.mp hv;show qeV d few u⟩;show⟨b,_,_,rfl,hg,qeV d few st,λM H6 D=>?_,λp l H6 D ad hl=>?_⟩
   .ext;show qfI (b:=true) (by decide) ?_;apply zu ?_;apply q2 M _ (A.trans D)
   .ext;show qfI (b:=false) (yk λz=>by cases z) ?_;apply yp ?_;ext;have B:=s5.trans D;have Y:=A.trans D;show⟨r,l,ss,_,_,rfl,B _ _ (Z _ _ G),hl,?_,?_,λc H7 s7 ab hc=>?_⟩
    .unfold pkL;show yh (yt _ _) ?_;rw[Yc,ya];lk
    .intro i hi;unfold pkL at hi;have:=y7.mp (yo.mp hi).1
     rwa[ya] at this
    .ext;have j:=s7 _ _ (B _ _ (Z _ _ g));show .inl ⟨⟨_,.of j⟩,qr (xs:=qN ss (nr TI cl ss.length st (cl st))) (λi ys J=>J=H7/\ys.length<=i) ⟨rfl,yg _⟩ (λi ys J _ a=>by rw[a.1];show .of j) (λi y ys J U a=>?_) λys J a=>?_⟩
     .obtain⟨rfl,q⟩:=a;obtain⟨v,hv,rfl⟩:=zq U;have ac:=(yc.mp hv).1;apply qh0 ?_;apply qP (λh=>?_) (λh=>?_)
      .show zu ?_;apply⟨qe (by lk),rfl,by rw[yu];show ys.length+1<=i+1;lk⟩
      .ext;show qdK hc ?_;apply qP (λh=>?_) (λh=>?_)
       .ext;show⟨qe (by lk),rfl,by rw[yu];show ys.length+1<=i+1;lk⟩
       .show⟨rfl,by lk⟩
     .obtain⟨rfl,q⟩:=a;rw[qG] at q;show⟨yI (qe (by lk)),λr2 N=>?_⟩;show q1 p _ _ (qw (Y.trans s7) N)
theorem KE:FnScope ["web","start","even","far"] wqc (qf qaG):=fS
inductive spTd(cw:Addr)(vs:List V)(H:Hp)(Q:VK)(E:XK):Prop|mk (x:Addr) (ss:LS) (ns:LN) (TI:List (Nat×Nat)) (s:Nat) (cl:Nat->Bool) (_:vs=[.ref x,.str (tn ss s)]) (_:Wt cw H x ss ns (TI.map (nmP ss))) (_:TIok ss.length TI) (_:s<ss.length) (_:(∀ a b,adjI TI a b->cl b=!cl a)) (_:∀(b:Bool) (v:V) (t:Addr) (H':Hp),L2.Same H H'->(b=true↔Lst TI cl ss.length s)->H' t=some (.tup [.str (if b=true then "lost" else "won"),v])->Q (.ref t) H')
theorem ok_td(F:Fun K "told_set" "told_set" qaG f fd)(T:Txt K mg cc cw)(O:wq7 11 "even_set" wqc (spEs cw))(u4:wq7 11 "far_side" wqc (spNS cw true))(R:wq7 1 "names_at" wqB spNa)(N:wq7 5 "picks" wqQ spPk)(kP:wq7 6 "bits_beside_each" wqH (spBe cw))(S:wq7 5 "bit_of" wqw (spBi cw)):wq9 12 f fd wqc (spTd cw):=by
 show F.ok KE λ_ _ _ s H vs Q E a h=>?_
 .obtain⟨x,ss,ns,TI,st,cl,rfl,W,d,m,r,q⟩:=h;have hu:=jT a;have few:=W.wok.few;have nl:=qch (n:=ss.length) (TI:=TI) (cl:=cl) (s:=st) (c:=(cl st ^^ true));show⟨_,(qc (qo (i:=2) KE.nd rfl (yF rfl) (qk O (hmR a) qt (qa (pv 0) (qa (pv 1) qd))))
 (qc (qR (qm qe2 (pv 2) qbN (qv _)) (qg (qp (jD (qa qaI (qa (pv 2) qd))))) qu)
 (qc (qo (i:=3) KE.nd rfl (yF rfl) (qk u4 (hmR a) qt (qa (pv 0) (qa (pv 1) qd))))
 (qg (qp (jD (qa qaI (qa (qk R (hmR a) qt (qa (pv 3) (qa (qk N (hmR a) qt (qa (qk kP (hmR a) qt (qa (pv 0) (qa (pv 3) qd))) (qa (qk S (hmR a) qt (qa (pv 0) (qa (pv 1) qd))) qd))) qd))) qd)))))))),?_⟩
  apply⟨x,ss,ns,TI,st,cl,rfl,W,d,m,r,λhl l H1 p=>?_,λe H1 p=>?_⟩
  .ext;show⟨rfl,true,rfl,?_⟩;show zu ?_;apply⟨wqqd,λt A=>?_⟩;show q true _ t _ (qw p A) ⟨λ_=>hl,λ_=>rfl⟩ qb
  .ext;show⟨rfl,false,rfl,?_⟩;show yp ?_;apply⟨x,ss,ns,TI,st,cl,rfl,W.same p,d,m,r,λo H2 s2 aa I=>?_⟩;have g:=p.trans s2;apply⟨x,o,ss,ns,TI,_,rfl,W.same g,d,I,by lk,λv hv=>(nr_mem.mp hv).1,λb H3 J U hb=>?_⟩;have j:=g.trans J;apply⟨x,ss,ns,st,rfl,(W.same j).web,m,few,λM D=>?_⟩;have B:=j.trans D;have Y:GoodL M b ((nr TI cl ss.length st (cl st ^^ true)).map (qO TI)):=⟨D _ _ hb,by rw[ya];lk,λv hv=>by obtain⟨u,_,rfl⟩:=yJ.mp hv;show qeV d few u⟩;have y:Spn ((nr TI cl ss.length st (cl st ^^ true)).map (qO TI)) (1 <<< st):=by rw[kc];show far_spn d r m e
   show⟨b,_,_,rfl,Y,?_,λhn=>absurd y hn,λ_ l H5 L Z hl=>?_⟩
   .rw [Nat.one_shiftLeft];show Xh (by decide) (by lk)
   .have C:=J.trans (D.trans L);show⟨o,l,ss,_,_,rfl,C _ _ I,hl,?_,?_,λc H7 s7 X hc=>?_⟩
    .unfold pkL;show yh (yt _ _) ?_;rw[Yc,ya];lk
    .intro i G;unfold pkL at G;have:=y7.mp (yo.mp G).1
     rwa[ya] at this
    .show⟨wqqd,λt A=>?_⟩;show q false _ t _ (qw ((B.trans L).trans s7) A) ⟨(λz=>by cases z),λz=>absurd z e⟩ qb
theorem qgR{TI:List (Nat×Nat)}(c:ss.Nodup)(h:TIok ss.length TI):TGo ss (TI.map (nmP ss)):=by
 show⟨by rw[ya];show h.few,h.go c,xB.mpr (h.nd.imp_of_mem λ{a b} l hb d=>?_)⟩;have m:=h.ok a l;have n:=h.ok b hb;show⟨λe=>d ?_,λe=>?_⟩
 .have f:=jR c (by lk) (by lk) (congrArg Prod.fst e);have g:=jR c (by lk) (by lk) (congrArg Prod.snd e);show XF f g
 .have f:=jR c (i:=a.1) (j:=b.2) (by lk) (by lk) (congrArg Prod.fst e);have g:=jR c (i:=a.2) (j:=b.1) (by lk) (by lk) (congrArg Prod.snd e);lk
theorem TGo.perm{l m:LP}(h:TGo ss m)(p:l.Perm m):TGo ss l:=
 ⟨by rw[p.length_eq];show h.few,λb a=>h.inn b (p.mem_iff.mp a),(p.pairwise_iff UN.symm).mpr h.un⟩
theorem qbh{TI:List (Nat×Nat)}(W:Wt cw H x ss ns (TI.map (nmP ss)))(c:TIok ss.length TI):(zB ss ns ss.length).Perm (TI.map (nmP ss)):=by
 have d:=W.wok.nd;show(Xj (dps_nd W.wok) (((qgR d c).un).imp λ{a b} h=>h.1)).mpr λn=>?_;obtain⟨a,b⟩:=n;rw[qft W.wok W.adj];constructor
 .rintro ⟨h,i,j,o,f,g⟩;have l:=(yc.mp f).1;have m:=(yc.mp g).1;rw[zK l] at f;rw[zK m] at g;cases f;cases g;have k:=qgD d c h;rw[qas d l,qas d m] at k;rcases k with k | k
  .show yJ.mpr ⟨_,k,rfl⟩
  .have:=c.ok _ k;simp only at this;lk
 .intro h;show⟨.inl h,?_⟩;obtain⟨p,q,e⟩:=yJ.mp h;have k:=c.ok p q;cases e;show⟨p.1,p.2,k.1,zK (by lk),zK k.2⟩
def qfJ(tps:LP)(a b:Str):LP:=tps.filter λc=>!(decide (c=(a,b))||decide (c=(b,a)))
theorem less_perm{TI:List (Nat×Nat)}(W:Wt cw H x ss ns (TI.map (nmP ss)))(a:TIok ss.length TI){p:Nat}(d:s<ss.length)(c:p<ss.length):(qfJ (zB ss ns ss.length) (tn ss s) (tn ss p)).Perm ((rmT TI s p).map (nmP ss)):=by
 have b:=W.wok.nd;show((qbh W a).filter _).trans (ku ?_);unfold rmT;rw[XS]
 congr 1
 show YD λq h=>?_;have k:=a.ok q h;show(!(decide (nmP ss q=(tn ss s,tn ss p))||decide (nmP ss q=(tn ss p,tn ss s))))=_
 congr 1
 rw[yW,YZ,yD,yD,yD]
 have m:∀{i j:Nat},i<ss.length->j<ss.length->(nmP ss q=(tn ss i,tn ss j)↔q.1=i/\q.2=j):=λ{i j} f g =>
  ⟨λe=>⟨jR b (by lk) f (congrArg Prod.fst e),jR b k.2 g (congrArg Prod.snd e)⟩,λe=>by rw[<- e.1,<- e.2];rfl⟩
 rw[m d c,m c d,Prod.ext_iff];show _↔q.1=min p s/\q.2=max p s;lk
theorem qfK{l m:LP}(p:l.Perm m){a b:Str}:tA l a b↔tA m a b:=by
 unfold tA;rw[p.mem_iff,p.mem_iff]
theorem Kr:FnScope ["self","one","other","kept"] wqj (qf jh):=fS
inductive spWot(cw:Addr)(vs:List V)(H:Hp)(Q:VK)(E:XK):Prop|mk (x:Addr) (ss:LS) (ns:LN) (TI:List (Nat×Nat)) (s p:Nat) (_:vs=[.ref x,.str (tn ss s),.str (tn ss p)]) (_:Wt cw H x ss ns (TI.map (nmP ss))) (_:TIok ss.length TI) (_:adjI TI s p) (_:∀(y:Addr) (ms:LN) (H':Hp),L2.Same H H'->Wt cw H' y ss ms ((rmT TI s p).map (nmP ss))->Q (.ref y) H')
theorem ok_wot(F:Fun K "without_tie" "Web.without_tie" jh f fd)(T:Txt K mg cc cw)(u5:wq8 6 cw "tied" wqj (spTied cw))(Ki:wq8 7 cw "ties" wqf (spTs cw))(K0:wqqa 5 cw "Web" wqs (spWeb cw)):wq9 8 f fd wqj (spWot cw):=by
 show F.ok Kr λ_ _ _ _ H vs Q E hr h=>?_
 .obtain⟨x,ss,ns,TI,si,pi,rfl,W,D,S,q⟩:=h;have hu:=jT hr;obtain⟨dx,d,ol,n,hx,hd,ho,hn,hw⟩:=id W.web;have few:=hw.few;obtain⟨hs,C,ag⟩:=D.adj S;show⟨_,(qc (qR (jw (qY (qH u5 (hmR hr) (pv 0) (qa (pv 1) (qa (pv 2) qd))))) (qg ji) qu)
 (qc (jM (sc:=qf jh) (XN:=["self","one","other","kept"]) ["tie","one","other"] 1 [1,2] rfl rfl rfl (by room) rfl (by room) (i:=3) Kr.nd rfl rfl
  (qF (K:=K) rfl (qT Ki (hmR hr) (pv 0))) (λ_ _ _ _=>(qi (i:=0) (show(["tie","one","other"]:LS).Nodup by room) rfl (yF rfl))) qA
  (λ_ _ _ _=>(qE (qm (k_notinT (K:=K) rfl hu) (pv 0) (jD (qa (jD (qa (pv 1) (qa (pv 2) qd))) (qa (jD (qa (pv 2) (qa (pv 1) qd))) qd))) (by with_unfolding_all rfl))))
  (λ_ _ _ _=>(pv 0)))
 (qg (qp (qa1 K0 (hmR hr) (qa (jx (K:=K) rfl (pv 0) rfl) (qa (pv 3) qd))))))),?_⟩
  apply⟨x,dx,_,rfl,hx,jU (by room),?_⟩;apply⟨x,ss,ns,tn ss si,tn ss pi,si,pi,rfl,W.web,zK hs,zK C,λH1 s1=>?_⟩;rw[(W.bi D si pi).mpr S];have s:=less_perm W D hs C;have hG:=qbh W D;generalize ea:tn ss si=a at s ⊢;generalize eb:tn ss pi=b at s ⊢;generalize ed:zB ss ns ss.length=c at s hG;apply yp ?_;apply⟨x,dx,_,rfl,s1 _ _ hx,jU (by room),?_⟩;apply⟨x,ss,ns,rfl,W.web.same s1,λl ts H2 af aj hl ak B=>?_⟩;rw[ed] at B;have s2:=s1.trans af;have R:All2 (λt g=>H2 t=some (.tup [.str g.1,.str g.2])) ts c:=B.mono λ_ _ z=>z.2.2;have ai:c.length<=30:=by rw[hG.length_eq,ya];show D.few
  have L:=R.len;show .inl ⟨⟨_,SqL.of hl⟩,qr (K:=K) (λi ys H'=>L2.Same H2 H'/\∃ us:LI,ys=us.map V.ref/\us.length<=i/\All2 (λt g=>H2 t=some (.tup [.str g.1,.str g.2])) us (qfJ (c.take i) a b)) ⟨L2.Same.refl H2,[],rfl,yg _,All2.nil⟩ (λi ys H' _ C=>SqL.of (C.1 _ _ hl)) (λi y ys H' X C=>?_) λys H' C=>?_⟩
  .obtain⟨s3,us,rfl,U,r⟩:=C;rw[yd] at X
   cases j:ts[i]? with
   | none=>rw[j] at X;cases X
   | some t =>
    rw[j] at X;cases X;have hi:i<c.length:=by rw[<- L];show(yc.mp j).1
    have gi:c[i]?=some c[i]:=yb hi;have et:=R.at_ i t c[i] j gi;generalize c[i]=g at gi et;have ad:c.take (i+1)=c.take i++[g]:=by rw[yA,gi];rfl
    have aa:qfJ (c.take (i+1)) a b=qfJ (c.take i) a b++(if (!(decide (g=(a,b))||decide (g=(b,a))))=true then [g] else []):=by
     unfold qfJ;rw[ad,yQ]
     congr 1
     rw[yM];rfl
    rw[aa];apply⟨wqqd,λp h1=>?_⟩;have Z:=qw (Sr H') (o:=.tup [V.str a,V.str b]) h1;have A:upd H' p (.tup [V.str a,V.str b]) p=some (.tup [V.str a,V.str b]):=qb;generalize upd H' p (.tup [V.str a,V.str b])=H4 at Z A ⊢;apply⟨wqqd,λv h2=>?_⟩
    have N:¬ (V.ref v=V.ref p):=λz=>by
     have z:=V.ref.inj z;rw[z,A] at h2;cases h2
    have u:=qw (Sr H4) (o:=.tup [V.str b,V.str a]) h2;have I:upd H4 v (.tup [V.str b,V.str a]) v=some (.tup [V.str b,V.str a]):=qb;replace A:=u _ _ A;generalize upd H4 v (.tup [V.str b,V.str a])=H5 at u A I ⊢;apply⟨wqqd,λc3 h3=>?_⟩;have m:=qw (Sr H5) (o:=.tup [V.ref p,V.ref v]) h3;have e3:upd H5 c3 (.tup [V.ref p,V.ref v]) c3=some (.tup [V.ref p,V.ref v]):=qb;replace A:=m _ _ A;replace I:=m _ _ I;generalize upd H5 c3 (.tup [V.ref p,V.ref v])=H6 at m A I e3 ⊢;have s6:=s3.trans (Z.trans (u.trans m));have J:=s6 _ _ et;apply⟨c3,_,(λz=>if z=.ref p then decide ((a,b)=g) else decide ((b,a)=g)),1,rfl,SqT.of e3,by decide,λz hz=>?_,?_⟩
    .simp only[yN,Yq,xX] at hz;rcases hz with rfl | rfl
     .dsimp only;rw[yG rfl];show qcU A J
     .dsimp only;rw[yC N];show qcU I J
    .have hb:(!([V.ref p,V.ref v].any λz=>if z=.ref p then decide ((a,b)=g) else decide ((b,a)=g)))=!(decide (g=(a,b))||decide (g=(b,a))):=by
      rw[Xb,Xb,List.any_nil,yG rfl,yC N,Xq]
      congr 1
      rw[show decide ((a,b)=g)=decide (g=(a,b)) from Yi.mpr eq_comm,show decide ((b,a)=g)=decide (g=(b,a)) from Yi.mpr eq_comm]
     rw[hb];apply qP (λG=>?_) λG=>?_
     .ext;rw[yG G];show⟨by rw[ya];show qe (by lk),s6,us++[t],by rw[yq];rfl,by rw[yu];show us.length+1<=_;lk,r.snoc et⟩
     .rw [yC G,yZ];show⟨s6,us,rfl,by lk,r⟩
  .obtain⟨s3,us,rfl,U,r⟩:=C;have ac:c.take (ts.map V.ref).length=c:=by rw[ya,L,yv]
   rw[ac] at r;rw[ya] at U;show⟨by rw[ya];show yI (qe (by lk)),λe he=>?_⟩;have u:=qw (Sr H') (o:=.lst (us.map V.ref)) he;have Y:=s3.trans u;have s5:=s2.trans Y;apply .inl ⟨x,cw,dx,_,.ref ol,rfl,s5 _ _ hx,T.wcl,T.wo,qa8,?_⟩;ext;intro x' ah j M O;show qhl (.inl (s5 _ _ ho)) ⟨hw.few,hw.nd,hw.nm⟩ ⟨.inl qb,r.mono λ_ _ z=>Y _ _ z⟩ ((qgR hw.nd (qdG D)).perm s) j M O λae H6 m hW=>⟨rfl,q x' ae H6 (s5.trans m) (hW.to ((qdG D).go hw.nd) λ_ _ _ _=>qfK s)⟩
theorem uK:FnScope wqc wqc (qf zr):=fS
def gtB(TI:List (Nat×Nat))(cl:Nat->Bool)(n s p:Nat):Bool:=@decide (Lst (rmT TI s p) cl n p) (Classical.propDecidable _)
theorem gtB_iff{TI:List (Nat×Nat)}{p:Nat}:gtB TI cl n s p=true↔Lst (rmT TI s p) cl n p:=by unfold gtB;show @decide_eq_true_iff _ (Classical.propDecidable _)
def gdI(TI:List (Nat×Nat))(cl:Nat->Bool)(n s:Nat):LN:=((List.range n).filter λv=>(qO TI s).testBit v).filter (gtB TI cl n s)
theorem qfL(a:ss.Nodup)(b:Nat):(inB ss 0 b).map V.str=qN ss ((List.range ss.length).filter λv=>b.testBit v):=by
 rw[ze a,qfG];unfold qN
 congr 2
 show YD λv hv=>?_;rw[qas a (y7.mp hv)]
inductive spGt(cw:Addr)(vs:List V)(H:Hp)(Q:VK)(E:XK):Prop|mk (x:Addr) (ss:LS) (ns:LN) (TI:List (Nat×Nat)) (s:Nat) (cl:Nat->Bool) (_:vs=[.ref x,.str (tn ss s)]) (_:Wt cw H x ss ns (TI.map (nmP ss))) (_:TIok ss.length TI) (_:s<ss.length) (_:(∀ a b,adjI TI a b->cl b=!cl a)) (_:∀(l:Addr) (H':Hp),L2.Same H H'->H l=none->H' l=some (.lst (qN ss (gdI TI cl ss.length s)))->Q (.ref l) H')
theorem ok_gt(F:Fun K "good_ties" "good_ties" zr f fd)(T:Txt K mg cc cw)(kW:wq7 10 "near_side" wqc (spNS cw false))(Z:wq7 11 "even_set" wqc (spEs cw))(kR:wq8 6 cw "beside" wqa (spBs cw))(Y:wq8 8 cw "without_tie" wqj (spWot cw)):wq9 12 f fd wqc (spGt cw):=by
 show F.ok uK λ_ _ _ _ H vs Q E j h=>?_
 .obtain⟨x,ss,ns,TI,st,cl,rfl,W,c,R,O,q⟩:=h;have hu:=jT j;have few:=W.wok.few;show⟨_,(qc (qU (qk kW (hmR j) qt (qa (pv 0) (qa (pv 1) qd))))
 (qg (qp (qL (sc:=qf zr) (XN:=wqc) ["place","start","web"] 1 [1,0] rfl rfl rfl (by room) rfl (by room)
  (qF (K:=K) rfl (qH kR (hmR j) (pv 0) (qa (pv 1) qd))) (λ_ _ _ _=>(qi (i:=0) (show(["place","start","web"]:LS).Nodup by room) rfl (yF rfl))) qA
  (λ_ _ _ _=>(qE (qm qe2 (qk Z (hmR j) qt (qa (qH Y (hmR j) (pv 2) (qa (pv 1) (qa (pv 0) qd))) (qa (pv 0) qd))) qbN (qv _))))
  (λ_ _ _ _=>(pv 0)))))),?_⟩
  apply⟨x,ss,ns,TI,st,cl,rfl,W,c,R,O,λo H1 S _ _=>?_⟩;ext;have M:=W.same S;obtain⟨G,dd,ol,nn,hb,_⟩:=id M.web;show⟨x,G,_,rfl,hb,jU (by room),?_⟩;apply⟨x,ss,ns,tn ss st,st,rfl,M.web,zK R,λH2 s2 B t=>?_⟩;rw[(W.bi c).col c st,qfL W.wok.nd]
  have bl:((List.range ss.length).filter λv=>(qO TI st).testBit v).length<=14:=by
   show yh (yt _ _) ?_;rw[Yc];show few
  have p:=qw (S.trans s2) (o:=.lst (qN ss ((List.range ss.length).filter λv=>(qO TI st).testBit v))) t;have s:upd H2 B (.lst (qN ss ((List.range ss.length).filter λv=>(qO TI st).testBit v))) B=some (.lst (qN ss ((List.range ss.length).filter λv=>(qO TI st).testBit v))):=qb;generalize upd H2 B (.lst (qN ss ((List.range ss.length).filter λv=>(qO TI st).testBit v)))=I at p s;show .inl ⟨⟨_,.of s⟩,qr (xs:=qN ss ((List.range ss.length).filter λv=>(qO TI st).testBit v)) (λi ys J=>L2.Same I J/\ys=qN ss ((((List.range ss.length).filter λv=>(qO TI st).testBit v).take i).filter (gtB TI cl ss.length st))) ⟨L2.Same.refl I,by simp[qN]⟩ (λi ys J _ g=>.of (g.1 _ _ s)) (λi y ys J hy g=>?_) λys J g=>?_⟩
  .obtain⟨d,rfl⟩:=g;obtain⟨v,hv,rfl⟩:=zq hy;have n:=yo.mp (ye hv);have A:=y7.mp n.1;have e:=(jl c).mp n.2;have D:=p.trans d;have N:=W.same D;obtain⟨G,dd,ol,nn,hb,_⟩:=id N.web;apply⟨x,G,_,rfl,hb,jU (by room),?_⟩;apply⟨x,ss,ns,TI,st,v,rfl,N,c,e,λy ms H4 U W4=>?_⟩;rw[qbg hv];apply⟨y,ss,ms,rmT TI st v,v,cl,rfl,W4,qdG c,A,λa b h=>O a b ((qcj c).mp h).1,λhl l X C=>?_,λu X C=>?_⟩
   .ext;show⟨rfl,true,rfl,?_⟩;show zu ?_;apply⟨by rw[qG];show qe (za (by lk)),d.trans (U.trans C),?_⟩;rw[yG (gtB_iff.mpr hl)]
   .ext;show⟨rfl,false,rfl,?_⟩;show yp ?_;show⟨d.trans (U.trans C),?_⟩;rw[yC λz=>u (gtB_iff.mp z),yZ]
  .obtain⟨d,rfl⟩:=g;rw[qG (L:=(List.range ss.length).filter λv=>(qO TI st).testBit v),yv];have hl:=yt (gtB TI cl ss.length st) ((List.range ss.length).filter λv=>(qO TI st).testBit v);show⟨by rw[qG];show yI (qe (by lk)),λr m=>?_⟩;show q r _ (qw (p.trans d) m) ((p.trans d).free m) qb
theorem uT:FnScope wq2 wq2 (qf qaH):=fS
inductive spFo(vs:List V)(H:Hp)(Q:VK)(E:XK):Prop|mk (l:Addr) (xs:List V) (_:vs=[.ref l]) (_:H l=some (.lst xs)) (_:Q (xs.head?.getD .non) H)
theorem ok_fo(F:Fun K "first_of" "first_of" qaH f fd)(T:Txt K mg cc cw):wq9 1 f fd wq2 spFo:=by
 show F.ok uT λ_ _ _ _ H vs Q E a h=>?_
 .obtain⟨l,xs,rfl,hl,q⟩:=h;have b:=jT a;show⟨_,(qg (qp (qcK (qm qe1 (qq (j8 (K:=K) rfl) rfl T.b_len YE (qa (pv 0) qd)) qh (qv _)) (qx (qz (K:=K) rfl b) (pv 0) qh (λ_ _=>rfl)) qbN))),?_⟩;apply zT hl ?_;ext
  cases xs with
  | nil =>
   show qP (λh=>by simp at h) λ_=>?_;apply q
  | cons y xs =>
   rw[yw (show(((y::xs).length:Nat):Int)>0 by rw[Yd];lk)];show zu ?_;apply .inl (qbD (i:=0) (v:=y) hl (by unfold atI;rw[show(0:Int)=((0:Nat):Int) from rfl,zk (by simp)];rfl) ?_);show q
theorem kY:FnScope wqz wqc (qf jN):=fS
theorem qgb{a b:Addr}{Q:VK}(c:G a=some (.lst xs))(d:G b=some (.lst ys))(hl:xs.length+ys.length<=1000)(q:∀ p,G p=none->Q (.ref p) (upd G p (.lst (xs++ys)))):qfd K (.ref a) (.ref b) G Q:=.inl ⟨a,b,_,_,rfl,rfl,c,d,yh hl (by decide),q⟩
def fvP(C:LN)(a:Nat):LN:=pkL (C.take a) (C.getD a 0)++[a]
def fvI(TI:List (Nat×Nat))(cl:Nat->Bool)(n s:Nat):List (LN):=(qcs ((nr TI cl n s (cl s)).map (qO TI))).map λa=>(fvP ((nr TI cl n s (cl s)).map (qO TI)) a).map λi=>(nr TI cl n s (cl s)).getD i 0
theorem qfM(h:i∈pkL L g):i<L.length:=y7.mp (yo.mp h).1
theorem pkL_len(L:LN)(g:Nat):(pkL L g).length<=L.length:=by
 unfold pkL;show yh (yt _ _) ?_;rw[Yc];show yg _
theorem qfN(h:i∈fvP C a):i<=a:=by
 rcases yO.mp h with z | z
 .have:=qfM z;rw[yH] at this;lk
 .rw [yx.mp z];show yg _
theorem qd9(h:a∈qcs C):a<C.length:=y7.mp (yo.mp h).1
inductive spFv(cw:Addr)(vs:List V)(H:Hp)(Q:VK)(E:XK):Prop|mk (x:Addr) (ss:LS) (ns:LN) (TI:List (Nat×Nat)) (s:Nat) (cl:Nat->Bool) (_:vs=[.ref x,.str (tn ss s)]) (_:Wt cw H x ss ns (TI.map (nmP ss))) (_:TIok ss.length TI) (_:s<ss.length) (_:(∀ a b,adjI TI a b->cl b=!cl a)) (_:∀(l:Addr) (us:LI) (H':Hp),L2.Same H H'->H l=none->H' l=some (.lst (us.map V.ref))->l∉us->All2 (λu e=>H u=none/\H' u=some (.lst (qN ss e))) us (fvI TI cl ss.length s)->Q (.ref l) H')
theorem ok_fv(F:Fun K "free_evens" "free_evens" jN f fd)(T:Txt K mg cc cw)(kW:wq7 10 "near_side" wqc (spNS cw false))(Ue:wq7 5 "free_of" wqL spFr)(Kk:wq7 1 "names_at" wqB spNa)(KH:wq7 5 "picks" wqQ spPk)(kP:wq7 6 "bits_beside_each" wqH (spBe cw)):wq9 11 f fd wqc (spFv cw):=by
 show F.ok kY λ_ _ _ s H vs Q E D h=>?_
 .obtain⟨x,ss,ns,TI,st,cl,rfl,W,hT,hs,hC,q⟩:=h;have hu:=jT D;have few:=W.wok.few;have nl:=qch (n:=ss.length) (TI:=TI) (cl:=cl) (s:=st) (c:=cl st);unfold fvI at q;show⟨_,(qc (qo (i:=2) kY.nd rfl (YX rfl) (qk kW (hmR D) qt (qa (pv 0) (qa (pv 1) qd))))
 (qc (qo (i:=3) kY.nd rfl (YX rfl) (qk kP (hmR D) qt (qa (pv 0) (qa (pv 2) qd))))
 (qc (qo (i:=4) kY.nd rfl (YX rfl) (qk Ue (hmR D) qt (qa (pv 3) qd)))
 (qc (jM (sc:=qf jN) (XN:=wqz) ["at","free"] 1 [4] rfl rfl rfl (by room) rfl (by room) (i:=5) kY.nd rfl rfl
  (jo rfl T.b_range (qa (qq (j8 (K:=K) rfl) rfl T.b_len YE (qa (pv 2) qd)) qd)) (λ_ _ _ _=>(qi (i:=0) (show(["at","free"]:LS).Nodup by room) rfl (yF rfl))) qA
  (λ_ _ _ _=>(qE (qm (zb (K:=K) rfl hu) (pv 0) (pv 1) (by with_unfolding_all rfl))))
  (λ_ _ _ _=>(pv 0)))
 (qg (qp (qL (sc:=qf jN) (XN:=wqz) ["at","near","numbers"] 1 [2,3] rfl rfl rfl (by room) rfl (by room)
  (qF (K:=K) rfl (pv 5)) (λ_ _ _ _=>(qi (i:=0) (show(["at","near","numbers"]:LS).Nodup by room) rfl (yF rfl))) qA
  (λ_ _ _ _=>jj)
  (λ_ _ _ _=>(qk Kk (hmR D) qt (qa (pv 1) (qa (qC (j9 (K:=K) rfl) (qk KH (hmR D) qt (qa (zP (qgL (K:=K) rfl) (pv 2) qbm (zO (pv 0))) (qa (qx (qz (K:=K) rfl hu) (pv 2) (pv 0) (λ_ _=>rfl)) qd))) (qZ (qa (pv 0) qd))) qd))))))))))),?_⟩
  apply⟨x,ss,ns,TI,st,cl,rfl,W,hT,hs,hC,λo H2 s2 am ho=>?_⟩;rw[Yp] at ho;have lm:∀ v∈nr TI cl ss.length st (cl st),v<ss.length:=λv hv=>(nr_mem.mp hv).1;generalize nr TI cl ss.length st (cl st)=L at q ho nl lm;apply⟨x,o,ss,ns,TI,_,rfl,W.same s2,hT,ho,by lk,lm,λb H3 s3 aj hb=>?_⟩;have ah:=s2.trans s3;have ad:=s3 _ _ ho;have B:GoodL H3 b (L.map (qO TI)):=⟨hb,by rw[ya];lk,λv hv=>by obtain⟨u,_,rfl⟩:=yJ.mp hv;show qeV hT few u⟩;have p:(L.map (qO TI)).length=L.length:=ya ..;generalize L.map (qO TI)=C at q hb B p;apply⟨b,C,rfl,B,λfl H4 s4 ak ab=>?_⟩;have ai:=ah.trans s4;have S:=s4 _ _ ad;have aa:=s4 _ _ hb;have lc:C.length=L.length:=p;apply zT S ?_;rw[qG];show⟨(L.length:Int),rfl,by lk,by lk,?_⟩;rw[y6];show qbo (lo:=0) (λi ys J=>J=H4/\ys=ivs ((List.range i).filter λi=>!decide (i∈qap C))) ⟨rfl,rfl⟩ (λi ys J hi m=>?_) λys J m=>?_
  .obtain⟨rfl,rfl⟩:=m;rw[xA];apply qhm ab ?_;ext;rw[YR,yQ,yM];show qP (λh=>?_) (λh=>?_)
   .ext;show⟨?_,rfl,?_⟩
    .rw [ya];have:=yt (λi=>!decide (i∈qap C)) (List.range i);rw[Yc] at this;show qe (by lk)
    .rw [yG h];show _=List.map iv _;rw[yq];rfl
   .show⟨rfl,?_⟩;rw[yC h];simp
  .obtain⟨rfl,rfl⟩:=m;rw[<- lc,show((List.range C.length).filter λi=>!decide (i∈qap C))=qcs C from rfl]
   have bl:(qcs C).length<=C.length:=by
    unfold qcs;show yh (yt _ _) ?_;rw[Yc];show yg _
   show⟨by rw[qM];show yI (qe (by show(qcs C).length<=1000;lk)),λr X=>?_⟩;have s5:=qw ai (o:=.lst (ivs (qcs C))) X;have Z:=qw (Sr J) (o:=.lst (ivs (qcs C))) X;have er:upd J r (.lst (ivs (qcs C))) r=some (.lst (ivs (qcs C))):=qb;have U:=Z _ _ S;have O:=Z _ _ aa;generalize upd J r (.lst (ivs (qcs C)))=J5 at s5 er U O;apply .inl ⟨⟨_,.of er⟩,qr (xs:=ivs (qcs C)) (λi ys I=>L2.Same J5 I/\∃ us:LI,ys=us.map V.ref/\us.length<=i/\All2 (λu e=>H u=none/\I u=some (.lst (qN ss e))) us (((qcs C).take i).map λa=>(fvP C a).map λi=>L.getD i 0)) ⟨L2.Same.refl J5,[],rfl,yg _,.nil⟩ (λi ys I _ m=>.of (m.1 _ _ er)) (λi y ys I hy m=>?_) λys I m=>?_⟩
   .obtain⟨A,us,rfl,Y,M⟩:=m;rw[yd] at hy;obtain⟨a,ha,rfl⟩:=ym.mp hy;have N:a∈qcs C:=ye ha;have j:=qd9 N;have R:=A _ _ O;have hi:=(yc.mp ha).1;apply zu ?_;apply .inl ⟨b,_,rfl,SqL.of R,λd hd=>?_⟩;rw[cutV_take,<- kB];have s6:=qw (Sr I) (o:=.lst (ivs (C.take a))) hd;have ed:upd I d (.lst (ivs (C.take a))) d=some (.lst (ivs (C.take a))):=qb;generalize upd I d (.lst (ivs (C.take a)))=I6 at s6 ed;ext;have eg:C[a]?=some (C.getD a 0):=by rw[yL,yb j];rfl
    show .inl (qbD (s6 _ _ R) (v:=iv (C.getD a 0)) (by
     unfold atI;rw[qM,zk j];show(ivs C)[a]?=_;rw[yd,eg];rfl) ?_)
    have gt:GoodL I6 d (C.take a):=⟨ed,by have:=B.len;rw[yH];lk,λv hv=>B.lt v (Yv hv)⟩;have lt:C.getD a 0<2 ^ 30:=B.lt _ (ye eg)
    have sp:Spn (C.take a) (C.getD a 0):=by
     have:=(qdI B.lt j).mp (of_decide_eq_false (by simpa using(yo.mp N).2));rw[yL,yb j];show this
    show⟨d,_,_,rfl,gt,lt,λk=>absurd sp k,λ_ l I7 s7 al hl=>?_⟩;apply⟨wqqc,λc hc=>?_⟩;have s8:=qw (Sr I7) (o:=.lst [iv a]) hc;have ec:upd I7 c (.lst [iv a]) c=some (.lst [iv a]):=qb;generalize upd I7 c (.lst [iv a])=I8 at s8 ec;have pl:=pkL_len (C.take a) (C.getD a 0);rw[yH] at pl;show qgb (s8 _ _ hl) ec (by rw[qM];show _+1<=_;lk) λg ac=>?_
    have e9:ivs (pkL (C.take a) (C.getD a 0))++[iv a]=ivs (fvP C a):=by
     unfold fvP;show _=List.map iv _;rw[yq];rfl
    rw[e9];have s9:=qw (Sr I8) (o:=.lst (ivs (fvP C a))) ac;have G:upd I8 g (.lst (ivs (fvP C a))) g=some (.lst (ivs (fvP C a))):=qb;generalize upd I8 g (.lst (ivs (fvP C a)))=I9 at s9 G;have t:=(s6.trans s7).trans (s8.trans s9);apply⟨o,g,ss,L,fvP C a,rfl,t _ _ (A _ _ U),G,by unfold fvP;rw[yu];show _+1<=_;lk,λi hi=>by have:=qfN hi;lk,λu I10 ag ae af=>?_⟩;have sA:=t.trans ag;have fu:∀{z},I9 z=none->H z=none:=λ{z} hz=>(s5.trans (A.trans t)).free hz;show⟨by rw[ya];show qe (by lk),A.trans sA,us++[u],by rw[yq];rfl,by rw[yu];show us.length+1<=i+1;lk,?_⟩;rw[yA,ha,yq];show(M.mono λz e k=>⟨k.1,sA _ _ k.2⟩).snoc ⟨fu ae,af⟩
   .obtain⟨A,us,rfl,Y,M⟩:=m;rw[qM (qcs C)] at Y;rw[qM (qcs C),yv] at M;show⟨by rw[ya];show yI (qe (by lk)),λl hl=>?_⟩;show q l us _ (qw (s5.trans A) hl) ((s5.trans A).free hl) qb (λz=>?_) (M.mono λz e k=>⟨k.1,qw (Sr I) hl _ _ k.2⟩);obtain⟨_,_,_,k⟩:=M.mem z;rw[k] at hl;cases hl
theorem uL:FnScope wqI wqI (qf qac):=fS
theorem K3:FnScope wqf wqf (qf jK):=fS
theorem K4:FnScope wqf wqf (qf jr):=fS
theorem Kl:FnScope ["self","one","other","rising"] wqj (qf jv):=fS
def PlayAt(a cw:Addr)(H:Hp)(x b p:Addr)(ss:LS)(ns:LN)(tr:LN):Prop:=∃ dx,H x=some (.ins a dx (jC "path" (.ref p) (jC "board" (.ref b) [])))/\H p=some (.lst (qN ss tr))/\WebAt cw H b ss ns
theorem PlayAt.same{a b:Addr}(h:PlayAt a cw H x b p ss ns tr)(s:L2.Same H H'):PlayAt a cw H' x b p ss ns tr:=by
 obtain⟨dx,h1,c,d⟩:=h;show⟨dx,s _ _ h1,s _ _ c,d.same s⟩
theorem qc2{b:Addr}:List.lookup ("path":Str) (jC "path" (V.ref p) (jC "board" (V.ref b) []))=some (V.ref p):=by rw[qD,yG rfl]
theorem qbi{b:Addr}:List.lookup ("board":Str) (jC "path" (V.ref p) (jC "board" (V.ref b) []))=some (V.ref b):=by rw[qD,yC (by room),qD,yG rfl]
theorem qae{f:Str}{p b:V}(h:(f=="path"||f=="board")=false:=by room):List.lookup f (jC "path" p (jC "board" b []))=none:=by
 simp only[Bool.or_eq_false_iff,YA] at h;rw[qD,yC h.1,qD,yC h.2];rfl
theorem WebAt.but{b:Addr}{fs:List (Str×V)}(h:WebAt cw H b ss ns)(a:H x=some (.ins c dx fs))(ne:b≠x)(k:But x H H'):WebAt cw H' b ss ns:=by
 obtain⟨j,d,ol,n,h1,e,f,g,i⟩:=h;show⟨j,d,ol,n,k _ _ ne h1,k _ _ (qbk e a (by intro z;cases z)) e,k _ _ (qbk f a (by intro z;cases z)) f,k _ _ (qbk g a (by intro z;cases z)) g,i⟩
def gnI:LN->List (Nat×Nat)
 | a::b::r=>(min b a,max b a)::gnI (b::r)
 | _=>[]
theorem qeN:∀(tr:LN) (i:Nat) (a b:Nat),tr[i]?=some a->(tr.tail)[i]?=some b->(gnI tr).take (i+1)=(gnI tr).take i++[(min b a,max b a)]
 | [],i,a,b,h,_=>by simp at h
 | [x],i,a,b,_,h=>by simp at h
 | x::y::r,0,a,b,h1,h2=>by
  simp at h1 h2;subst h1 h2;rfl
 | x::y::r,i+1,a,b,h1,h2=>by
  have:=qeN (y::r) i a b (by simpa using h1) (by simpa using h2);show(min y x,max y x)::(gnI (y::r)).take (i+1)=(min y x,max y x)::((gnI (y::r)).take i++[_]);rw[this]
theorem qc3:∀ tr:LN,(gnI tr).length=tr.length-1
 | []=>rfl
 | [x]=>rfl
 | x::y::r=>by
  show(gnI (y::r)).length+1=_;rw[qc3 (y::r)];simp
theorem qeO(v:Nat):∀(tr:LN) (s:Nat),tr.getLast?=some s->gnI (tr++[v])=gnI tr++[(min v s,max v s)]
 | [],s,h=>by cases h
 | [x],s,h=>by cases h;rfl
 | x::y::r,s,h=>by
  have:=qeO v (y::r) s (by simpa using h);show(min y x,max y x)::gnI (y::r++[v])=(min y x,max y x)::(gnI (y::r)++[_]);rw[this]
theorem qea:∀(tr:LN) (n:Nat),(∀ v∈tr,v<n)->∀ q∈gnI tr,q.1<n/\q.2<n
 | [],n,_,q,h=>by cases h
 | [x],n,_,q,h=>by cases h
 | x::y::r,n,hn,q,h=>by
  rcases yN.mp h with z | z
  .have h1:=hn x (by simp);have a:=hn y (by simp);rw[z];show min y x<n/\max y x<n;lk
  .show qea (y::r) n (λv hv=>hn v (yy _ hv)) q z
def lfI(TI:List (Nat×Nat))(tr:LN):List (Nat×Nat):=TI.filter λq=>!decide (q∈gnI tr)
theorem lfI_one(TI:List (Nat×Nat))(s:Nat):lfI TI [s]=TI:=by
 unfold lfI;show List.filter_eq_self.mpr λq _=>by rw[yk (λh=>by cases h)];rfl
theorem lfI_on(TI:List (Nat×Nat))(h:tr.getLast?=some s):lfI TI (tr++[v])=rmT (lfI TI tr) s v:=by
 unfold lfI rmT;rw[qeO v tr s h,X0];show YD λq _=>?_;rw[yW,y1,YF,YF,YF,Yn,Yn,Yn,yO,yx];show⟨λz=>⟨λk=>z (.inr k),λk=>z (.inl k)⟩,λz k=>k.elim z.2 z.1⟩
theorem qdL{TI:List (Nat×Nat)}(h:TIok n TI)(tr:LN):TIok n (lfI TI tr):=h.filter _
theorem qfO{TI:List (Nat×Nat)}(h:adjI (lfI TI tr) a b):adjI TI a b:=h.imp (λz=>(yo.mp z).1) λz=>(yo.mp z).1
theorem qgE{a:Addr}{s t:Str}{Q:VK}(h:PL H l ts tps)(f:H a=some (.tup [.str s,.str t]))(q:Q (.bl (!decide ((s,t)∈tps))) H):qgn K true (.ref a) (.ref l) H Q:=by
 show .inr (.inr ⟨l,ts.map V.ref,λz=>decide (qeT H z=some (s,t)),1,rfl,SqL.of h.1,by decide,λz g=>?_,?_⟩)
 .obtain⟨b,hb,rfl⟩:=yJ.mp g;obtain⟨c,_,r⟩:=h.2.mem hb;have e:=qcU (K:=K) r f
  have d:decide (qeT H (.ref b)=some (s,t))=decide ((c.1,c.2)=(s,t)):=by
   rw[qcV r];apply Yi.mpr;rw[Option.some.injEq]
  show EqD K H 1 (.ref b) (.ref a) (decide (qeT H (.ref b)=some (s,t)));rw[d];show e
 .rw [yG rfl,any_in h.2];show q
theorem qfP(c:ss.Nodup){L:List (Nat×Nat)}(i:∀ q∈L,q.1<ss.length/\q.2<ss.length)(j:a<ss.length)(hb:b<ss.length):decide ((tn ss a,tn ss b)∈L.map (nmP ss))=decide ((a,b)∈L):=by
 show Yi.mpr ⟨λh=>?_,λh=>yJ.mpr ⟨_,h,rfl⟩⟩;obtain⟨q,d,e⟩:=yJ.mp h;have k:=i q d;have f:=jR c k.1 j (congrArg Prod.fst e);have g:=jR c k.2 hb (congrArg Prod.snd e);rw[<- f,<- g];show d
inductive spWkI(cc:Nat->Addr)(cw:Addr)(vs:List V)(H:Hp)(Q:VK)(E:XK):Prop|mk (x dx b:Addr) (s:Nat) (ss:LS) (ns:LN) (_:vs=[.ref x,.ref b,.str (tn ss s)]) (_:H x=some (.ins (cc 8) dx [])) (_:WebAt cw H b ss ns) (_:s<ss.length) (_:∀(p:Addr) (H':Hp),But x H H'->H p=none->PlayAt (cc 8) cw H' x b p ss ns [s]->Q .non H')
inductive spPsP(cc:Nat->Addr)(cw:Addr)(vs:List V)(H:Hp)(Q:VK)(E:XK):Prop|mk (x b p:Addr) (ss:LS) (ns tr:LN) (s:Nat) (_:vs=[.ref x]) (_:PlayAt (cc 8) cw H x b p ss ns tr) (_:tr.getLast?=some s) (_:Q (.str (tn ss s)) H)
inductive spTB(cc:Nat->Addr)(cw:Addr)(vs:List V)(H:Hp)(Q:VK)(E:XK):Prop|mk (x b p:Addr) (ss:LS) (ns tr:LN) (u v:Nat) (_:vs=[.ref x,.str (tn ss u),.str (tn ss v)]) (_:PlayAt (cc 8) cw H x b p ss ns tr) (_:u<ss.length) (_:v<ss.length) (_:∀(t:Addr) (H':Hp),L2.Same H H'->H t=none->H' t=some (.tup [.str (tn ss (min v u)),.str (tn ss (max v u))])->Q (.ref t) H')
inductive spTG(cc:Nat->Addr)(cw:Addr)(vs:List V)(H:Hp)(Q:VK)(E:XK):Prop|mk (x b p:Addr) (ss:LS) (ns tr:LN) (_:vs=[.ref x]) (_:PlayAt (cc 8) cw H x b p ss ns tr) (_:tr.length<=100) (_:(∀ v∈tr,v<ss.length)) (_:∀(l:Addr) (ts:LI) (H':Hp),L2.Same H H'->PL H' l ts ((gnI tr).map (nmP ss))->Q (.ref l) H')
theorem ok_wkI(F:Fun K "__init__" "Walk.__init__" qac f fd)(T:Txt K mg cc cw)(A:wq8 3 cw "has_place" wqy (spHas cw)):wq9 5 f fd wqI (spWkI cc cw):=by
 show F.ok uL λ_ _ _ _ H vs Q E y h=>?_
 .obtain⟨x,dx,b,st,ss,ns,rfl,s,l,r,q⟩:=h;have D:=jT y;show⟨_,(qc (qR (jw (qY (qH A (hmR y) (pv 1) (qa (pv 2) qd)))) (qg ji) qu)
 (qc (qb0 (K:=K) rfl (pv 0) (pv 1) rfl)
 (qg (qb0 (K:=K) rfl (pv 0) (qZ (qa (pv 2) qd)) rfl)))),?_⟩
  obtain⟨B,d,ol,n,hb,_,_,_,hw⟩:=id l;have t:b≠x:=λe=>by subst e;rw[s] at hb;injection hb with hb;injection hb with _ _ hb;cases hb
  apply⟨b,B,_,rfl,hb,jU (by room),?_⟩;apply⟨b,ss,ns,tn ss st,rfl,l,qaL r,λH1 z=>?_⟩;apply yp ?_;apply .inl ⟨x,cc 8,dx,[],rfl,z _ _ s,T.pcl,T.pb,by decide,?_⟩;have j:=((But.refl x H).same z).put (o:=.ins (cc 8) dx (jC "board" (.ref b) []));have a:upd H1 x (.ins (cc 8) dx (jC "board" (.ref b) [])) x=some (.ins (cc 8) dx (jC "board" (.ref b) [])):=qb;generalize upd H1 x (.ins (cc 8) dx (jC "board" (.ref b) []))=H2 at j a ⊢;apply⟨wqqc,λp g=>?_⟩;have c:p≠x:=λe=>by rw[e,a] at g;cases g
  have m:H p=none:=by
   cases e:H p with
   | none=>rfl
   | some o=>rw[j p o c e] at g;cases g
  have u:=j.new (o:=.lst [.str (tn ss st)]) g;have i:upd H2 p (.lst [.str (tn ss st)]) x=some (.ins (cc 8) dx (jC "board" (.ref b) [])):=by rw[qj c.symm];show a
  have ep:upd H2 p (.lst [.str (tn ss st)]) p=some (.lst [.str (tn ss st)]):=qb;generalize upd H2 p (.lst [.str (tn ss st)])=C at u i ep ⊢;apply .inl ⟨x,cc 8,dx,_,rfl,i,T.pcl,T.pp,xU (jW _ _ _) (by decide),?_⟩;have v:=u.put (o:=.ins (cc 8) dx (jC "path" (.ref p) (jC "board" (.ref b) [])));show q p _ v m ⟨dx,qb,by rw[qj c];show ep,l.but s t v⟩
theorem nms_last(h:tr.getLast?=some s):atI (qN ss tr) (-1)=some (.str (tn ss s)):=by
 have e:(qN ss tr).getLast?=some (.str (tn ss s)):=by unfold qN;rw[List.getLast?_map,List.getLast?_map,h];rfl
 rw[Xn] at e;have hl:=(yc.mp e).1;unfold atI ixN;rw[yC (by decide),yG (by lk)];have a:(-1+((qN ss tr).length:Int)).toNat=(qN ss tr).length-1:=by lk
 show(qN ss tr)[(-1+((qN ss tr).length:Int)).toNat]?=_;rw[a];show e
theorem ok_ps(F:Fun K "stands_at" "Walk.stands_at" jK f fd)(T:Txt K mg cc cw):wq9 1 f fd wqf (spPsP cc cw):=by
 show F.ok K3 λ_ _ _ _ H vs Q E c h=>?_
 .obtain⟨x,b,p,ss,ns,tr,z,rfl,⟨dx,e,a,i⟩,g,q⟩:=h;have d:=jT c;show⟨_,(qg (qp (qx (qz (K:=K) rfl d) (jx (K:=K) rfl (pv 0) rfl) (qgH qe0 qh) (λ_ _=>rfl)))),?_⟩;apply .inl ⟨x,cc 8,dx,_,.ref p,rfl,e,T.pcl,T.pp,qc2,?_⟩;apply vU ?_;show .inl (qbD a (nms_last g) q)
theorem ok_tb(F:Fun K "tie_between" "Road.tie_between" jv f fd)(T:Txt K mg cc cw)(r:wq8 4 cw "number_of" wqa (spNum cw)):wq9 5 f fd wqj (spTB cc cw):=by
 show F.ok Kl λ_ _ _ _ H vs Q E m h=>?_
 .obtain⟨x,b,p,ss,ns,tr,u,v,rfl,z,j,l,q⟩:=h;obtain⟨dx,o,B,g⟩:=id z;obtain⟨s,d,ol,n,hb,_,_,_,hw⟩:=id g;show⟨_,(qc (qo (i:=3) Kl.nd rfl (yF rfl) (jL qdS (qH r (hmR m) (jx (K:=K) rfl (pv 0) rfl) (qa (pv 1) qd)) (qH r (hmR m) (jx (K:=K) rfl (pv 0) rfl) (qa (pv 2) qd)) (qv _)))
 (qg (qp (qcK (qY (pv 3)) (jD (qa (pv 1) (qa (pv 2) qd))) (jD (qa (pv 2) (qa (pv 1) qd))))))),?_⟩
  apply .inl ⟨x,cc 8,dx,_,.ref b,rfl,o,T.pcl,T.pb,qbi,?_⟩;apply⟨b,s,_,rfl,hb,jU (by room),?_⟩;apply⟨b,ss,ns,tn ss u,u,rfl,g,zK j,λH1 e=>?_⟩;apply .inl ⟨x,cc 8,dx,_,.ref b,rfl,e _ _ o,T.pcl,T.pb,qbi,?_⟩;apply⟨b,s,_,rfl,e _ _ hb,jU (by room),?_⟩;apply⟨b,ss,ns,tn ss v,v,rfl,g.same e,zK l,λH2 A=>?_⟩;ext;have a:=e.trans A
  have y:decide ((u:Int)<(v:Int))=decide (u<v):=by
   congr 1
   apply propext;lk
  rw[y];by_cases h:u<v
  .rw [show min v u=u by lk,show max v u=v by lk] at q;rw[yw h];show zu ?_;apply⟨wqqd,λt c=>q t _ (qw a c) (a.free c) qb⟩
  .rw [show min v u=v by lk,show max v u=u by lk] at q;rw[yk h];show yp ?_;apply⟨wqqd,λt c=>q t _ (qw a c) (a.free c) qb⟩
theorem ok_tg(F:Fun K "ties_gone" "Road.ties_gone" jr f fd)(T:Txt K mg cc cw)(k8:wq8 5 (cc 8) "tie_between" wqj (spTB cc cw)):wq9 6 f fd wqf (spTG cc cw):=by
 show F.ok K4 λ_ _ _ _ H vs Q E hr h=>?_
 .obtain⟨x,b,p,ss,ns,tr,rfl,S,X,c,q⟩:=h;obtain⟨dx,O,M,hW⟩:=id S;show⟨_,(qg (qp (qL (sc:=qf jr) (XN:=wqf) wqY 2 [0] rfl rfl rfl (by room) rfl (by room)
  (pi_zip (K:=K) rfl rfl T.b_zip (qa (jx (K:=K) rfl (pv 0) rfl) (qa (zP (qgL (K:=K) rfl) (jx (K:=K) rfl (pv 0) rfl) (zO qh) qbm) qd))) (λ_ _ _ _=>(qby (n:=2) rfl (jd (qi (i:=0) (show(wqY:LS).Nodup by room) rfl (yF rfl)) (jd (qi (i:=1) (show(wqY:LS).Nodup by room) rfl (yF rfl)) qai)))) qeE
  (λ_ _ _ _=>jj)
  (λ_ _ _ _=>(qH k8 (hmR hr) (pv 2) (qa (pv 0) (qa (pv 1) qd))))))),?_⟩
  apply vZip ?_;apply .inl ⟨x,cc 8,dx,_,.ref p,rfl,O,T.pcl,T.pp,qc2,?_⟩;apply .inl ⟨x,cc 8,dx,_,.ref p,rfl,O,T.pcl,T.pp,qc2,?_⟩;apply .inl ⟨p,_,rfl,SqL.of M,λd hd=>?_⟩
  have Z:qdO (qN ss tr) (some 1) none=qN ss tr.tail:=by
   have:=qdv (qN ss tr) 1;unfold qN at this ⊢;rw[<- kC,<- kC,List.drop_one] at this;show this
  rw[Z];have m:=qw (Sr H) (o:=.lst (qN ss tr.tail)) hd;have g:upd H d (.lst (qN ss tr.tail)) d=some (.lst (qN ss tr.tail)):=qb;generalize upd H d (.lst (qN ss tr.tail))=H1 at m g;apply⟨p,d,_,_,rfl,SqL.of (m _ _ M),SqL.of g,comp_zip (xs:=qN ss tr) (ys:=qN ss tr.tail) (by rw[qG,qG,List.length_tail];lk) (λi I J=>L2.Same H1 J/\∃ ts:LI,I=ts.map V.ref/\All2 (λt D=>J t=some (.tup [.str D.1,.str D.2])) ts (((gnI tr).take i).map (nmP ss))) ⟨L2.Same.refl H1,[],rfl,.nil⟩ (λi I J _ a=>⟨SqL.of (a.1 _ _ (m _ _ M)),SqL.of (a.1 _ _ g)⟩) (λi u v t I J s A U a=>?_) λI J a=>?_⟩
  .obtain⟨R,ts,rfl,j⟩:=a;obtain⟨u,y,rfl⟩:=zq s;obtain⟨v,B,rfl⟩:=zq A;clear s A;have G:=qw R (o:=.tup [.str (tn ss u),.str (tn ss v)]) U;have C:=qw (Sr J) (o:=.tup [.str (tn ss u),.str (tn ss v)]) U;show⟨t,_,rfl,.of qb,rfl,_,_,rfl,_,_,rfl,rfl,?_⟩;generalize upd J t (.tup [.str (tn ss u),.str (tn ss v)])=J3 at G C;apply zu ?_;ext;have L:=S.same (m.trans G);show⟨x,dx,_,rfl,(m.trans G) _ _ O,qae,?_⟩;apply⟨x,b,p,ss,ns,tr,u,v,rfl,L,c u (ye y),c v (List.mem_of_mem_tail (ye B)),λt2 J4 Y W N=>?_⟩;have r:ts.length<=100:=by rw[j.len,ya,yH,qc3];lk
   show⟨by rw[ya];show qe (by lk),G.trans Y,ts++[t2],by rw[yq];rfl,?_⟩;rw[qeN tr i u v y B,yq];show(j.mono λt' D z=>Y _ _ (C _ _ z)).snoc N
  .obtain⟨R,ts,rfl,j⟩:=a;have e:(qN ss tr.tail).length=(gnI tr).length:=by rw[qG,List.length_tail,qc3]
   rw[e,yv] at j;have r:ts.length<=100:=by rw[j.len,ya,qc3];lk
   show⟨by rw[ya];show yI (qe (by lk)),λl hl=>?_⟩;show q l ts _ (qw (m.trans R) hl) ⟨qb,j.mono λt D z=>qw (Sr J) hl _ _ z⟩
theorem uh:FnScope wqy wqy (qf j0):=fS
theorem Kv:FnScope ["self","gone"] wqf (qf js):=fS
theorem Kt:FnScope ["self","place","gone"] wqf (qf j6):=fS
theorem u6:FnScope wqa wqa (qf qbj):=fS
theorem ue:FnScope wqf wqf (qf jS):=fS
theorem uo:FnScope wq4 wq4 (qf zd):=fS
structure RdAt(cc:Nat->Addr)(cw:Addr)(H:Hp)(x b p:Addr)(ss:LS)(ns:LN)(TI:List (Nat×Nat))(tr:LN)(s:Nat):Prop where
 pl:PlayAt (cc 8) cw H x b p ss ns tr
 wt:Wt cw H b ss ns (TI.map (nmP ss))
 ok:TIok ss.length TI
 len:tr.length<=100
 all:∀ v∈tr,v<ss.length
 last:tr.getLast?=some s
theorem RdAt.same{b:Addr}{TI:List (Nat×Nat)}(h:RdAt cc cw H x b p ss ns TI tr s)(k:L2.Same H H'):RdAt cc cw H' x b p ss ns TI tr s:=⟨h.pl.same k,h.wt.same k,h.ok,h.len,h.all,h.last⟩
theorem RdAt.lt{b:Addr}{TI:List (Nat×Nat)}(h:RdAt cc cw H x b p ss ns TI tr s):s<ss.length:=h.all s (List.mem_of_getLast? h.last)
def nbI(TI:List (Nat×Nat))(n s:Nat):LN:=(List.range n).filter λv=>(qO TI s).testBit v
theorem qeb(TI:List (Nat×Nat))(n s:Nat):(nbI TI n s).length<=n:=by
 unfold nbI;show yh (yt _ _) ?_;rw[Yc];show yg _
theorem qc4{TI:List (Nat×Nat)}(a:TIok n TI):v∈nbI TI n s↔adjI TI s v:=by
 unfold nbI;rw[yo,y7,jl a];show⟨λz=>z.2,λz=>⟨(a.adj z).2.1,z⟩⟩
theorem lf_adj{TI:List (Nat×Nat)}(c:TIok n TI)(tr:LN):adjI (lfI TI tr) s v↔adjI TI s v/\(min v s,max v s)∉gnI tr:=by
 unfold lfI adjI;rw[yo,yo,YF,YF,Yn,Yn];have a:(s,v)∈TI->min v s=s/\max v s=v:=λz=>by have:=c.ok _ z;simp only at this;lk
 have b:(v,s)∈TI->min v s=v/\max v s=s:=λz=>by have:=c.ok _ z;simp only at this;lk
 constructor
 .rintro (z | z)
  .have:=a z.1;rw[this.1,this.2];show⟨.inl z.1,z.2⟩
  .have:=b z.1;rw[this.1,this.2];show⟨.inr z.1,z.2⟩
 .rintro ⟨z | z,k⟩
  .have:=a z;rw[this.1,this.2] at k;show .inl ⟨z,k⟩
  .have:=b z;rw[this.1,this.2] at k;show .inr ⟨z,k⟩
theorem nbI_lf{TI:List (Nat×Nat)}(a:TIok n TI)(tr:LN)(s:Nat):(nbI TI n s).filter (λv=>!decide ((min v s,max v s)∈gnI tr))=nbI (lfI TI tr) n s:=by
 unfold nbI;rw[X0];show YD λv _=>?_;rw[yW,y1,jl a,jl (qdL a tr),lf_adj a tr,YF,Yn];show And.comm
theorem lf_perm{TI:List (Nat×Nat)}(W:Wt cw H x ss ns (TI.map (nmP ss)))(b:TIok ss.length TI)(a:∀ v∈tr,v<ss.length):((zB ss ns ss.length).filter λc=>!decide (c∈(gnI tr).map (nmP ss))).Perm ((lfI TI tr).map (nmP ss)):=by
 show((qbh W b).filter _).trans (ku ?_);unfold lfI;rw[XS]
 congr 1
 show YD λq d=>?_;have k:=b.ok q d;show(!decide (nmP ss q∈_))=_
 congr 1
 show qfP W.wok.nd (qea tr _ a) (by lk) k.2
inductive spTLf(cc:Nat->Addr)(cw:Addr)(vs:List V)(H:Hp)(Q:VK)(E:XK):Prop|mk (x b p:Addr) (ss:LS) (ns:LN) (TI:List (Nat×Nat)) (tr:LN) (s:Nat) (_:vs=[.ref x]) (_:RdAt cc cw H x b p ss ns TI tr s) (_:∀(l:Addr) (ts:LI) (tps:LP) (H':Hp),L2.Same H H'->PL H' l ts tps->tps.Perm ((lfI TI tr).map (nmP ss))->Q (.ref l) H')
inductive spRm(cc:Nat->Addr)(cw:Addr)(vs:List V)(H:Hp)(Q:VK)(E:XK):Prop|mk (x b p:Addr) (ss:LS) (ns:LN) (TI:List (Nat×Nat)) (tr:LN) (s:Nat) (_:vs=[.ref x]) (_:RdAt cc cw H x b p ss ns TI tr s) (_:∀(r:Addr) (H':Hp),L2.Same H H'->H r=none->H' r=some (.lst (qN ss (nbI (lfI TI tr) ss.length s)))->Q (.ref r) H')
inductive spRgo(cc:Nat->Addr)(cw:Addr)(vs:List V)(H:Hp)(Q:VK)(E:XK):Prop|mk (x b p:Addr) (ss:LS) (ns:LN) (TI:List (Nat×Nat)) (tr:LN) (s v:Nat) (_:vs=[.ref x,.str (tn ss v)]) (_:RdAt cc cw H x b p ss ns TI tr s) (_:v∈nbI (lfI TI tr) ss.length s) (_:∀ H',But p H H'->H' p=some (.lst (qN ss (tr++[v])))->Q .non H')
inductive spRwl(cc:Nat->Addr)(cw:Addr)(vs:List V)(H:Hp)(Q:VK)(E:XK):Prop|mk (x b p:Addr) (ss:LS) (ns:LN) (TI:List (Nat×Nat)) (tr:LN) (s:Nat) (_:vs=[.ref x]) (_:RdAt cc cw H x b p ss ns TI tr s) (_:∀(y:Addr) (ms:LN) (H':Hp),L2.Same H H'->Wt cw H' y ss ms ((lfI TI tr).map (nmP ss))->Q (.ref y) H')
def jV(TI:List (Nat×Nat))(cl:Nat->Bool)(n s:Nat):LN:=gdI TI cl n s++nbI TI n s
inductive spKc(cc:Nat->Addr)(cw:Addr)(vs:List V)(H:Hp)(Q:VK)(E:XK):Prop|mk (k x b p:Addr) (ss:LS) (ns:LN) (TI:List (Nat×Nat)) (tr:LN) (s:Nat) (cl:Nat->Bool) (_:vs=[.ref k,.ref x]) (_:RdAt cc cw H x b p ss ns TI tr s) (_:(∀ a b,adjI TI a b->cl b=!cl a)) (_:∀ H',L2.Same H H'->Q ((qN ss (jV (lfI TI tr) cl ss.length s)).head?.getD .non) H')
theorem ok_tlf(F:Fun K "ties_left" "Road.ties_left" js f fd)(T:Txt K mg cc cw)(W:wq8 6 (cc 8) "ties_gone" wqf (spTG cc cw))(X:wq8 7 cw "ties" wqf (spTs cw)):wq9 8 f fd wqf (spTLf cc cw):=by
 show F.ok Kv λ_ _ _ _ H vs Q E L h=>?_
 .obtain⟨x,b,p,ss,ns,TI,tr,st,rfl,R,q⟩:=h;obtain⟨dx,S,hp,N⟩:=id R.pl;obtain⟨wx,d,ol,n,hb,_,_,_,hw⟩:=id N;have hu:=jT L;have u:=lf_perm R.wt R.ok R.all;have M:=qbh R.wt R.ok;show⟨_,(qc (qo (i:=1) Kv.nd rfl (YX rfl) (qT W (hmR L) (pv 0)))
 (qg (qp (qL (sc:=qf js) (XN:=["self","gone"]) ["tie","gone"] 1 [1] rfl rfl rfl (by room) rfl (by room)
  (qF (K:=K) rfl (qT X (hmR L) (jx (K:=K) rfl (pv 0) rfl))) (λ_ _ _ _=>(qi (i:=0) (show(["tie","gone"]:LS).Nodup by room) rfl (yF rfl))) qA
  (λ_ _ _ _=>(qE (qm (zb (K:=K) rfl hu) (pv 0) (pv 1) (by with_unfolding_all rfl))))
  (λ_ _ _ _=>(pv 0)))))),?_⟩
  apply⟨x,dx,_,rfl,S,qae,?_⟩;apply⟨x,b,p,ss,ns,tr,rfl,R.pl,R.len,R.all,λl ts H1 D I=>?_⟩;apply .inl ⟨x,cc 8,dx,_,.ref b,rfl,D _ _ S,T.pcl,T.pb,qbi,?_⟩;apply⟨b,wx,_,rfl,D _ _ hb,jU (by room),?_⟩;apply⟨b,ss,ns,rfl,N.same D,λr us H2 U Z v aa C=>?_⟩;have m:=I.same U;have G:(zB ss ns ss.length).length<=30:=by rw[M.length_eq,ya];show R.ok.few
  generalize zB ss ns ss.length=j at C u M G;show .inl ⟨⟨_,.of v⟩,qr (xs:=us.map V.ref) (λi ys J=>J=H2/\∃ vs:LI,ys=vs.map V.ref/\vs.length<=i/\All2 (λt a=>H2 t=some (.tup [.str a.1,.str a.2])) vs ((j.take i).filter λt=>!decide (t∈(gnI tr).map (nmP ss)))) ⟨rfl,[],rfl,yg _,.nil⟩ (λi ys J _ c=>by rw[c.1];show .of v) (λi x' ys J B c=>?_) λys J c=>?_⟩
  .obtain⟨rfl,vs,rfl,A,g⟩:=c;rw[yd] at B;obtain⟨t,O,rfl⟩:=ym.mp B;have Y:i<j.length:=by rw[<- C.len];show(yc.mp O).1
   obtain⟨a,o⟩:∃ a,j[i]?=some a:=⟨_,yb Y⟩;have y:=(C.at_ i t a O o).2.2;rw[yA,o,yQ];apply qgE m y ?_;apply qP (λh=>?_) (λh=>?_)
   .ext;show⟨by rw[ya];show qe (by lk),rfl,vs++[t],by rw[yq];rfl,by rw[yu];show vs.length+1<=i+1;lk,?_⟩;have e:([a].filter λt=>!decide (t∈(gnI tr).map (nmP ss)))=[a]:=by rw[yM,yG h];rfl
    show All2 _ _ (_++([a].filter λt=>!decide (t∈(gnI tr).map (nmP ss))));rw[e];show g.snoc y
   .show⟨rfl,vs,rfl,by lk,?_⟩;have e:([a].filter λt=>!decide (t∈(gnI tr).map (nmP ss)))=[]:=by rw[yM,yC h];rfl
    show All2 _ _ (_++([a].filter λt=>!decide (t∈(gnI tr).map (nmP ss))));rw[e,yZ];show g
  .obtain⟨rfl,vs,rfl,A,g⟩:=c;have e:(us.map V.ref).length=j.length:=by rw[ya,C.len]
   rw[e] at A;rw[e,yv] at g;show⟨by rw[ya];show yI (qe (by lk)),λl2 s=>?_⟩;show q l2 vs _ _ (qw (D.trans U) s) ⟨qb,g.mono λt a z=>qw (Sr J) s _ _ z⟩ u
theorem ok_rm(F:Fun K "moves" "Road.moves" j6 f fd)(T:Txt K mg cc cw)(Z:wq8 1 (cc 8) "stands_at" wqf (spPsP cc cw))(Y:wq8 6 (cc 8) "ties_gone" wqf (spTG cc cw))(kR:wq8 6 cw "beside" wqa (spBs cw))
  (k8:wq8 5 (cc 8) "tie_between" wqj (spTB cc cw)):wq9 7 f fd wqf (spRm cc cw):=by
 show F.ok Kt λ_ _ _ _ H vs Q E m h=>?_
 .obtain⟨x,b,p,ss,ns,TI,tr,st,rfl,R,q⟩:=h;obtain⟨dx,z,hp,S⟩:=id R.pl;have hu:=jT m;have U:=R.wt.wok.nd;have few:=R.wt.wok.few;have W:=R.lt;rw[<- nbI_lf R.ok tr st] at q;show⟨_,(qc (qo (i:=1) Kt.nd rfl (YX rfl) (qT Z (hmR m) (pv 0)))
 (qc (qo (i:=2) Kt.nd rfl (YX rfl) (qT Y (hmR m) (pv 0)))
 (qg (qp (qL (sc:=qf j6) (XN:=["self","place","gone"]) ["name","gone","place","self"] 1 [2,1,0] rfl rfl rfl (by room) rfl (by room)
  (qF (K:=K) rfl (qH kR (hmR m) (jx (K:=K) rfl (pv 0) rfl) (qa (pv 1) qd))) (λ_ _ _ _=>(qi (i:=0) (show(["name","gone","place","self"]:LS).Nodup by room) rfl (yF rfl))) qA
  (λ_ _ _ _=>(qE (qm (zb (K:=K) rfl hu) (qH k8 (hmR m) (pv 3) (qa (pv 2) (qa (pv 0) qd))) (pv 1) (by with_unfolding_all rfl))))
  (λ_ _ _ _=>(pv 0))))))),?_⟩
  obtain⟨wx,d,ol,n,hb,_,_,_,hw⟩:=id S;apply⟨x,dx,_,rfl,z,qae,?_⟩;apply⟨x,b,p,ss,ns,tr,st,rfl,R.pl,R.last,?_⟩;apply⟨x,dx,_,rfl,z,qae,?_⟩;apply⟨x,b,p,ss,ns,tr,rfl,R.pl,R.len,R.all,λg ts H1 A D=>?_⟩;apply .inl ⟨x,cc 8,dx,_,.ref b,rfl,A _ _ z,T.pcl,T.pb,qbi,?_⟩;apply⟨b,wx,_,rfl,A _ _ hb,jU (by room),?_⟩;apply⟨b,ss,ns,tn ss st,st,rfl,S.same A,zK W,λH2 X l hl=>?_⟩;rw[(R.wt.bi R.ok).col R.ok st,qfL U];have bl:=qeb TI ss.length st;have O:∀ v∈nbI TI ss.length st,v<ss.length:=λv hv=>y7.mp (yo.mp hv).1;rw[show((List.range ss.length).filter λv=>(qO TI st).testBit v)=nbI TI ss.length st from rfl];generalize nbI TI ss.length st=B at q bl O;have c:=qw (A.trans X) (o:=.lst (qN ss B)) hl;have u:=qw X (o:=.lst (qN ss B)) hl;have C:upd H2 l (.lst (qN ss B)) l=some (.lst (qN ss B)):=qb;generalize upd H2 l (.lst (qN ss B))=N at c u C;have j:=D.same u;apply .inl ⟨⟨_,.of C⟩,qr (xs:=qN ss B) (λi ys J=>L2.Same N J/\ys=qN ss ((B.take i).filter λv=>!decide ((min v st,max v st)∈gnI tr))) ⟨L2.Same.refl N,by simp[qN]⟩ (λi ys J _ a=>.of (a.1 _ _ C)) (λi x' ys J L a=>?_) λys J a=>?_⟩
  .obtain⟨e,rfl⟩:=a;obtain⟨v,hv,rfl⟩:=zq L;have I:=O v (ye hv);ext;have y:=c.trans e;show⟨x,dx,_,rfl,y _ _ z,qae,?_⟩;apply⟨x,b,p,ss,ns,tr,st,v,rfl,R.pl.same y,W,I,λt J5 M aa G=>?_⟩;apply qgE ((j.same e).same M) G ?_;rw[qfP U (qea tr _ R.all) (show min v st<ss.length by lk) (show max v st<ss.length by lk),qbg hv];apply qP (λh=>?_) (λh=>?_)
   .ext;show⟨by rw[qG];show qe (za (by lk)),e.trans M,?_⟩;rw[yG h]
   .show⟨e.trans M,?_⟩;rw[yC h,yZ]
  .obtain⟨e,rfl⟩:=a;rw[qG ss B,yv];have:=yt (λv=>!decide ((min v st,max v st)∈gnI tr)) B;show⟨by rw[qG];show yI (qe (by lk)),λr s=>?_⟩;show q r _ (qw (c.trans e) s) ((c.trans e).free s) qb
theorem ok_rmvt(F:Fun K "move_to" "Walk.move_to" j0 f fd)(T:Txt K mg cc cw)(i:wq8 7 (cc 8) "moves" wqf (spRm cc cw)):wq9 8 f fd wqy (spRgo cc cw):=by
 show F.ok uh λ_ _ _ _ H vs Q E e h=>?_
 .obtain⟨x,b,p,ss,ns,TI,tr,st,v,rfl,R,hv,q⟩:=h;obtain⟨dx,g,d,m⟩:=id R.pl;have l:=jT e;show⟨_,(qc (qR (qm (zb (K:=K) rfl l) (pv 1) (qT i (hmR e) (pv 0)) (by with_unfolding_all rfl)) (qg ji) qu)
 (qg (qU (qcO (K:=K) rfl yP yU yV qJ (jx (K:=K) rfl (pv 0) rfl) (qa (pv 1) qd))))),?_⟩
  apply⟨x,dx,_,rfl,g,qae,?_⟩;apply⟨x,b,p,ss,ns,TI,tr,st,rfl,R,λr H1 a j c=>?_⟩;show qfH c ?_;apply qP (λh=>?_) λ_=>?_
  .rw [yw (yJ.mpr ⟨v,hv,rfl⟩)] at h;cases h
  apply .inl ⟨x,cc 8,dx,_,.ref p,rfl,a _ _ g,T.pcl,T.pp,qc2,?_⟩;apply⟨.inl ⟨rfl,_,SqL.of (a _ _ d)⟩,?_⟩;apply⟨p,_,_,rfl,rfl,a _ _ d,by rw[qG];have:=R.len;show qe (by lk),?_⟩;show q _ ((But.refl p H).same a).put (by rw[qb];unfold qN;rw[yq,yq];rfl)
theorem ok_rgo(F:Fun K "go" "Road.go" qbj f fd)(T:Txt K mg cc cw)(d:wq8 8 (cc 8) "move_to" wqy (spRgo cc cw)):wq9 9 f fd wqa (spRgo cc cw):=by
 show F.ok u6 λ_ _ _ _ H vs Q E a h=>?_
 .obtain⟨x,b,p,ss,ns,TI,tr,st,v,rfl,R,hv,q⟩:=h;obtain⟨dx,c,g,e⟩:=id R.pl;show⟨_,(qg (qU (qH d (hmR a) (pv 0) (qa (pv 1) qd)))),?_⟩;apply⟨x,dx,_,rfl,c,qae,?_⟩;apply⟨x,b,p,ss,ns,TI,tr,st,v,rfl,R,hv,q⟩
theorem ok_rwl(F:Fun K "web_left" "Road.web_left" jS f fd)(T:Txt K mg cc cw)(J:wq8 8 (cc 8) "ties_left" wqf (spTLf cc cw))(I:wq8 1 cw "places" wqf (spPls cw))(D:wqqa 5 cw "Web" wqs (spWeb cw)):wq9 9 f fd wqf (spRwl cc cw):=by
 show F.ok ue λ_ _ _ _ H vs Q E r h=>?_
 .obtain⟨x,b,p,ss,ns,TI,tr,st,rfl,R,q⟩:=h;obtain⟨dx,A,N,z⟩:=id R.pl;obtain⟨L,d,ol,n,hb,_,_,_,hw⟩:=id z;show⟨_,(qg (qp (qa1 D (hmR r) (qa (qT I (hmR r) (jx (K:=K) rfl (pv 0) rfl)) (qa (qT J (hmR r) (pv 0)) qd))))),?_⟩;apply .inl ⟨x,cc 8,dx,_,.ref b,rfl,A,T.pcl,T.pb,qbi,?_⟩;apply⟨b,L,_,rfl,hb,jU (by room),?_⟩;apply⟨b,ss,ns,rfl,z,λt m=>?_⟩;have i:=qw (Sr H) (o:=.lst (ss.map V.str)) m;have y:upd H t (.lst (ss.map V.str)) t=some (.lst (ss.map V.str)):=qb;generalize upd H t (.lst (ss.map V.str))=H1 at i y;apply⟨x,dx,_,rfl,i _ _ A,qae,?_⟩;apply⟨x,b,p,ss,ns,TI,tr,st,rfl,R.same i,λl ts tps H2 B a g=>?_⟩;ext;intro M G s c e;show qhl (.inl (B _ _ y)) ⟨hw.few,hw.nd,hw.nm⟩ ⟨.inl a.1,a.2⟩ ((qgR hw.nd (qdL R.ok tr)).perm g) s c e λu C v j=>⟨rfl,q M u C (i.trans (B.trans v)) (j.to ((qdL R.ok tr).go hw.nd) λ_ _ _ _=>qfK g)⟩
theorem ok_kc(F:Fun K "choose" "Keen.choose" zd f fd)(T:Txt K mg cc cw)(o:wq7 12 "good_ties" wqc (spGt cw))(D:wq7 1 "first_of" wq2 spFo)(G:wq8 9 (cc 8) "web_left" wqf (spRwl cc cw))(s:wq8 1 (cc 8) "stands_at" wqf (spPsP cc cw))(n:wq8 7 (cc 8) "moves" wqf (spRm cc cw)):wq9 13 f fd wq4 (spKc cc cw):=by
 show F.ok uo λ_ _ _ _ H vs Q E d h=>?_
 .obtain⟨k,x,b,p,ss,ns,TI,tr,st,cl,rfl,R,u,q⟩:=h;obtain⟨dx,i,M,L⟩:=id R.pl;have few:=R.wt.wok.few;have A:=R.lt;show⟨_,(qg (qp (qk D (hmR d) qt (qa (qC (j9 (K:=K) rfl) (qk o (hmR d) qt (qa (qT G (hmR d) (pv 1)) (qa (qT s (hmR d) (pv 1)) qd))) (qT n (hmR d) (pv 1))) qd)))),?_⟩;apply⟨x,dx,_,rfl,i,qae,?_⟩;apply⟨x,b,p,ss,ns,TI,tr,st,rfl,R,λy B H1 j t=>?_⟩;apply⟨x,dx,_,rfl,j _ _ i,qae,?_⟩;apply⟨x,b,p,ss,ns,tr,st,rfl,R.pl.same j,R.last,?_⟩;apply⟨y,ss,B,lfI TI tr,st,cl,rfl,t,qdL R.ok tr,A,λa b h=>u a b (qfO h),λl H2 C v hl=>?_⟩;have g:=j.trans C;apply⟨x,dx,_,rfl,g _ _ i,qae,?_⟩;apply⟨x,b,p,ss,ns,TI,tr,st,rfl,R.same g,λr I m z d=>?_⟩;have bl:=qeb (lfI TI tr) ss.length st
  have J:(gdI (lfI TI tr) cl ss.length st).length<=14:=by
   unfold gdI;show yh (yt _ _) (yh (yt _ _) ?_);rw[Yc];show few
  show qgb (m _ _ hl) d (by rw[qG,qG];lk) λc hc=>?_
  have e:qN ss (gdI (lfI TI tr) cl ss.length st)++qN ss (nbI (lfI TI tr) ss.length st)=qN ss (jV (lfI TI tr) cl ss.length st):=by
   unfold qN jV;rw[yq,yq]
  rw[e];apply⟨c,_,rfl,qb,q _ (qw (g.trans m) hc)⟩
theorem pk_sum(a:∀ v∈L,v<2 ^ 30)(h:Spn L g):xsm ((pkL L g).map λi=>L.getD i 0)=g:=by
 have e:=qgp L 0 (qcr L g);rw[pick_sum a h] at e;unfold pkL;rw[show(λi=>(qcr L g).testBit i)=λi=>(qcr L g).testBit (0+i) from funext λi=>by rw[YS]];show e.symm
theorem qec(g:α->β)(p:β->Bool):∀ l:List α,par (l.map g) p=par l λi=>p (g i)
 | []=>rfl
 | a::l=>by rw[Yk,qQ,qQ,qec g p l]
theorem qfQ(p:α->Bool):∀ l m:List α,par (l++m) p=(par l p ^^ par m p)
 | [],m=>by rw[show par ([]:List α) p=false from rfl,Xi];rfl
 | a::l,m=>by rw[XD,qQ,qQ,qfQ p l m,Bool.xor_assoc]
theorem qfR(b:Nat):∀ l:LN,(xsm l).testBit b=par l λv=>v.testBit b
 | []=>by rw[show xsm []=0 from rfl,Ym];rfl
 | a::l=>by
  rw[show xsm (a::l)=l.foldl (· ^^^ ·) (0 ^^^ a) from rfl,qbG,YJ,Yb,qfR b l,qQ]
section
variable{n:Nat}{TI:List (Nat×Nat)}
def evT(TI:List (Nat×Nat))(L:LN)(f b:Nat):Bool:=decide (b∈L)&&(qO TI b).testBit f
theorem qfS(a:TIok n TI)(nd:ps.Nodup)(e:∀ v∈ps,v<n)(f:Nat):oft TI f ps % 2=0↔par ps (λv=>(qO TI v).testBit f)=false:=by
 have b:par (bsN TI f) (λv=>decide (v∈ps))=decide (oft TI f ps % 2=1):=qd5 _ _
 have c:par (bsN TI f) (λv=>decide (v∈ps))=par (List.range n) λv=>decide (v∈ps)&&(qO TI f).testBit v:=by
  rw[<- qbv (qdF a f) (λv hv=>(a.adj ((zl a).mp hv)).2.1) λv _ h=>?_]
  .show qB λv hv=>?_;rw[(jl a).mpr ((zl a).mp hv),ke]
  .rw [y1] at h;show(zl a).mpr ((jl a).mp h.2)
 have d:par ps (λv=>(qO TI v).testBit f)=par (List.range n) λv=>decide (v∈ps)&&(qO TI f).testBit v:=by
  rw[<- qbv nd e λv _ h=>?_]
  .show qB λv hv=>?_;rw[yw hv,xn,qc1 a]
  .rw [y1,yD] at h;show h.1
 rw[d,<- c,b,Yn];lk
theorem bits_dot(nd:ps.Nodup)(b:∀ v∈ps,v<n)(a:∀ v∈ps,v∈L)(f:Nat):par ps (λv=>(qO TI v).testBit f)=dot n (evT TI L f) (bsT ps):=by
 unfold dot evT;rw[<- qbv nd b λv _ h=>?_]
 .show qB λv hv=>?_;rw[qaR nd,yw hv,yw (a v hv),xn,ke]
 .rw [y1,qaR nd,yD] at h;show h.2
theorem fil_dot(nd:L.Nodup)(a:∀ v∈L,v<n)(t f:Nat):par (L.filter λv=>t.testBit v) (λv=>(qO TI v).testBit f)=dot n (evT TI L f) t:=by
 unfold dot evT;rw[qbu,<- qbv nd a λv _ h=>?_]
 .show qB λv hv=>?_;rw[yw hv,xn,Bool.and_comm]
 .rw [y1,y1,yD] at h;show h.1.1
end
section
variable{n:Nat}{TI:List (Nat×Nat)}{cl:Nat->Bool}{s:Nat}
theorem qfT(f:L.Pairwise (· < ·)){l:LN}(h:l.Pairwise (· < ·))(hl:∀ i∈l,i<L.length):(l.map λi=>L.getD i 0).Pairwise (· < ·):=by
 show xB.mpr (h.imp_of_mem λ{a b} g hb c=>?_);have d:=hl a g;have e:=hl b hb;rw[yL,yL,yb d,yb e];show Yg.mp f a b d e c
theorem getD_mem(h:i<L.length):L.getD i 0∈L:=by
 rw[yL,yb h];show Yz h
theorem fvP_inc(C:LN)(a:Nat):(fvP C a).Pairwise (· < ·):=by
 unfold fvP;show Xg.mpr ⟨List.pairwise_lt_range.sublist xl,by simp,λi b j c=>?_⟩;have:=qfM b;rw[yH] at this;rw[yx.mp c];lk
structure FvOk(TI:List (Nat×Nat))(cl:Nat->Bool)(n s t:Nat)(e:LN):Prop where
 inc:e.Pairwise (· < ·)
 sub:∀ v∈e,v∈nr TI cl n s (cl s)
 top:t∈e
 max:∀ v∈e,v<=t
 ev:∀ f,par e (λv=>(qO TI v).testBit f)=false
theorem FvOk.nd{t:Nat}(h:FvOk TI cl n s t e):e.Nodup:=h.inc.imp λz k=>by lk
theorem FvOk.len{t:Nat}(h:FvOk TI cl n s t e):e.length<=n:=qcE h.nd λv hv=>(nr_mem.mp (h.sub v hv)).1
theorem qhn(u:TIok n TI)(m:n<=14)(q:a∈qcs ((nr TI cl n s (cl s)).map (qO TI))):FvOk TI cl n s ((nr TI cl n s (cl s)).getD a 0) ((fvP ((nr TI cl n s (cl s)).map (qO TI)) a).map λi=>(nr TI cl n s (cl s)).getD i 0):=by
 have b:=nr_inc (n:=n) (TI:=TI) (cl:=cl) (s:=s) (c:=cl s);have big:∀ v∈(nr TI cl n s (cl s)).map (qO TI),v<2 ^ 30:=λv hv=>by obtain⟨w,_,rfl⟩:=yJ.mp hv;show qeV u m w
 have g:=qd9 q;have hl:((nr TI cl n s (cl s)).map (qO TI)).length=(nr TI cl n s (cl s)).length:=ya ..
 have hc:∀ i,i<(nr TI cl n s (cl s)).length->((nr TI cl n s (cl s)).map (qO TI)).getD i 0=qO TI ((nr TI cl n s (cl s)).getD i 0):=λi d=>by
  rw[yL,yL,yd,yb d];rfl
 have l:∀ v∈nr TI cl n s (cl s),v∈nr TI cl n s (cl s):=λv hv=>hv
 revert l
 generalize o:nr TI cl n s (cl s)=L at *;intro _;have d:∀ i∈fvP (L.map (qO TI)) a,i<L.length:=λi d=>by have:=qfN d;lk
 have mono:∀{i j:Nat},i<=j->j<L.length->L.getD i 0<=L.getD j 0:=λ{i j} h r=>by
  by_cases e:i=j
  .rw [e];show yg _
  .rw [yL,yL,yb r,yb (show i<L.length by lk)];show yI (Yg.mp b i j (by lk) r (by lk))
 show⟨qfT b (fvP_inc _ a) d,λv hv=>?_,yJ.mpr ⟨a,yT _ (yx.mpr rfl),rfl⟩,λv hv=>?_,λf=>?_⟩
 .obtain⟨i,h,rfl⟩:=yJ.mp hv;rw[o];show getD_mem (d i h)
 .obtain⟨i,h,rfl⟩:=yJ.mp hv;show mono (qfN h) (by lk)
 .have sp:Spn ((L.map (qO TI)).take a) ((L.map (qO TI)).getD a 0):=by
   have:=(qdI big g).mp (of_decide_eq_false (by simpa using(yo.mp q).2));rw[yL,yb g];show this
  have e:=congrArg (λv=>v.testBit f) (pk_sum (λv hv=>big v (Yv hv)) sp);simp only[qfR,qec] at e;rw[qec];unfold fvP;rw[qfQ,qQ,show par ([]:LN) _=false from rfl,Yp]
  have t:par (pkL ((L.map (qO TI)).take a) ((L.map (qO TI)).getD a 0)) (λi=>(qO TI (L.getD i 0)).testBit f)=par (pkL ((L.map (qO TI)).take a) ((L.map (qO TI)).getD a 0)) λi=>(((L.map (qO TI)).take a).getD i 0).testBit f:=qB λi p=>by
   have h1:=qfM p;rw[yH] at h1;rw[<- hc i (by lk),yL,yL,XZ,yG (by lk)]
  rw[t,e,hc a (by lk),Bool.xor_self]
theorem bnds_inc(C:LN):(qcs C).Pairwise (· < ·):=List.pairwise_lt_range.sublist xl
theorem fv_rise(f:TIok n TI)(c:n<=14):Rise ((fvI TI cl n s).map bsT) ((qcs ((nr TI cl n s (cl s)).map (qO TI))).map λa=>(nr TI cl n s (cl s)).getD a 0):=by
 have hl:((nr TI cl n s (cl s)).map (qO TI)).length=(nr TI cl n s (cl s)).length:=ya ..;show⟨by unfold fvI;simp only[ya],qfT nr_inc (bnds_inc _) λi g=>by have:=qd9 g;lk,λi x t b e=>?_⟩;unfold fvI at b;rw[YC,yd] at b;rw[yd] at e;obtain⟨a,d,rfl⟩:=ym.mp e;rw[d] at b;cases b;have F:=qhn (cl:=cl) (s:=s) f c (ye d);show(bsT _).testBit _=true/\∀ j,_->(bsT _).testBit j=false;show⟨by rw[qaR F.nd,yw F.top],λj h=>?_⟩;rw[qaR F.nd];show yk λz=>by have:=F.max j z;lk
theorem qgS(d:TIok n TI)(b:n<=14)(c:e∈fvI TI cl n s):∃ t,FvOk TI cl n s t e:=by
 unfold fvI at c;obtain⟨a,f,rfl⟩:=yJ.mp c;show⟨_,qhn d b f⟩
theorem fv_num(b:TIok n TI)(a:n<=14):∀ v∈(fvI TI cl n s).map bsT,v<2 ^ n:=λv hv=>by
 obtain⟨e,c,rfl⟩:=yJ.mp hv;obtain⟨t,F⟩:=qgS b a c;show qgA F.nd λk d=>(nr_mem.mp (F.sub k d)).1
theorem fv_len(f:TIok n TI)(e:n<=14):(fvI TI cl n s).length+swp 14 0 ((nr TI cl n s (cl s)).map (qO TI))=(nr TI cl n s (cl s)).length:=by
 have big:∀ v∈(nr TI cl n s (cl s)).map (qO TI),v<2 ^ 30:=λv hv=>by obtain⟨w,_,rfl⟩:=yJ.mp hv;show qeV f e w
 have d:∀ v∈(nr TI cl n s (cl s)).map (qO TI),v<2 ^ 14:=λv hv=>by obtain⟨w,_,rfl⟩:=yJ.mp hv;show yi (qcg f w) (Yl (by decide) e)
 have a:=bnds_len big;have b:=qdH big;have c:=yt (λi=>decide (rk (((nr TI cl n s (cl s)).map (qO TI)).take i)<rk (((nr TI cl n s (cl s)).map (qO TI)).take (i+1)))) (List.range ((nr TI cl n s (cl s)).map (qO TI)).length);rw[Yc] at c;unfold qap at b;rw[b,ya] at c;rw[ya] at a;rw[qfD (by decide) d];unfold fvI;rw[ya,a];lk
theorem fv_even(g:TIok n TI)(d:n<=14)(c f:Nat):oft TI f ((nr TI cl n s (cl s)).filter λv=>(csm ((fvI TI cl n s).map bsT) 0 c).testBit v) % 2=0:=by
 have b:∀ v∈nr TI cl n s (cl s),v<n:=λv hv=>(nr_mem.mp hv).1;rw[qfS g (nr_nd.filter _) λv hv=>b v (yo.mp hv).1,fil_dot nr_nd b];show qfE (dot_sb n _) 0 c λa h=>?_;obtain⟨e,i,rfl⟩:=yJ.mp h;obtain⟨t,F⟩:=qgS g d i;rw[<- bits_dot F.nd (λv hv=>b v (F.sub v hv)) F.sub];show F.ev f
theorem FvOk.oft{t:Nat}(a:TIok n TI)(F:FvOk TI cl n s t e)(f:Nat):oft TI f e % 2=0:=(qfS a F.nd (λv hv=>(nr_mem.mp (F.sub v hv)).1) f).mpr (F.ev f)
end
theorem nms_in(g:ss.Nodup)(f:e.Pairwise (· < ·))(c:∀ v∈e,v<ss.length):(ss.filter λz=>decide (z∈e.map (tn ss))).map V.str=qN ss e:=by
 rw[qfG];unfold qN
 congr 2
 show qba (· < ·) (λa h=>by lk) (λa b h k=>by lk) _ _ (List.pairwise_lt_range.sublist xl) f λv=>?_;rw[yo,y7,yD,yJ];constructor
 .rintro ⟨hv,u,d,k⟩;rw[<- jR g (c u d) hv k];show d
 .show λhv=>⟨c v hv,v,hv,rfl⟩
theorem and1_nat(m j:Nat):Builtin.bitAnd ((m:Int) / 2 ^ (j:Int).toNat) 1=if m.testBit j=true then 1 else 0:=by
 have h:=qb6 m j;rw[xW] at h ⊢;have k:((m:Int) / 2 ^ (j:Int).toNat) % 2=0\/((m:Int) / 2 ^ (j:Int).toNat) % 2=1:=by lk
 rcases k with k | k<;>rw[k] at h ⊢<;>rw[<- h]<;>rfl
theorem kH:FnScope wa wqk (qf qW):=fS
theorem qed{a b:Addr}(d:H a=some (.lst (qN ss L)))(hb:H b=some (.lst (qN ss L))):EqT K H 1 a b true:=
 qfs d hb rfl λj x y h1 c=>by
  rw[h1] at c;cases c;obtain⟨v,_,rfl⟩:=zq h1;have z:=EqD.flat (K:=K) (H:=H) (n:=0) (x:=.str (tn ss v)) (y:=.str (tn ss v)) rfl rfl;rw[qd8,yw rfl] at z;show z
theorem qh2{a b:Addr}{Q:VK}(c:n<=60)(h:EqT K H n a b true)(q:Q (.bl false) H):qeX K true (.ref a) (.ref b) H Q:=.inr (.inl ⟨a,b,_,n,rfl,rfl,c,h,q⟩)
theorem vEqT{a b:Addr}{Q:VK}(c:n<=60)(h:EqT K H n a b true)(q:Q (.bl true) H):qgN K (.ref a) (.ref b) H Q:=.inl (.inl (.inr (.inl ⟨a,b,_,n,rfl,rfl,c,h,q⟩)))
theorem strs_snoc{L:LS}{f:Str->Bool}(h:L[i]?=some z):((L.take (i+1)).filter f).map V.str=((L.take i).filter f).map V.str++if f z=true then [V.str z] else []:=by
 rw[yA,h,yQ,yq]
 congr 1
 show([z].filter f).map V.str=_;rw[yM];cases f z<;>rfl
structure FdK(H J:Hp)(fo:Addr)(us:LI)(ss:LS)(E:List (LN)):Prop where
 s:L2.Same H J
 f0:H fo=none
 f1:J fo=some (.lst (us.map V.ref))
 nin:fo∉us
 al:All2 (λu e=>H u=none/\J u=some (.lst (qN ss e))) us E
theorem FdK.same{E:List (LN)}(h:FdK H J fo us ss E)(k:L2.Same J J'):FdK H J' fo us ss E:=⟨h.s.trans k,h.f0,k _ _ h.f1,h.nin,h.al.mono λ_ _ z=>⟨z.1,k _ _ z.2⟩⟩
theorem FdK.put{a:Addr}{E:List (LN)}(h:FdK H J fo us ss E)(d:H a=none)(h1:a≠fo)(f:a∉us):FdK H (upd J a o) fo us ss E:=
 ⟨qdQ h.s d,h.f0,by rw[qj h1.symm];show h.f1,h.nin,⟨h.al.len,λk u e b c=>⟨(h.al.at_ k u e b c).1,by rw[qj (show u≠a from λz=>f (by rw[<- z];show ye b))];show(h.al.at_ k u e b c).2⟩⟩⟩
inductive spFrI(cw:Addr)(vs:List V)(H:Hp)(Q:VK)(E:XK):Prop|mk (x nl l ca:Addr) (ss:LS) (ns:LN) (ts:LI) (TI:List (Nat×Nat)) (s:Nat) (cs:LQ) (cl:Nat->Bool) (_:vs=[.ref x,.ref nl,.ref l,iv s,.ref ca]) (_:Wt cw H x ss ns (TI.map (nmP ss))) (_:H nl=some (.lst (ss.map V.str))) (_:IPL H l ts TI) (_:TIok ss.length TI) (_:s<ss.length) (_:(∀ a b,adjI TI a b->cl b=!cl a)) (_:H ca=some (.lst (cs.map V.int))) (_:cs.length<=100) (_:∀ H',L2.Same H H'->Q (.bl true) H')
theorem ok_frF(F:Fun K "_law_free_right" "_law_free_right" qW f fd)(T:Txt K mg cc cw)(Kx:wq7 3 "_law_near" wqb (spNrI false))(Kq:wq7 1 "_law_swept" wq1 spSw)(Kp:wq7 2 "_law_columns" wqr spCm)(uM:wq7 4 "_law_even" wqF spEv)(ud:wq7 1 "_law_bits" wq3 spBt)(KY:wq7 11 "free_evens" wqc (spFv cw)):wq9 12 f fd wqk (spFrI cw):=by
 show F.ok kH λ_ _ _ s H vs Q E hr h=>?_
 .obtain⟨x,nl,l,ca,ss,ns,ts,TI,st,cs,cl,rfl,W,ae,hI,hT,hs,hC,ar,cj,q⟩:=h;have Z:=jT hr;have few:=W.wok.few;have hn:=W.wok.nd;have cf:=qch (n:=ss.length) (TI:=TI) (cl:=cl) (s:=st) (c:=cl st);have ci:=fv_len (cl:=cl) (s:=st) hT few;have bm:=fv_num (cl:=cl) (s:=st) hT few;have aq:=fv_rise (cl:=cl) (s:=st) hT few;have bj:=fv_even (cl:=cl) (s:=st) hT few;have ap:=λ{e}=>qgS (cl:=cl) (s:=st) (e:=e) hT few;have El:(fvI TI cl ss.length st).length<=14:=by lk
  obtain⟨TC8,ah⟩:∃ t:TS,t=λD σ H'=>(∀ u H',Q u H'->D.rt u H')/\∃(nr_ fo:Addr) (us:LI) (x7 Y x9 ad L M O p aa:Option V),σ=[some (.ref x),some (.ref nl),some (.ref l),some (iv st),some (.ref ca),some (.ref nr_),some (.ref fo),x7,Y,x9,ad,L,M,O,p,aa]/\FdK H H' fo us ss (fvI TI cl ss.length st):=⟨_,rfl⟩;obtain⟨TC6,ag⟩:∃ t:TS,t=λD σ H'=>(∀ u H',Q u H'->D.rt u H')/\∃(nr_ fo nm:Addr) (us:LI) (Y x9 ad L M O p aa:Option V),σ=[some (.ref x),some (.ref nl),some (.ref l),some (iv st),some (.ref ca),some (.ref nr_),some (.ref fo),some (.ref nm),Y,x9,ad,L,M,O,p,aa]/\FdK H H' fo us ss (fvI TI cl ss.length st)/\H' nr_=some (.lst (ivs (nr TI cl ss.length st (cl st))))/\H' nm=some (.lst (ivs ((fvI TI cl ss.length st).map bsT))):=⟨_,rfl⟩;show⟨_,(qc (qo (i:=5) kH.nd rfl (yF rfl) (qk Kx (hmR hr) qt (qa (pv 2) (qa (pv 3) qd))))
 (qc (qo (i:=6) kH.nd rfl (yF rfl) (qk KY (hmR hr) qt (qa (pv 0) (qa (qx (qz (K:=K) rfl Z) (pv 1) (pv 3) (λ_ _=>rfl)) qd))))
 (qc (qR (PW.pt (qcn (jw (qY (qq (qbA (K:=K) rfl) rfl T.b_isinstance YT (qa (pv 6) (qa (j7 (v:=.ty "list") rfl T.b_list Xc rfl) qd))))) (qbw (qm (zv (K:=K) rfl Z) (qq (j8 (K:=K) rfl) rfl T.b_len YE (qa (pv 6) qd)) (qC qel (qq (j8 (K:=K) rfl) rfl T.b_len YE (qa (pv 5) qd)) (qk Kq (hmR hr) qt (qa (qk Kp (hmR hr) qt (qa (pv 2) (qa (pv 5) qd))) qd))) (qv _))))) (qg (qp qah)) qu)
 (qc (qo (i:=7) kH.nd rfl (yF rfl) (qZ qd))
 (qc (je yS rfl (qF (K:=K) rfl (pv 6)) (qi (i:=8) kH.nd rfl (YX rfl))
 (qc (qR (PW.pt (qcn (jw (qY (qq (qbA (K:=K) rfl) rfl T.b_isinstance YT (qa (pv 8) (qa (j7 (v:=.ty "list") rfl T.b_list Xc rfl) qd))))) (qcn (qm (jX (K:=K) rfl Z) (pv 8) (qZ qd) (qv _)) (qbw (qm (zv (K:=K) rfl Z) (pv 8) (qL (sc:=qf qW) (XN:=wa) ["_law_name","_law_some"] 1 [8] rfl rfl rfl (by room) rfl (by room)
  (qF (K:=K) rfl (pv 1)) (λ_ _ _ _=>(qi (i:=0) (show(["_law_name","_law_some"]:LS).Nodup by room) rfl (yF rfl))) qA
  (λ_ _ _ _=>(qE (qm (qcP (K:=K) rfl Z) (pv 0) (pv 1) (by with_unfolding_all rfl))))
  (λ_ _ _ _=>(pv 0))) (qv _)))))) (qg (qp qah)) qu)
 (qc (jM (sc:=qf qW) (XN:=wa) ["_law_name","_law_names_here"] 1 [1] rfl rfl rfl (by room) rfl (by room) (i:=9) kH.nd rfl rfl
  (qF (K:=K) rfl (pv 8)) (λ_ _ _ _=>(qi (i:=0) (show(["_law_name","_law_names_here"]:LS).Nodup by room) rfl (yF rfl))) qA
  (λ_ _ _ _=>jj)
  (λ_ _ _ _=>(qcO (K:=K) rfl yP PySem.F.slot_list_index PySem.F.type_list_index (k_index (K:=K) rfl) (pv 1) (qa (pv 0) qd))))
 (qc (qR (jw (qY (qk uM (hmR hr) qt (qa (pv 2) (qa (pv 3) (qa (pv 9) qd)))))) (qg (qp qah)) qu)
 (qg (qU (qcO (K:=K) rfl yP yU yV qJ (pv 7) (qa (qk ud (hmR hr) qt (qa (pv 9) qd)) qd))))))))
 (qc (qR (qm (zv (K:=K) rfl Z) (qk Kq (hmR hr) qt (qa (pv 7) qd)) (qq (j8 (K:=K) rfl) rfl T.b_len YE (qa (pv 7) qd)) (qv _)) (qg (qp qah)) qu)
 (qcb TC6 (qc (qo (i:=10) kH.nd rfl (yF rfl) qcN)
 (qc (je yS rfl (qF (K:=K) rfl (pv 4)) (qi (i:=11) kH.nd rfl (yF rfl))
 (qc (qo (i:=12) kH.nd rfl (YX rfl) qh)
 (qc (qo (i:=13) kH.nd rfl (yF rfl) (qC zh (pv 11) (qC qbQ qh (qq (j8 (K:=K) rfl) rfl T.b_len YE (qa (pv 7) qd)))))
 (qc (je yS rfl (jo rfl T.b_range (qa (qq (j8 (K:=K) rfl) rfl T.b_len YE (qa (pv 7) qd)) qd)) (qi (i:=14) kH.nd rfl (yF rfl))
 (qg (qo (i:=12) kH.nd rfl (YX rfl) (qC qdc (pv 12) (qC qdp (qx (qz (K:=K) rfl Z) (pv 7) (pv 14) (λ_ _=>rfl)) (qC qdb (qC qda (pv 13) (pv 14)) qh))))))
 (qc (qR (jw (qY (qk uM (hmR hr) qt (qa (pv 2) (qa (pv 3) (qa (qL (sc:=qf qW) (XN:=wa) ["_law_place","_law_total"] 1 [12] rfl rfl rfl (by room) rfl (by room)
  (qF (K:=K) rfl (pv 5)) (λ_ _ _ _=>(qi (i:=0) (show(["_law_place","_law_total"]:LS).Nodup by room) rfl (yF rfl))) qA
  (λ_ _ _ _=>(qE (qm (jX (K:=K) rfl Z) (qC qdb (qC qda (pv 1) (pv 0)) qh) qh (qv _))))
  (λ_ _ _ _=>(pv 0))) qd)))))) (qg (qp qah)) qu)
 (qc (qR (qm (zv (K:=K) rfl Z) (pe_dget2 (lt99 Z) (pv 10) (pv 12) (pv 13) ⟨rfl,rfl,rfl,rfl⟩) (pv 13) (qv _)) (qg (qp qah)) qu)
 (qg (qaj (pv 13) (qaJ (pv 10) (pv 12) (qaK Z))))))))))
 (qcb TC8 (qc (jM (sc:=qf qW) (XN:=wa) ["_law_some"] 1 [] rfl rfl rfl (by room) rfl (by room) (i:=15) kH.nd rfl rfl
  (qF (K:=K) rfl (pv 6)) (λ_ _ _ _=>(qi (i:=0) (show(["_law_some"]:LS).Nodup by room) rfl (yF rfl))) qA
  (λ_ _ _ _=>jj)
  (λ_ _ _ _=>(zi (qb2 (K:=K) rfl rfl) rfl T.b_list Xc (qa (pv 0) qd))))
 (qc (je yS rfl (qF (K:=K) rfl (pv 6)) (qi (i:=8) kH.nd rfl (YX rfl))
 (qg (qU (qcO (K:=K) rfl yP yU yV qJ (pv 8) (qa qaI qd)))))
 (qc (qU (qcO (K:=K) rfl yP yU yV qJ (pv 6) (qa (qZ qd) qd)))
 (qg (qp (jL (jX (K:=K) rfl Z) (qk KY (hmR hr) qt (qa (pv 0) (qa (qx (qz (K:=K) rfl Z) (pv 1) (pv 3) (λ_ _=>rfl)) qd))) (pv 15) (qv _))))))) ?cut8))) ?cut6))))))),?_⟩
  case cut8 =>
   intro D σ J h;rw[ah] at h;obtain⟨hD,nr_,fo,us,x7,Y,x9,ad,L,M,O,p,aa,rfl,G⟩:=h;have ul:=G.al.len;apply .inl ⟨⟨_,.of G.f1⟩,qr (xs:=us.map V.ref) (λi ys I=>L2.Same J I/\∃ ks:LI,ys=ks.map V.ref/\All2 (λk e=>J k=none/\I k=some (.lst (qN ss e))) ks ((fvI TI cl ss.length st).take i)) ⟨L2.Same.refl J,[],rfl,.nil⟩ (λi ys I _ m=>.of (m.1 _ _ G.f1)) (λi y ys I C m=>?_) λys I m=>?_⟩
   .obtain⟨sI,ks,rfl,hA⟩:=m;rw[yd] at C;obtain⟨u,B,rfl⟩:=ym.mp C;have hi:i<(fvI TI cl ss.length st).length:=by rw[<- ul];show(yc.mp B).1
    obtain⟨e,he⟩:∃ e,(fvI TI cl ss.length st)[i]?=some e:=⟨_,yb hi⟩;have bu:=sI _ _ (G.al.at_ i u e B he).2;have kl:=hA.len;rw[yH] at kl;apply zu ?_;apply .inl ⟨u,_,rfl,.inl (.of bu),λk hk=>?_⟩;have X:=qw (Sr I) (o:=.lst (qN ss e)) hk;show⟨by rw[ya];show qe (by lk),sI.trans X,ks++[k],by rw[yq];rfl,?_⟩;rw[yA,he];show(hA.mono λz e k=>⟨k.1,X _ _ k.2⟩).snoc ⟨sI.free hk,qb⟩
   .obtain⟨sI,ks,rfl,hA⟩:=m;rw[ya,ul,yv] at hA;have kl:=hA.len;show⟨by rw[ya];show yI (qe (by lk)),λkp ac=>?_⟩;have X:=qw sI (o:=.lst (ks.map V.ref)) ac;have kA:=hA.mono λz e k=>(⟨k.1,qw (Sr I) (o:=.lst (ks.map V.ref)) ac _ _ k.2⟩:J z=none/\upd I kp (.lst (ks.map V.ref)) z=some (.lst (qN ss e)));have ao:upd I kp (.lst (ks.map V.ref)) kp=some (.lst (ks.map V.ref)):=qb;replace ac:=sI.free ac;have af:∀ z,J z=none->z≠fo/\z∉us:=λz hz=>⟨λk=>(by rw[k,G.f1] at hz;cases hz),λk=>by obtain⟨_,_,_,e⟩:=G.al.mem k;rw[e] at hz;cases hz⟩;replace G:=G.same X;generalize upd I kp (.lst (ks.map V.ref))=J2 at X kA ao G;apply .inl ⟨⟨_,.of G.f1⟩,ju (xs:=us.map V.ref) (λi σ I=>∃(Y:Option V),σ=[some (.ref x),some (.ref nl),some (.ref l),some (iv st),some (.ref ca),some (.ref nr_),some (.ref fo),x7,Y,x9,ad,L,M,O,p,some (.ref kp)]/\L2.Same H I/\(∀ c,c∉us->∀ o,J2 c=some o->I c=some o)/\∀ u∈us,∃ ys,I u=some (.lst ys)/\ys.length<=14+i) ⟨_,rfl,G.s,λc _ o e=>e,λu Z=>?_⟩ (λi σ I _ m=>?_) (λi y σ I C m=>?_) fun σ I m=>?_⟩
    .obtain⟨e,he,_,k⟩:=G.al.mem Z;obtain⟨t,Fv⟩:=ap he;show⟨_,k,by rw[qG];have:=Fv.len;lk⟩
    .obtain⟨_,_,_,k,_⟩:=m;show .of (k _ G.nin _ G.f1)
    .obtain⟨Y,rfl,sI,hk,av⟩:=m;rw[yd] at C;obtain⟨u,B,rfl⟩:=ym.mp C;have an:=ye B;have hi:i<us.length:=(yc.mp B).1;obtain⟨ys,ax,ck⟩:=av u an;have au:H u=none:=by obtain⟨_,_,k,_⟩:=G.al.mem an;show k
     apply⟨.inl ⟨rfl,_,.of ax⟩,?_⟩;apply⟨u,_,_,rfl,rfl,ax,qe (by lk),?_⟩;show⟨_,rfl,qdQ sI au,λc hc o e=>by rw[qj (show c≠u from λz=>hc (by rw[z];show an))];show hk c hc o e,λv hv=>?_⟩;by_cases z:v=u
     .rw [z,qb];show⟨_,rfl,by rw[yu];show ys.length+1<=_;lk⟩
     .rw [qj z];obtain⟨zs,h1,h2⟩:=av v hv;show⟨zs,h1,by lk⟩
    .obtain⟨Y,rfl,sI,hk,_⟩:=m;have ab:=hk _ G.nin _ G.f1;apply⟨.inl ⟨rfl,_,.of ab⟩,?_⟩;apply⟨wqqb,λe bp=>?_⟩;have s4:=qw (Sr I) (o:=.lst []) bp;generalize upd I e (.lst [])=I4 at s4;show⟨fo,_,_,rfl,rfl,s4 _ _ ab,by rw[ya];show qe (by lk),?_⟩;have s5:=qdQ (o:=.lst (us.map V.ref++[V.ref e])) (sI.trans s4) G.f0;have az:upd I4 fo (.lst (us.map V.ref++[V.ref e])) kp=some (.lst (ks.map V.ref)):=by rw[qj (af kp ac).1];show s4 _ _ (hk _ (af kp ac).2 _ ao)
     have ay:All2 (λk e'=>upd I4 fo (.lst (us.map V.ref++[V.ref e])) k=some (.lst (qN ss e'))) ks (fvI TI cl ss.length st):=kA.mono λz e' k=>by rw[qj (af z k.1).1];show s4 _ _ (hk _ (af z k.1).2 _ k.2)
     generalize upd I4 fo (.lst (us.map V.ref++[V.ref e]))=I5 at s5 az ay;apply qbB (s5 _ _ ae) hs ?_;show⟨x,ss,ns,TI,st,cl,rfl,W.same s5,hT,hs,hC,λch cn I6 s6 ce as _ aj=>?_⟩;apply vEqT (n:=2) (by decide) (qfs as (s6 _ _ az) (by rw[ya,ya,aj.len,kl]) λj y z C hz=>?_) (hD _ _ (q _ (s5.trans s6)));rw[yd] at C hz;obtain⟨u,B,rfl⟩:=ym.mp C;obtain⟨k,br,rfl⟩:=ym.mp hz;have hj:j<(fvI TI cl ss.length st).length:=by rw[<- aj.len];show(yc.mp B).1
     have h1:=aj.at_ j u _ B (yb hj);have h2:=ay.at_ j k _ br (yb hj);show .deep (qed h1.2 (s6 _ _ h2)) λz=>by have:=h1.1;rw[z,h2] at this;cases this
  case cut6 =>
   intro D σ J h;rw[ag] at h;obtain⟨hD,nr_,fo,nm,us,Y,x9,ad,L,M,O,p,aa,rfl,G,g,a⟩:=h;have Nl:((fvI TI cl ss.length st).map bsT).length<=14:=by rw[ya];show El
   generalize (fvI TI cl ss.length st).map bsT=N at *;ext;intro d hd;have dH:=G.s.free hd;have bd:d≠fo:=λz=>by rw[z,G.f1] at hd;cases hd
   have bg:d∉us:=λz=>by obtain⟨_,_,_,k⟩:=G.al.mem z;rw[k] at hd;cases hd
   have bf:d≠nr_:=λz=>by rw[z,g] at hd;cases hd
   have be:d≠nm:=λz=>by rw[z,a] at hd;cases hd
   have X:=qw (Sr J) (o:=.dK []) hd;have ed:upd J d (.dK []) d=some (.dK []):=qb;replace G:=G.same X;replace g:=X _ _ g;replace a:=X _ _ a;generalize upd J d (.dK [])=J1 at X ed G g a;apply .inl ⟨⟨_,.of (G.s _ _ ar)⟩,ju (xs:=cs.map V.int) (λi σ J=>∃(kvs:List (Key×V)) (L M O p:Option V),σ=[some (.ref x),some (.ref nl),some (.ref l),some (iv st),some (.ref ca),some (.ref nr_),some (.ref fo),some (.ref nm),Y,x9,some (.ref d),L,M,O,p,aa]/\FdK H J fo us ss (fvI TI cl ss.length st)/\J nr_=some (.lst (ivs (nr TI cl ss.length st (cl st))))/\J nm=some (.lst (ivs N))/\J d=some (.dK kvs)/\kvs.length<=i/\∀(t:Int) v,zQ kvs (Sum.inl t:Key)=some v->∃ c:Nat,v=iv c/\c<2 ^ N.length/\t=(csm N 0 c:Nat))
    ⟨_,_,_,_,_,rfl,G,g,a,ed,yg _,λt v e=>by cases e⟩ (λi σ J _ m=>?_) (λi y σ J C m=>?_) fun σ J m=>?_⟩
   .obtain⟨_,_,_,_,_,_,G,_⟩:=m;show .of (G.s _ _ ar)
   .obtain⟨kvs,L,M,O,p,rfl,G,g,a,ed,kl,kv⟩:=m;rw[yd] at C;obtain⟨R,am,rfl⟩:=ym.mp C;have hi:i<cs.length:=(yc.mp am).1;apply zT a ?_;rw[qM];show vI ⟨by lk,by lk,by decide⟩ ?_
    obtain⟨c,hc,ec⟩:∃ c:Nat,c<2 ^ N.length/\R % (1*2 ^ (N.length:Int).toNat)=(c:Int):=by
     have e2:(1*2 ^ (N.length:Int).toNat:Int)=((2 ^ N.length:Nat):Int):=by rw[y6,X5,xZ];rfl
     rw[e2];have p0:0<2 ^ N.length:=Nat.two_pow_pos _;have h1:=Y5 R (show((2 ^ N.length:Nat):Int)≠0 by lk);have h2:=xr R (show 0<((2 ^ N.length:Nat):Int) by lk);show⟨(R % ((2 ^ N.length:Nat):Int)).toNat,by lk,by lk⟩
    show vI (show(0:Int)<1*2 ^ (N.length:Int).toNat from by rw[X5];show Int.pow_pos (by decide)) ?_;rw[ec];apply zT a ?_;rw[qM];show⟨(N.length:Int),rfl,by lk,by lk,?_⟩;rw[y6];show jE (lo:=0) (n:=N.length) (λk σ J'=>J'=J/\∃ p:Option V,σ=[some (.ref x),some (.ref nl),some (.ref l),some (iv st),some (.ref ca),some (.ref nr_),some (.ref fo),some (.ref nm),Y,x9,some (.ref d),some (.int R),some (iv (csm (N.take k) 0 c)),some (iv c),p,aa]) ⟨rfl,_,rfl⟩ (λk σ J' hk m=>?_) fun σ J' m=>?_
    .obtain⟨rfl,p,rfl⟩:=m;rw[xA];ext;have ek:N[k]?=some N[k]:=yb hk
     show .inl (qbD a (v:=iv N[k]) (by
      unfold atI;rw[qM,zk hk];show(ivs N)[k]?=_;rw[yd,ek];rfl) ?_)
     apply vI (show(0:Int)<=(k:Int) by lk) ?_;ext;rw[and1_nat]
     have em:((N[k]:Nat):Int)*(if c.testBit k=true then 1 else 0)=((if c.testBit k=true then N[k] else 0:Nat):Int):=by
      cases c.testBit k
      .rw [yC (by decide),yC (by decide),Int.mul_zero];rfl
      .rw [yG rfl,yG rfl,Int.mul_one]
     show qdY (.inr (by split<;>decide)) ?_;rw[em];ext;rw[qdx];show⟨rfl,some (iv k),?_⟩
     have e3:csm (N.take (k+1)) 0 c=csm (N.take k) 0 c ^^^ (if c.testBit k=true then N[k] else 0):=by
      rw[yA,ek];show csm (N.take k++[N[k]]) 0 c=_;rw[qd7,yH,xY (by lk),YS];show _ ^^^ ((if c.testBit k=true then _ else 0) ^^^ 0)=_;rw[YQ]
     rw[e3];rfl
    .obtain⟨rfl,p,rfl⟩:=m;rw[yv];apply .inl ⟨⟨_,.of g⟩,qr (xs:=ivs (nr TI cl ss.length st (cl st))) (λj ys I=>I=J'/\ys=ivs (((nr TI cl ss.length st (cl st)).take j).filter λv=>(csm N 0 c).testBit v)) ⟨rfl,by simp⟩ (λj ys I _ m=>by rw[m.1];show .of g) (λj y ys I C m=>?_) λys I m=>?_⟩
     .obtain⟨rfl,rfl⟩:=m;rw[yd] at C;obtain⟨v,hv,rfl⟩:=ym.mp C;apply vI (show(0:Int)<=(v:Int) by lk) ?_;apply qeU ?_;ext;rw[qb6,qab hv];show qP (λh=>?_) (λh=>?_)
      .ext;show⟨by rw[ya];show qe (za (by lk)),rfl,?_⟩;rw[yG h];show _=List.map iv _;rw[yq];rfl
      .show⟨rfl,?_⟩;rw[yC h,yZ]
     .obtain⟨rfl,rfl⟩:=m;rw[qM (nr TI cl ss.length st (cl st)),yv];have fl:=yt (λv=>(csm N 0 c).testBit v) (nr TI cl ss.length st (cl st));show⟨by rw[ya];show yI (qe (by lk)),λb ak=>?_⟩;have s8:=qw (Sr I) (o:=.lst (ivs ((nr TI cl ss.length st (cl st)).filter λv=>(csm N 0 c).testBit v))) ak;have eb:upd I b (.lst (ivs ((nr TI cl ss.length st (cl st)).filter λv=>(csm N 0 c).testBit v))) b=some (.lst (ivs ((nr TI cl ss.length st (cl st)).filter λv=>(csm N 0 c).testBit v))):=qb;replace G:=G.same s8;replace g:=s8 _ _ g;replace a:=s8 _ _ a;replace ed:=s8 _ _ ed;generalize upd I b (.lst (ivs ((nr TI cl ss.length st (cl st)).filter λv=>(csm N 0 c).testBit v)))=J8 at s8 eb G g a ed;apply⟨l,b,ts,TI,st,ss.length,cl,_,rfl,hI.same G.s,hT,few,hs,hC,eb,λv hv=>(yo.mp hv).1,λf _ _=>bj c f,λJ9 s9=>?_⟩;replace G:=G.same s9;replace g:=s9 _ _ g;replace a:=s9 _ _ a;replace ed:=s9 _ _ ed;apply yp ?_;apply⟨d,rfl,.inl ⟨_,.inl ed⟩,?_⟩;apply⟨_,DGet.k (k:=Sum.inl ((csm N 0 c:Nat):Int)) ed,?_⟩;ext
      have ev:(zQ kvs (Sum.inl ((csm N 0 c:Nat):Int))).getD (iv c)=iv c:=by
       cases hv:zQ kvs (Sum.inl ((csm N 0 c:Nat):Int):Key) with
       | none=>rfl
       | some v =>
        obtain⟨c',rfl,bn,ee⟩:=kv _ _ hv;rw[aq.inj bn hc (by lk)];rfl
      rw[ev];show qfx ?_;rw[yw rfl];apply yp ?_;apply .inr ⟨d,_,rfl,DPut.k (k:=Sum.inl ((csm N 0 c:Nat):Int)) ed (by rw[xR];lk),?_⟩;show⟨_,_,_,_,_,rfl,G.put dH bd bg,by rw[qj (YB bf)];show g,by rw[qj (YB be)];show a,qb,by have:=zj kvs (Sum.inl ((csm N 0 c:Nat):Int):Key) (iv c);lk,λt v e=>?_⟩;rw[qeq] at e;split at e
      .next h=>cases e;cases h;show⟨c,rfl,hc,rfl⟩
      .show kv t v e
   .obtain⟨kvs,L,M,O,p,rfl,G,g,a,ed,kl,kv⟩:=m;rw[ah];show⟨hD,nr_,fo,us,_,_,_,_,_,_,_,_,_,rfl,G⟩
  apply⟨l,ts,TI,st,ss.length,cl,rfl,hI,hT,few,hs,hC,λnr_ H1 X cm g=>?_⟩;rw[Yp] at g;apply qbB (X _ _ ae) hs ?_;show⟨x,ss,ns,TI,st,cl,rfl,W.same X,hT,hs,hC,λfo us H2 s2 bh ab bq hA=>?_⟩;have bb:=X.trans s2;have G:FdK H H2 fo us ss (fvI TI cl ss.length st):=⟨bb,X.free bh,ab,bq,hA.mono λu e z=>⟨X.free z.1,z.2⟩⟩;have ul:=hA.len;apply qds (.inl (.lst ab)) rfl (qam K "list" (by simp) "list" (by simp)) ?_;apply yp ?_;apply zT ab ?_;apply zT (s2 _ _ g) ?_;apply⟨l,nr_,ts,TI,ss.length,_,rfl,hI.same bb,hT,few,s2 _ _ g,by lk,λcb H3 s3 cg bo=>?_⟩;show⟨cb,_,rfl,bo,by rw[ya];lk,λH4 s4=>?_⟩;have bc:=s3.trans s4;have S:=(s2.trans bc) _ _ g;replace G:=G.same bc;apply qfx ?_;rw[ya,qM,ul,yw (show((fvI TI cl ss.length st).length:Int)=((nr TI cl ss.length st (cl st)).length:Int)-(swp 14 0 ((nr TI cl ss.length st (cl st)).map (qO TI)):Nat) by lk)];show⟨false,rfl,?_⟩;show yp ?_;apply⟨wqqb,λnm U=>?_⟩;have bw:=G.s.free U;have s5:=qw (Sr H4) (o:=.lst (ivs [])) U;have ba:upd H4 nm (.lst (ivs [])) nm=some (.lst (ivs [])):=qb;have bv:nm≠fo:=λz=>by rw[z,G.f1] at U;cases U
  have cd:nm∉us:=λz=>by obtain⟨_,_,_,k⟩:=G.al.mem z;rw[k] at U;cases U
  have bz:nm≠nr_:=λz=>by rw[z,S] at U;cases U
  replace G:=G.same s5;replace S:=s5 _ _ S;show qf0 _ _ _ _ (upd H4 nm (.lst (ivs [])));generalize upd H4 nm (.lst (ivs []))=H5 at s5 ba G S;apply .inl ⟨⟨_,.of G.f1⟩,ju (xs:=us.map V.ref) (λi σ J=>∃(Y x9:Option V),σ=[some (.ref x),some (.ref nl),some (.ref l),some (iv st),some (.ref ca),some (.ref nr_),some (.ref fo),some (.ref nm),Y,x9,none,none,none,none,none,none]/\FdK H J fo us ss (fvI TI cl ss.length st)/\J nr_=some (.lst (ivs (nr TI cl ss.length st (cl st))))/\J nm=some (.lst (ivs (((fvI TI cl ss.length st).take i).map bsT))))
   ⟨_,_,rfl,G,S,ba⟩ (λi σ J _ m=>?_) (λi y σ J C m=>?_) fun σ J m=>?_⟩
  .obtain⟨Y,x9,_,G,_⟩:=m;show .of G.f1
  .obtain⟨Y,x9,rfl,G,g,a⟩:=m;rw[yd] at C;obtain⟨u,B,rfl⟩:=ym.mp C;have hi:i<(fvI TI cl ss.length st).length:=by rw[<- G.al.len];show(yc.mp B).1
   obtain⟨e,he⟩:∃ e,(fvI TI cl ss.length st)[i]?=some e:=⟨_,yb hi⟩;obtain⟨au,A⟩:=G.al.at_ i u e B he;obtain⟨t,Fv⟩:=ap (ye he);apply qds (.inl (.lst A)) rfl (qam K "list" (by simp) "list" (by simp)) ?_;apply yp ?_;apply⟨wqqb,λz hz=>?_⟩;have s6:=qw (Sr J) (o:=.lst []) hz;have ez:upd J z (.lst []) z=some (.lst []):=qb;replace G:=G.same s6;replace A:=s6 _ _ A;replace g:=s6 _ _ g;replace a:=s6 _ _ a;generalize upd J z (.lst [])=J6 at s6 ez G A g a;show qdJ A ez ?_
   have ne:(qN ss e).isEmpty=false:=by
    cases e with
    | nil=>cases Fv.top
    | cons=>rfl
   rw[ne];apply yp ?_;ext;have ai:=G.s _ _ ae;show .inl ⟨⟨_,.of ai⟩,qr (xs:=ss.map V.str) (λi ys I=>I=J6/\ys=((ss.take i).filter λz=>decide (z∈e.map (tn ss))).map V.str) ⟨rfl,by simp⟩ (λi ys I _ m=>by rw[m.1];show .of ai) (λi y ys I C m=>?_) λys I m=>?_⟩
   .obtain⟨rfl,rfl⟩:=m;rw[yd] at C;obtain⟨z,hz,rfl⟩:=ym.mp C;apply qdK A ?_;rw[strs_snoc hz];apply qP (λh=>?_) (λh=>?_)
    .ext;show⟨by rw[ya];show qe (yh (yt _ _) (by rw[yH];lk)),rfl,?_⟩;rw[yG h]
    .show⟨rfl,?_⟩;rw[yC h,yZ]
   .obtain⟨rfl,rfl⟩:=m;rw[show(ss.map V.str).length=ss.length from ya ..,yv,nms_in hn Fv.inc λv hv=>(nr_mem.mp (Fv.sub v hv)).1];have el:=Fv.len;show⟨by rw[qG];show yI (qe (by lk)),λr bt=>?_⟩;have s7:=qw (Sr I) (o:=.lst (qN ss e)) bt;have er:upd I r (.lst (qN ss e)) r=some (.lst (qN ss e)):=qb;replace G:=G.same s7;replace A:=s7 _ _ A;replace g:=s7 _ _ g;replace a:=s7 _ _ a;generalize upd I r (.lst (qN ss e))=J7 at s7 er G A g a;have hnlJ7:=G.s _ _ ae;show qh2 (by decide) (qed A er) ?_;apply yp ?_;apply .inl ⟨⟨_,.of A⟩,qr (xs:=qN ss e) (λi ys I=>I=J7/\ys=ivs (e.take i)) ⟨rfl,by simp⟩ (λi ys I _ m=>by rw[m.1];show .of A) (λi y ys I C m=>?_) λys I m=>?_⟩
    .obtain⟨rfl,rfl⟩:=m;obtain⟨v,hv,rfl⟩:=zq C;have aw:=(nr_mem.mp (Fv.sub v (ye hv))).1;apply zu ?_;apply⟨.inl ⟨rfl,_,.of hnlJ7⟩,?_⟩;apply⟨nl,ss,tn ss v,rfl,rfl,.of hnlJ7,qaL aw,?_⟩;rw[qas hn aw];show⟨by rw[ya,yH];show qe (by lk),rfl,?_⟩;rw[yA,hv];show _=List.map iv _;rw[yq];rfl
    .obtain⟨rfl,rfl⟩:=m;rw[qG ss e,yv];show⟨by rw[qM];show yI (qe (by lk)),λb ak=>?_⟩;have s8:=qw (Sr I) (o:=.lst (ivs e)) ak;have eb:upd I b (.lst (ivs e)) b=some (.lst (ivs e)):=qb;replace G:=G.same s8;replace g:=s8 _ _ g;replace a:=s8 _ _ a;generalize upd I b (.lst (ivs e))=J8 at s8 eb G g a;apply⟨l,b,ts,TI,st,ss.length,cl,e,rfl,hI.same G.s,hT,few,hs,hC,eb,Fv.sub,λf _ _=>Fv.oft hT f,λJ9 s9=>?_⟩;replace G:=G.same s9;replace eb:=s9 _ _ eb;replace g:=s9 _ _ g;replace a:=s9 _ _ a;apply yp ?_;apply⟨.inl ⟨rfl,_,.of a⟩,?_⟩;apply⟨b,e,rfl,eb,by lk,λv hv=>by have:=(nr_mem.mp (Fv.sub v hv)).1;lk,?_⟩;show⟨nm,_,_,rfl,rfl,a,by rw[qM,ya,yH];show qe (by lk),?_⟩;show⟨_,_,rfl,G.put bw bv cd,by rw[qj (YB bz)];show g,?_⟩;rw[qb,yA,he,yq];show _=some (HO.lst (List.map iv _));rw[yq];rfl
  .obtain⟨Y,x9,rfl,G,g,a⟩:=m;rw[ya,ul,yv] at a;apply⟨nm,_,rfl,a,by rw[ya];lk,λH7 s7=>?_⟩;replace G:=G.same s7;replace g:=s7 _ _ g;replace a:=s7 _ _ a;apply zT a ?_;show qfx ?_;have sw:=aq.rank (n:=14) λv hv=>yi (bm v hv) (Yl (by decide) few);rw[sw,qM,yw rfl];apply yp ?_;ext;rw[ag];show⟨λu H' z=>z,nr_,fo,nm,us,_,_,_,_,_,_,_,_,rfl,G,g,a⟩
theorem kM:FnScope wqd wqo (qf jt):=fS
theorem qhD{p:Nat×Nat}{Q:VK}(h:H t=some (iT p))(hc:H c=some (.tup [iv a,iv b]))(q:Q (.bl (!decide (p=(a,b)))) H):qeX K true (.ref t) (.ref c) H Q:=by
 have z:=EqT.tup (K:=K) (H:=H) (n:=0) (e:=λj=>if j=0 then eqV (iv p.1) (iv a) else eqV (iv p.2) (iv b)) (SqT.of h) (SqT.of hc) λj x y d f=>by
  match j,d,f with
  | 0,d,f=>cases d;cases f;show .flat rfl rfl
  | 1,d,f=>cases d;cases f;show .flat rfl rfl
 have g:((List.range (min [V.int (p.1:Int),V.int (p.2:Int)].length [iv a,iv b].length)).all (λj=>if j=0 then eqV (iv p.1) (iv a) else eqV (iv p.2) (iv b))&&[V.int (p.1:Int),V.int (p.2:Int)].length==[iv a,iv b].length)=decide (p=(a,b)):=by
  show((((p.1:Int)==(a:Int))&&((((p.2:Int)==(b:Int)))&&true))&&true)=_;rw[yW,yD,Prod.ext_iff];simp only[ke,y1,Yo];lk
 rw[g] at z;show .inr (.inl ⟨t,c,_,1,rfl,rfl,by decide,z,q⟩)
theorem vEqB{i j:Bool}{Q:VK}(q:Q (.bl (decide (i=j))) H):qgN K (.bl i) (.bl j) H Q:=.inl (.inl (.inl ⟨rfl,rfl,by rw[yC (by decide)];cases i<;>cases j<;>show q⟩))
theorem qfU(a b:Nat):(if (b:Int)<(a:Int) then(b:Int) else(a:Int))=((min a b:Nat):Int):=by split<;>lk
theorem qfV(a b:Nat):(if (b:Int)>(a:Int) then(b:Int) else(a:Int))=((max a b:Nat):Int):=by split<;>lk
section
variable{n:Nat}{TI:List (Nat×Nat)}{cl:Nat->Bool}{s:Nat}
theorem qcH(a:TIok n TI){p:Nat}:p∈gdI TI cl n s↔adjI TI s p/\Lst (rmT TI s p) cl n p:=by
 unfold gdI;rw[yo,yo,y7,jl a,gtB_iff];show⟨λz=>⟨z.1.2,z.2⟩,λz=>⟨⟨(a.adj z.1).2.1,z.1⟩,z.2⟩⟩
theorem gd_nil(c:TIok n TI)(f:∀ a b,adjI TI a b->cl b=!cl a):gdI TI cl n s=[]↔Lst TI cl n s:=by
 constructor
 .intro e;show Y6 λh=>?_;obtain⟨p,h1,d⟩:=lost_yes c f h;have:=(qcH (cl:=cl) c).mpr ⟨h1,d⟩;rw[e] at this;cases this
 .intro h;show List.eq_nil_iff_forall_not_mem.mpr λp g=>?_;obtain⟨h1,d⟩:=(qcH c).mp g;show lost_no c f h1 h d
theorem gd_inc:(gdI TI cl n s).Pairwise (· < ·):=(List.pairwise_lt_range.sublist xl).sublist xl
theorem gd_uniq(d:TIok n TI)(p:M.Perm ((bsN TI s).filter (gtB TI cl n s)))(h:M.Pairwise (·<=·)):M=gdI TI cl n s:=by
 have nd:M.Nodup:=p.nodup_iff.mpr ((qdF d s).filter _);show qba (· < ·) (λa h=>by lk) (λa b h k=>by lk) _ _ ?_ gd_inc λv=>?_
 .show Yg.mpr λi j e f c=>by
   have a:=Yg.mp h i j e f c;have b:=Yg.mp nd i j e f c;lk
 .rw [p.mem_iff,yo,zl d,gtB_iff,qcH d]
theorem qfW(d:TIok n TI)(p:M.Perm (bsN TI s))(h:M.Pairwise (·<=·)):M=nbI TI n s:=by
 have nd:M.Nodup:=p.nodup_iff.mpr (qdF d s);show qba (· < ·) (λa h=>by lk) (λa b h k=>by lk) _ _ ?_ (List.pairwise_lt_range.sublist xl) λv=>?_
 .show Yg.mpr λi j e f c=>by
   have a:=Yg.mp h i j e f c;have b:=Yg.mp nd i j e f c;lk
 .rw [p.mem_iff,zl d];show(qc4 d).symm
end
theorem qee{TI:List (Nat×Nat)}{p:Nat}{q:Nat×Nat}(h:TI[i]?=some q):rmT (TI.take (i+1)) s p=rmT (TI.take i) s p++if (!decide (q=(min p s,max p s)))=true then [q] else []:=by
 unfold rmT;rw[yA,h,yQ]
 congr 1
 show [q].filter _=_;rw[yM];rfl
inductive spGrI(cw:Addr)(vs:List V)(H:Hp)(Q:VK)(E:XK):Prop|mk (x nl l:Addr) (ss:LS) (ns:LN) (ts:LI) (TI:List (Nat×Nat)) (s:Nat) (cl:Nat->Bool) (_:vs=[.ref x,.ref nl,.ref l,iv s]) (_:Wt cw H x ss ns (TI.map (nmP ss))) (_:H nl=some (.lst (ss.map V.str))) (_:IPL H l ts TI) (_:TIok ss.length TI) (_:s<ss.length) (_:(∀ a b,adjI TI a b->cl b=!cl a)) (_:∀ H',L2.Same H H'->Q (.bl true) H')
theorem ok_grI(F:Fun K "_law_good_right" "_law_good_right" jt f fd)(T:Txt K mg cc cw)(kN:wq7 1 "_law_beside" wqh spBeI)(KO:wq7 4 "_law_lost" wqb spLo)(KF:wq7 12 "good_ties" wqc (spGt cw))(u8:wq7 12 "told_set" wqc (spTd cw)):wq9 13 f fd wqo (spGrI cw):=by
 show F.ok kM λ_ _ _ s H vs Q E hr h=>?_
 .obtain⟨x,nl,l,ss,ns,ts,TI,st,cl,rfl,W,Z,hI,u,hs,hC,q⟩:=h;have C:=jT hr;have few:=W.wok.few;have bl:=qcf u st;have gl:(gdI TI cl ss.length st).length<=14:=yh (qcE (gd_inc.imp λh k=>by lk) λv hv=>(u.adj ((qcH u).mp hv).1).2.1) few;show⟨_,(qc (qo (i:=4) kM.nd rfl (yF rfl) (qZ qd))
 (qc (je yS rfl (qF (K:=K) rfl (qk kN (hmR hr) qt (qa (pv 2) (qa (pv 3) qd)))) (qi (i:=5) kM.nd rfl (YX rfl))
 (qc (jM (sc:=qf jt) (XN:=wqd) wqW 1 [5,3] rfl rfl rfl (by room) rfl (by room) (i:=6) kM.nd rfl rfl
  (qF (K:=K) rfl (pv 2)) (λ_ _ _ _=>(qi (i:=0) (show(wqW:LS).Nodup by room) rfl (yF rfl))) qA
  (λ_ _ _ _=>(qE (qm (zv (K:=K) rfl C) (pv 0) (jD (qa (qq (qbS rfl) rfl T.b_min boot_min (qa (pv 1) (qa (pv 2) qd))) (qa (qq (qbR rfl) rfl T.b_max boot_max (qa (pv 1) (qa (pv 2) qd))) qd))) (qv _))))
  (λ_ _ _ _=>(pv 0)))
 (qg (qR (qY (qk KO (hmR hr) qt (qa (pv 6) (qa (pv 5) qd)))) (qg (qU (qcO (K:=K) rfl yP yU yV qJ (pv 4) (qa (pv 5) qd)))) qu))))
 (qc (jM (sc:=qf jt) (XN:=wqd) wqD 1 [1] rfl rfl rfl (by room) rfl (by room) (i:=4) kM.nd rfl rfl
  (qF (K:=K) rfl (qq (qa2 (K:=K) rfl) rfl T.b_sorted X7 (qa (pv 4) qd))) (λ_ _ _ _=>(qi (i:=0) (show(wqD:LS).Nodup by room) rfl (yF rfl))) qA
  (λ_ _ _ _=>jj)
  (λ_ _ _ _=>(qx (qz (K:=K) rfl C) (pv 1) (pv 0) (λ_ _=>rfl))))
 (qc (je yS rfl (jo rfl T.b_range (qa qh qd)) (qi (i:=7) kM.nd rfl (yF rfl))
 (qc (qo (i:=8) kM.nd rfl (yF rfl) (qk KF (hmR hr) qt (qa (pv 0) (qa (qx (qz (K:=K) rfl C) (pv 1) (pv 3) (λ_ _=>rfl)) qd))))
 (qc (qR (PW.pt (qcn (jw (qY (qq (qbA (K:=K) rfl) rfl T.b_isinstance YT (qa (pv 8) (qa (j7 (v:=.ty "list") rfl T.b_list Xc rfl) qd))))) (qbw (qm (zv (K:=K) rfl C) (pv 8) (pv 4) (qv _))))) (qg (qp qah)) qu)
 (qg (qU (qcO (K:=K) rfl yP yU yV qJ (pv 8) (qa qaI qd)))))))
 (qg (qp (qbP (jL (jX (K:=K) rfl C) (jL (jX (K:=K) rfl C) (pv 4) (qZ qd) (qv _)) (jL (jX (K:=K) rfl C) (qx (qz (K:=K) rfl C) (qk u8 (hmR hr) qt (qa (pv 0) (qa (qx (qz (K:=K) rfl C) (pv 1) (pv 3) (λ_ _=>rfl)) qd))) qh (λ_ _=>rfl)) qaI (qv _)) (qv _)) (qbx (jL (jX (K:=K) rfl C) (jL (jX (K:=K) rfl C) (pv 4) (qZ qd) (qv _)) (qk KO (hmR hr) qt (qa (pv 2) (qa (pv 3) qd))) (qv _)))))))))),?_⟩
  apply⟨wqqb,λL aa=>?_⟩;have s1:=qw (Sr H) (o:=.lst (ivs [])) aa;have ed:upd H L (.lst (ivs [])) L=some (.lst (ivs [])):=qb;show qf0 _ _ _ _ (upd H L (.lst (ivs [])));generalize upd H L (.lst (ivs []))=H1 at s1 ed;apply⟨l,ts,TI,st,_,rfl,hI.same s1,u,λb H2 s2 b0 hb=>?_⟩;have ao:=s1.trans s2;have ah:=s2 _ _ ed;have an:b≠L:=λz=>by rw[z,ed] at b0;cases b0
  show .inl ⟨⟨_,.of hb⟩,ju (xs:=ivs (bsN TI st)) (λi σ J=>∃(x5 x6:Option V),σ=[some (.ref x),some (.ref nl),some (.ref l),some (iv st),some (.ref L),x5,x6,none,none]/\L2.Same H J/\J b=some (.lst (ivs (bsN TI st)))/\J L=some (.lst (ivs (((bsN TI st).take i).filter (gtB TI cl ss.length st))))) ⟨_,_,rfl,ao,hb,by simpa using ah⟩ (λi σ J _ m=>?_) (λi y σ J R m=>?_) fun σ J m=>?_⟩
  .obtain⟨_,_,_,_,k,_⟩:=m;show .of k
  .obtain⟨x5,x6,rfl,sJ,X,hd⟩:=m;rw[yd] at R;obtain⟨p,m,rfl⟩:=ym.mp R;have ac:=(zl u).mp (ye m);have aj:=(u.adj ac).2.1;have U:=hI.same sJ;have tl:=hI.2.len;have ai:=u.few;apply .inl ⟨⟨_,.of U.1⟩,qr (xs:=ts.map V.ref) (λj ys I=>L2.Same J I/\∃ us:LI,ys=us.map V.ref/\us.length<=j/\All2 (λt q=>I t=some (iT q)) us (rmT (TI.take j) st p)) ⟨L2.Same.refl J,[],rfl,yg _,.nil⟩ (λj ys I _ m=>.of (m.1 _ _ U.1)) (λj y ys I R m=>?_) λys I m=>?_⟩
   .obtain⟨A,us,rfl,ae,O⟩:=m;rw[yd] at R;obtain⟨t,ht,rfl⟩:=ym.mp R;have hj:j<TI.length:=by rw[<- tl];show(yc.mp ht).1
    obtain⟨tq,ad⟩:∃ q,TI[j]?=some q:=⟨_,yb hj⟩;have B:=A _ _ (U.2.at_ j t tq ht ad);apply⟨(p:Int),(st:Int),rfl,?_⟩;rw[qfU];apply⟨(p:Int),(st:Int),rfl,?_⟩;rw[qfV];apply⟨wqqd,λc hc=>?_⟩;have G:=qw (Sr I) (o:=.tup [iv (min p st),iv (max p st)]) hc;have ec:upd I c (.tup [iv (min p st),iv (max p st)]) c=some (.tup [iv (min p st),iv (max p st)]):=qb;show qeX K true (.ref t) (.ref c) (upd I c (.tup [iv (min p st),iv (max p st)])) _;replace B:=G _ _ B;replace A:=A.trans G;replace O:=O.mono λz e k=>G _ _ k;generalize upd I c (.tup [iv (min p st),iv (max p st)])=I3 at ec B A O;show qhD B ec ?_;rw[qee ad];apply qP (λh=>?_) (λh=>?_)
    .ext;show⟨by rw[ya];show qe (by lk),A,us++[t],by rw[yq];rfl,by rw[yu];show us.length+1<=_;lk,?_⟩;rw[yG h];show O.snoc B
    .show⟨A,us,rfl,by lk,?_⟩;rw[yC h,yZ];show O
   .obtain⟨A,us,rfl,ae,O⟩:=m;rw[ya] at ae;rw[ya,tl,yv] at O;show⟨by rw[ya];show yI (qe (by lk)),λr N=>?_⟩;have G:=qw A (o:=.lst (us.map V.ref)) N;have hR:IPL (upd I r (.lst (us.map V.ref))) r us (rmT TI st p):=⟨qb,O.mono λz e k=>qw (Sr I) N _ _ k⟩;generalize upd I r (.lst (us.map V.ref))=I3 at G hR;apply⟨r,us,rmT TI st p,p,ss.length,cl,rfl,hR,qdG u,few,aj,λa b h=>hC a b ((qcj u).mp h).1,λv I4 s4 hv=>?_⟩;have D:=G.trans s4;have ev:v=gtB TI cl ss.length st p:=by rw[yW,hv,gtB_iff]
    rw[ev];have Y:=D _ _ hd;ext;rw[show(bsN TI st).take (i+1)=(bsN TI st).take i++[p] by rw[yA,m];rfl,yQ,yM];show qP (λh=>?_) (λh=>?_)
    .ext;show⟨.inl ⟨rfl,_,.of Y⟩,?_⟩;apply⟨L,_,_,rfl,rfl,Y,by rw[qM];show qe (za (by lk)),?_⟩;show⟨_,_,rfl,qdQ (sJ.trans D) aa,by rw[qj an];show D _ _ X,?_⟩;rw[qb,yG h];show _=some (HO.lst (List.map iv _));rw[yq];rfl
    .show⟨_,_,rfl,sJ.trans D,D _ _ X,?_⟩;rw[yC h,xj,yZ];show Y
  .obtain⟨x5,x6,rfl,sJ,X,hd⟩:=m;rw[qM,yv] at hd;ext;have fl:=yt (gtB TI cl ss.length st) (bsN TI st);show⟨L,((bsN TI st).filter (gtB TI cl ss.length st)).map λ(v:Nat)=>(v:Int),rfl,.of (by rw[YC];show hd),by rw[ya];lk,λr ms N m ak=>?_⟩;obtain⟨M,rfl,pM,sM⟩:=qbe m ak;rw[gd_uniq u pM sM];have G:=qw sJ (o:=.lst (ivs (gdI TI cl ss.length st))) N;have er:upd J r (.lst (ivs (gdI TI cl ss.length st))) r=some (.lst (ivs (gdI TI cl ss.length st))):=qb;rw[show((gdI TI cl ss.length st).map λ(v:Nat)=>(v:Int)).map V.int=ivs (gdI TI cl ss.length st) from YC ..];generalize upd J r (.lst (ivs (gdI TI cl ss.length st)))=J3 at G er;show .inl ⟨⟨_,.of er⟩,qr (xs:=ivs (gdI TI cl ss.length st)) (λi ys I=>I=J3/\ys=qN ss ((gdI TI cl ss.length st).take i)) ⟨rfl,by simp[qN]⟩ (λi ys I _ m=>by rw[m.1];show .of er) (λi y ys I R m=>?_) λys I m=>?_⟩
   .obtain⟨rfl,rfl⟩:=m;rw[yd] at R;obtain⟨v,hv,rfl⟩:=ym.mp R;have am:=(u.adj ((qcH u).mp (ye hv)).1).2.1;apply zu ?_;apply qbB (G _ _ Z) am ?_;show⟨by rw[qG,yH];show qe (by lk),rfl,?_⟩;unfold qN;rw[yA,hv,yq,yq];rfl
   .obtain⟨rfl,rfl⟩:=m;rw[qM (gdI TI cl ss.length st),yv];show⟨by rw[qG];show yI (qe (by lk)),λdn ag=>?_⟩;have s4:=qw G (o:=.lst (qN ss (gdI TI cl ss.length st))) ag;have S:upd I dn (.lst (qN ss (gdI TI cl ss.length st))) dn=some (.lst (qN ss (gdI TI cl ss.length st))):=qb;generalize upd I dn (.lst (qN ss (gdI TI cl ss.length st)))=J4 at s4 S;apply⟨2,rfl,by decide,by decide,jE (lo:=0) (n:=2) (λi σ I=>L2.Same J4 I/\∃ x7 x8:Option V,σ=[some (.ref x),some (.ref nl),some (.ref l),some (iv st),some (.ref dn),x5,x6,x7,x8]) ⟨L2.Same.refl J4,_,_,rfl⟩ (λi σ I hi m=>?_) fun σ I m=>?_⟩
    .obtain⟨A,x7,x8,rfl⟩:=m;have s5:=s4.trans A;apply qbB (s5 _ _ Z) hs ?_;show⟨x,ss,ns,TI,st,cl,rfl,W.same s5,u,hs,hC,λg I1 s6 g0 hg=>?_⟩;apply qds (.inl (.lst hg)) rfl (qam K "list" (by simp) "list" (by simp)) ?_;apply yp ?_;apply qh2 (by decide) (qed hg ((A.trans s6) _ _ S)) ?_;ext;apply yp ?_;apply⟨.inl ⟨rfl,_,.of hg⟩,?_⟩;apply⟨g,_,_,rfl,rfl,hg,by rw[qG];show qe (by lk),?_⟩;show⟨qdQ (A.trans s6) (A.free g0),_,_,rfl⟩
    .obtain⟨A,x7,x8,rfl⟩:=m;have s5:=s4.trans A;have d:=A _ _ S;apply⟨wqqb,λz z0=>?_⟩;have s6:=qw s5 (o:=.lst []) z0;have ez:upd I z (.lst []) z=some (.lst []):=qb;replace d:=qw (Sr I) (o:=.lst []) z0 _ _ d;generalize upd I z (.lst [])=I6 at s6 ez d;show qdJ d ez ?_;apply qbB (s6 _ _ Z) hs ?_;show⟨x,ss,ns,TI,st,cl,rfl,W.same s6,u,hs,hC,λb v t I7 s7 hb ht=>?_⟩;apply .inl (qcp ht (v:=.str (if b=true then "lost" else "won")) rfl ?_);apply qh0 ?_;have e1:decide ((if b=true then("lost":Str) else "won")="lost")=b:=by cases b<;>room
     have e2:(qN ss (gdI TI cl ss.length st)).isEmpty=b:=by
      have h:=gd_nil (n:=ss.length) (s:=st) u hC;rw[<- hb] at h
      cases b with
      | true=>rw[h.mpr rfl];rfl
      | false =>
       cases e:gdI TI cl ss.length st with
       | nil=>show absurd (h.mp e) (by decide)
       | cons=>rfl
     rw[e1,e2];show vEqB ?_;rw[yw rfl];show⟨true,rfl,?_⟩;show zu ?_;apply⟨wqqb,λz2 af=>?_⟩;have s8:=qw (s6.trans s7) (o:=.lst []) af;have ab:upd I7 z2 (.lst []) z2=some (.lst []):=qb;replace d:=(s7.trans (qw (Sr I7) (o:=.lst []) af)) _ _ d;generalize upd I7 z2 (.lst [])=I8 at s8 ab d;show qdJ d ab ?_;rw[e2];apply⟨l,ts,TI,st,ss.length,cl,rfl,hI.same s8,u,few,hs,hC,λv' I9 s9 al=>?_⟩;have e3:b=v':=by rw[yW,al,hb]
     rw[e3];show vEqB ?_;rw[yw rfl];show q _ (s8.trans s9)
open Classical in
def qbC(P:Addr->Prop)(J:Hp):Hp:=λc=>if P c then none else J c
theorem zt{P:Addr->Prop}(h:¬ P c)(e:J c=some o):qbC P J c=some o:=by unfold qbC;rw[yC h];show e
theorem zD{P:Addr->Prop}(h:qbC P J c=some o):¬ P c/\J c=some o:=by
 unfold qbC at h;by_cases z:P c
 .rw [yG z] at h;cases h
 .rw [yC z] at h;show⟨z,h⟩
theorem zE{P:Addr->Prop}:L2.Same (qbC P J) J:=λc o e=>(zD e).2
theorem qc5{P a:Addr->Prop}(s:L2.Same J J')(h:∀ c,a c->P c\/J c=none):L2.Same (qbC P J) (qbC a J'):=λc o e =>
 zt (λz=>(h c z).elim (zD e).1 λk=>by rw[(zD e).2] at k;cases k) (s _ _ (zD e).2)
theorem qeP{P:Addr->Prop}{a:Addr}(h:P a):L2.Same (qbC P J) (qbC P (upd J a o)):=λc u e =>
 zt (zD e).1 (by rw[qj (show c≠a from λz=>(zD e).1 (by rw[z];show h))];show(zD e).2)
theorem qeQ{P:Addr->Prop}(h:P p)(b:But p J J'):L2.Same (qbC P J) (qbC P J'):=λc u e =>
 zt (zD e).1 (b _ _ (λz=>(zD e).1 (by rw[z];show h)) (zD e).2)
structure Rk(cc:Nat->Addr)(cw:Addr)(B:Hp)(x b p:Addr)(ss:LS)(ns:LN)(TI:List (Nat×Nat)):Prop where
 rx:∃ dx,B x=some (.ins (cc 8) dx (jC "path" (.ref p) (jC "board" (.ref b) [])))
 wt:Wt cw B b ss ns (TI.map (nmP ss))
theorem Rk.same{a:Hp}{b:Addr}{TI:List (Nat×Nat)}(h:Rk cc cw B x b p ss ns TI)(s:L2.Same B a):Rk cc cw a x b p ss ns TI:=⟨by obtain⟨dx,e⟩:=h.rx;show⟨dx,s _ _ e⟩,h.wt.same s⟩
theorem Rk.rd{b:Addr}{TI:List (Nat×Nat)}{z:Nat}(h:Rk cc cw B x b p ss ns TI)(s:L2.Same B J)(c:J p=some (.lst (qN ss tr)))(ok:TIok ss.length TI)(len:tr.length<=100)(all:∀ v∈tr,v<ss.length)(a:tr.getLast?=some z):RdAt cc cw J x b p ss ns TI tr z:=by
 obtain⟨dx,e⟩:=h.rx;show⟨⟨dx,s _ _ e,c,(h.wt.same s).web⟩,h.wt.same s,ok,len,all,a⟩
def qaS{α:Type}(f:Nat->α)(a:Nat)(y:α):Nat->α:=λi=>if i=a then y else f i
theorem jz(f:Nat->α)(a:Nat)(y:α):qaS f a y a=y:=yG rfl
theorem jm(f:Nat->α)(y:α)(h:i≠a):qaS f a y i=f i:=yC h
def P4(wl hl:Addr)(Pf:Nat->Addr)(c:Addr):Prop:=c=wl\/c=hl\/c=Pf 0\/c=Pf 1
structure St2(cc:Nat->Addr)(cw:Addr)(J:Hp)(ss:LS)(cl:Nat->Bool)(kn wl rl hl:Addr)(X Bf Pf Wf:Nat->Addr)(NS:Nat->LN)(TF:Nat->List (Nat×Nat))(TS:Nat->LI)(TR:Nat->LN)(S:Nat->Nat)(m:Nat):Prop where
 d1:wl≠hl
 d2:∀ a,a<2->Pf a≠wl/\Pf a≠hl
 d3:Pf 0≠Pf 1
 ek:∃ dk,qbC (P4 wl hl Pf) J kn=some (.ins (cc 9) dk [])
 er:qbC (P4 wl hl Pf) J rl=some (.lst [.ref (X 0),.ref (X 1)])
 ew:J wl=some (.lst [.ref (Wf 0),.ref (Wf 1)])
 eh:J hl=some (.lst [iv (S 0),iv (S 1)])
 rk:∀ a,a<2->Rk cc cw (qbC (P4 wl hl Pf) J) (X a) (Bf a) (Pf a) ss (NS a) (TF a)
 ip:∀ a,a<2->IPL (qbC (P4 wl hl Pf) J) (Wf a) (TS a) (lfI (TF a) (TR a))
 pf:∀ a,a<2->J (Pf a)=some (.lst (qN ss (TR a)))
 ok:∀ a,a<2->TIok ss.length (TF a)
 co:∀ a,a<2->∀ u v,adjI (TF a) u v->cl v=!cl u
 len:∀ a,a<2->(TR a).length<=m
 all:∀ a,a<2->∀ v∈TR a,v<ss.length
 last:∀ a,a<2->(TR a).getLast?=some (S a)
section
variable{cc:Nat->Addr}{cw:Addr}{J J':Hp}{ss:LS}{cl:Nat->Bool}{kn wl rl hl:Addr}{X Bf Pf Wf:Nat->Addr}{NS:Nat->LN}{TF:Nat->List (Nat×Nat)}{TS:Nat->LI}{TR:Nat->LN}{S:Nat->Nat}{m:Nat}
theorem St2.same(h:St2 cc cw J ss cl kn wl rl hl X Bf Pf Wf NS TF TS TR S m)(s:L2.Same J J'):St2 cc cw J' ss cl kn wl rl hl X Bf Pf Wf NS TF TS TR S m:=
 have k:L2.Same (qbC (P4 wl hl Pf) J) (qbC (P4 wl hl Pf) J'):=qc5 s λc z=>.inl z
 ⟨h.d1,h.d2,h.d3,h.ek.imp λ_ e=>k _ _ e,k _ _ h.er,s _ _ h.ew,s _ _ h.eh,λa b=>(h.rk a b).same k,λa b=>(h.ip a b).same k,λa b=>s _ _ (h.pf a b),h.ok,h.co,h.len,h.all,h.last⟩
theorem St2.rd(h:St2 cc cw J ss cl kn wl rl hl X Bf Pf Wf NS TF TS TR S m)(c:m<=100)(b:a<2):RdAt cc cw J (X a) (Bf a) (Pf a) ss (NS a) (TF a) (TR a) (S a):=
 (h.rk a b).rd zE (h.pf a b) (h.ok a b) (by have:=h.len a b;lk) (h.all a b) (h.last a b)
theorem qaf(h:a<2):a=0\/a=1:=by lk
theorem St2.inP(h:St2 cc cw J ss cl kn wl rl hl X Bf Pf Wf NS TF TS TR S m)(hc:P4 wl hl Pf c):∃ xs,J c=some (.lst xs):=by
 rcases hc with z | z | z | z<;>rw[z]
 .show⟨_,h.ew⟩
 .show⟨_,h.eh⟩
 .show⟨_,h.pf 0 (by decide)⟩
 .show⟨_,h.pf 1 (by decide)⟩
theorem P4.pf(b:a<2):P4 wl hl Pf (Pf a):=by
 rcases qaf b with z | z<;>rw[z]
 .show .inr (.inr (.inl rfl))
 .show .inr (.inr (.inr rfl))
theorem St2.on(h:St2 cc cw J ss cl kn wl rl hl X Bf Pf Wf NS TF TS TR S m)(j:a<2)(hv:v<ss.length){l g:Hp}(p:But (Pf a) J l)(D:l (Pf a)=some (.lst (qN ss (TR a++[v]))))(o:L2.Same l g){f:Addr}(hw:IPL g f us (rmT (lfI (TF a) (TR a)) (S a) v))(r:l f=none) :
  St2 cc cw (upd (upd g wl (.lst [.ref (qaS Wf a f 0),.ref (qaS Wf a f 1)])) hl (.lst [iv (qaS S a v 0),iv (qaS S a v 1)])) ss cl kn wl rl hl X Bf Pf (qaS Wf a f) NS TF (qaS TS a us) (qaS TR a (TR a++[v])) (qaS S a v) (m+1):=by
 have I:=P4.pf (wl:=wl) (hl:=hl) (Pf:=Pf) j
 have w:∀ c,P4 wl hl Pf c->∃ xs,l c=some (.lst xs):=λc hc=>by
  by_cases z:c=Pf a
  .rw [z];show⟨_,D⟩
  .obtain⟨xs,e⟩:=h.inP hc;show⟨xs,p _ _ z e⟩
 have F:L2.Same (qbC (P4 wl hl Pf) J) (qbC (P4 wl hl Pf) g):=(qeQ I p).trans (qc5 o λc z=>.inl z);have C:L2.Same (qbC (P4 wl hl Pf) g) (qbC (P4 wl hl Pf) (upd (upd g wl (.lst [.ref (qaS Wf a f 0),.ref (qaS Wf a f 1)])) hl (.lst [iv (qaS S a v 0),iv (qaS S a v 1)]))):=(qeP (.inl rfl)).trans (qeP (.inr (.inl rfl)));have k:=F.trans C
 have s:IPL (qbC (P4 wl hl Pf) g) f us (rmT (lfI (TF a) (TR a)) (S a) v):=by
  show⟨zt (λz=>?_) hw.1,⟨hw.2.len,λi t q B A=>zt (λz=>?_) (hw.2.at_ i t q B A)⟩⟩
  .obtain⟨xs,e⟩:=w _ z;rw[r] at e;cases e
  .obtain⟨xs,e⟩:=w _ z;have:=hw.2.at_ i t q B A;rw[o _ _ e] at this;cases this
 have n:∀ c xs,g c=some (.lst xs)->c≠wl->c≠hl->upd (upd g wl (.lst [.ref (qaS Wf a f 0),.ref (qaS Wf a f 1)])) hl (.lst [iv (qaS S a v 0),iv (qaS S a v 1)]) c=some (.lst xs):=λc xs e G H=>by rw[qj H,qj G];show e
 show⟨h.d1,h.d2,h.d3,h.ek.imp λ_ e=>k _ _ e,k _ _ h.er,by rw[qj h.d1,qb],qb,λi b=>(h.rk i b).same k,λi b=>?_,λi b=>?_,h.ok,h.co,λi b=>?_,λi b=>?_,λi b=>?_⟩
 .by_cases z:i=a
  .rw [z,jz,jz,jz,lfI_on (TF a) (h.last a j)];show s.same C
  .rw [jm _ _ z,jm _ _ z,jm _ _ z];show(h.ip i b).same k
 .have d:=h.d2 i b;by_cases z:i=a
  .rw [z,jz];show n _ _ (o _ _ D) (h.d2 a j).1 (h.d2 a j).2
  .rw [jm _ _ z];show n _ _ (o _ _ (p _ _ (λe=>?_) (h.pf i b))) d.1 d.2;rcases qaf j with y | y<;>rcases qaf b with x | x<;>subst y<;>subst x
   .show z rfl
   .show h.d3 e.symm
   .show h.d3 e
   .show z rfl
 .have:=h.len i b;by_cases z:i=a
  .rw [z,jz,yu];have:=h.len a j;show(TR a).length+1<=_;lk
  .rw [jm _ _ z];lk
 .by_cases z:i=a
  .rw [z,jz];intro u E;rcases yO.mp E with y | y
   .show h.all a j u y
   .rw [yx.mp y];show hv
  .rw [jm _ _ z];show h.all i b
 .by_cases z:i=a
  .rw [z,jz,jz];simp
  .rw [jm _ _ z,jm _ _ z];show h.last i b
theorem qaT{f:Nat->Addr}{Q:VK}(h:H l=some (.lst [.ref (f 0),.ref (f 1)]))(b:a<2)(q:Q (.ref (f a)) H):qhr K (.ref l) (iv a) H Q:=
 .inl (qbD h (v:=.ref (f a)) (by rcases qaf b with z | z<;>rw[z]<;>rfl) q)
theorem qcI{f:Nat->Nat}{Q:VK}(h:H l=some (.lst [iv (f 0),iv (f 1)]))(b:a<2)(q:Q (iv (f a)) H):qhr K (.ref l) (iv a) H Q:=
 .inl (qbD h (v:=iv (f a)) (by rcases qaf b with z | z<;>rw[z]<;>rfl) q)
theorem two_setR{y:Addr}{f:Nat->Addr}{Q:Hp->Prop}(h:H l=some (.lst [.ref (f 0),.ref (f 1)]))(b:a<2)(q:Q (upd H l (.lst [.ref (qaS f a y 0),.ref (qaS f a y 1)]))):qgM (.ref l) (iv a) (.ref y) H Q:=
 .inl ⟨l,_,a,a,rfl,rfl,h,by rcases qaf b with z | z<;>rw[z]<;>rfl,by rcases qaf b with z | z<;>subst z<;>show q⟩
theorem two_setI{f:Nat->Nat}{y:Nat}{Q:Hp->Prop}(h:H l=some (.lst [iv (f 0),iv (f 1)]))(b:a<2)(q:Q (upd H l (.lst [iv (qaS f a y 0),iv (qaS f a y 1)]))):qgM (.ref l) (iv a) (iv y) H Q:=
 .inl ⟨l,_,a,a,rfl,rfl,h,by rcases qaf b with z | z<;>rw[z]<;>rfl,by rcases qaf b with z | z<;>subst z<;>show q⟩
theorem St2.more(h:St2 cc cw J ss cl kn wl rl hl X Bf Pf Wf NS TF TS TR S m):St2 cc cw J ss cl kn wl rl hl X Bf Pf Wf NS TF TS TR S (m+1):=
 ⟨h.d1,h.d2,h.d3,h.ek,h.er,h.ew,h.eh,h.rk,h.ip,h.pf,h.ok,h.co,λa b=>X4 (h.len a b),h.all,h.last⟩
end
theorem kG:FnScope wh wqq (qf qK):=fS
theorem qfX{v:V}{Q:VK}(h:v=.non\/∃ s,v=.str s)(q:Q (.bl false) H):qeX K true v v H Q:=by
 rcases h with rfl | ⟨s,rfl⟩
 .show .inl ⟨rfl,rfl,q⟩
 .show qh1 ?_;rw[yw rfl];show q
theorem nms_head(ss:LS)(L:LN):(qN ss L).head?.getD .non=.non\/∃ s,(qN ss L).head?.getD .non=.str s:=by
 cases L with
 | nil=>show .inl rfl
 | cons v L=>show .inr ⟨_,rfl⟩
theorem nms_ix0(ss:LS)(L:LN):atI (qN ss L++[.non]) 0=some ((qN ss L).head?.getD .non):=by
 cases L with
 | nil=>rfl
 | cons v L=>unfold atI;rw[show(0:Int)=((0:Nat):Int) from rfl,zk (by simp)];rfl
inductive spKI(vs:List V)(H:Hp)(Q:VK)(E:XK):Prop|mk (nl l:Addr) (ss:LS) (ts:LI) (TI:List (Nat×Nat)) (s:Nat) (c:Int) (cl:Nat->Bool) (_:vs=[.ref nl,.ref l,iv s,.int c]) (_:H nl=some (.lst (ss.map V.str))) (_:NOk ss) (_:IPL H l ts TI) (_:TIok ss.length TI) (_:s<ss.length) (_:(∀ a b,adjI TI a b->cl b=!cl a)) (_:∀ H',Q (.bl true) H')
theorem ok_kI(F:Fun K "_law_keen_by_turns" "_law_keen_by_turns" qK f fd)(T:Txt K mg cc cw)(ur:wq7 7 "_law_web" wqE (spWb cw))(kN:wq7 1 "_law_beside" wqh spBeI)(KO:wq7 4 "_law_lost" wqb spLo)(Uk:MakeO K mg (cc 9) "Keen")(Ul:wqqa 5 (cc 8) "Road" wqI (spWkI cc cw))(KP:wq8 13 (cc 9) "choose" wq4 (spKc cc cw))(Uf:wq8 9 (cc 8) "go" wqa (spRgo cc cw)):wq9 14 f fd wqq spKI:=by
 show F.ok kG λ_ _ _ s H vs Q E hr h=>?_
 .obtain⟨nl,l,ss,ts,TI,st,c,cl,rfl,aw,hO,hI,hT,hs,hC,q⟩:=h;have L:=jT hr;have few:=hO.few;obtain⟨g,bo⟩:∃ g:Nat->List (Nat×Nat),g=λj=>if j=0 then TI else TI.dropLast:=⟨_,rfl⟩;obtain⟨TS0,ds⟩:∃ TS:Nat->LI,TS=λj=>if j=0 then ts else ts.dropLast:=⟨_,rfl⟩
  have tok:∀ a,TIok ss.length (g a):=λa=>by
   rw[bo];dsimp only;split
   .show hT
   .show⟨by rw[Xf];have:=hT.few;lk,λp A=>hT.ok p (XG _ A),hT.so.sublist (List.dropLast_sublist _)⟩
  have cb:∀ a u v,adjI (g a) u v->cl v=!cl u:=λa u v h=>hC u v (by
   rw[bo] at h;dsimp only at h;split at h
   .show h
   .show h.imp (λz=>XG _ z) λz=>XG _ z)
  show⟨_,(qc (qo (i:=4) kG.nd rfl (yF rfl) (pe_makeO Uk))
 (qc (qo (i:=5) kG.nd rfl (yF rfl) (qZ (qa (pv 1) (qa (zP (qgL (K:=K) rfl) (pv 1) qbm (zO (qgH qe0 qh))) qd))))
 (qc (jM (sc:=qf qK) (XN:=wh) wqT 1 [0,2] rfl rfl rfl (by room) rfl (by room) (i:=6) kG.nd rfl rfl
  (qF (K:=K) rfl (pv 5)) (λ_ _ _ _=>(qi (i:=0) (show(wqT:LS).Nodup by room) rfl (yF rfl))) qA
  (λ_ _ _ _=>jj)
  (λ_ _ _ _=>(qa1 Ul (hmR hr) (qa (qk ur (hmR hr) qt (qa (pv 1) (qa (pv 0) qd))) (qa (qx (qz (K:=K) rfl L) (pv 1) (pv 2) (λ_ _=>rfl)) qd)))))
 (qc (qo (i:=7) kG.nd rfl (YX rfl) (qZ (qa (pv 2) (qa (pv 2) qd))))
 (qc (je yS rfl (jo rfl T.b_range (qa qh qd)) (qi (i:=8) kG.nd rfl (yF rfl))
 (qc (qo (i:=9) kG.nd rfl (YX rfl) (qC zh (qC (j9 (K:=K) rfl) (pv 8) (pv 3)) qh))
 (qc (qo (i:=10) kG.nd rfl (YX rfl) (qZ qd))
 (qc (je yS rfl (qF (K:=K) rfl (qq (qa2 (K:=K) rfl) rfl T.b_sorted X7 (qa (qk kN (hmR hr) qt (qa (qx (qz (K:=K) rfl L) (pv 5) (pv 9) (λ_ _=>rfl)) (qa (qx (qz (K:=K) rfl L) (pv 7) (pv 9) (λ_ _=>rfl)) qd))) qd))) (qi (i:=11) kG.nd rfl (YX rfl))
 (qc (jM (sc:=qf qK) (XN:=wh) wqN 1 [11,7,9] rfl rfl rfl (by room) rfl (by room) (i:=12) kG.nd rfl rfl
  (qF (K:=K) rfl (qx (qz (K:=K) rfl L) (pv 5) (pv 9) (λ_ _=>rfl))) (λ_ _ _ _=>(qi (i:=0) (show(wqN:LS).Nodup by room) rfl (yF rfl))) qA
  (λ_ _ _ _=>(qE (qm (zv (K:=K) rfl L) (pv 0) (jD (qa (qq (qbS rfl) rfl T.b_min boot_min (qa (pv 1) (qa (qx (qz (K:=K) rfl L) (pv 2) (pv 3) (λ_ _=>rfl)) qd))) (qa (qq (qbR rfl) rfl T.b_max boot_max (qa (pv 1) (qa (qx (qz (K:=K) rfl L) (pv 2) (pv 3) (λ_ _=>rfl)) qd))) qd))) (qv _))))
  (λ_ _ _ _=>(pv 0)))
 (qg (qR (qY (qk KO (hmR hr) qt (qa (pv 12) (qa (pv 11) qd)))) (qg (qU (qcO (K:=K) rfl yP yU yV qJ (pv 10) (qa (pv 11) qd)))) qu))))
 (qc (qo (i:=10) kG.nd rfl (YX rfl) (qC (j9 (K:=K) rfl) (pv 10) (qq (qa2 (K:=K) rfl) rfl T.b_sorted X7 (qa (qk kN (hmR hr) qt (qa (qx (qz (K:=K) rfl L) (pv 5) (pv 9) (λ_ _=>rfl)) (qa (qx (qz (K:=K) rfl L) (pv 7) (pv 9) (λ_ _=>rfl)) qd))) qd))))
 (qc (qo (i:=13) kG.nd rfl (yF rfl) (qH KP (hmR hr) (pv 4) (qa (qx (qz (K:=K) rfl L) (pv 6) (pv 9) (λ_ _=>rfl)) qd)))
 (qc (qR (PW.pt (qcn (qm (zv (K:=K) rfl L) (pv 13) (qx (qz (K:=K) rfl L) (qC (j9 (K:=K) rfl) (qL (sc:=qf qK) (XN:=wh) wqD 1 [0] rfl rfl rfl (by room) rfl (by room)
  (qF (K:=K) rfl (pv 10)) (λ_ _ _ _=>(qi (i:=0) (show(wqD:LS).Nodup by room) rfl (yF rfl))) qA
  (λ_ _ _ _=>jj)
  (λ_ _ _ _=>(qx (qz (K:=K) rfl L) (pv 1) (pv 0) (λ_ _=>rfl)))) (qZ (qa qbN qd))) qh (λ_ _=>rfl)) (qv _)) (qbw (qm (zv (K:=K) rfl L) (qH KP (hmR hr) (pv 4) (qa (qx (qz (K:=K) rfl L) (pv 6) (pv 9) (λ_ _=>rfl)) qd)) (pv 13) (qv _))))) (qg (qp qah)) qu)
 (qg (qR (qm (zv (K:=K) rfl L) (pv 10) (qZ qd) (qv _)) (qc (qU (qH Uf (hmR hr) (qx (qz (K:=K) rfl L) (pv 6) (pv 9) (λ_ _=>rfl)) (qa (qx (qz (K:=K) rfl L) (pv 0) (qx (qz (K:=K) rfl L) (pv 10) qh (λ_ _=>rfl)) (λ_ _=>rfl)) qd)))
 (qc (qaj (qL (sc:=qf qK) (XN:=wh) wqR 1 [10,7,9] rfl rfl rfl (by room) rfl (by room)
  (qF (K:=K) rfl (qx (qz (K:=K) rfl L) (pv 5) (pv 9) (λ_ _=>rfl))) (λ_ _ _ _=>(qi (i:=0) (show(wqR:LS).Nodup by room) rfl (yF rfl))) qA
  (λ_ _ _ _=>(qE (qm (zv (K:=K) rfl L) (pv 0) (jD (qa (qq (qbS rfl) rfl T.b_min boot_min (qa (qx (qz (K:=K) rfl L) (pv 1) qh (λ_ _=>rfl)) (qa (qx (qz (K:=K) rfl L) (pv 2) (pv 3) (λ_ _=>rfl)) qd))) (qa (qq (qbR rfl) rfl T.b_max boot_max (qa (qx (qz (K:=K) rfl L) (pv 1) qh (λ_ _=>rfl)) (qa (qx (qz (K:=K) rfl L) (pv 2) (pv 3) (λ_ _=>rfl)) qd))) qd))) (qv _))))
  (λ_ _ _ _=>(pv 0))) (qaJ (pv 5) (pv 9) (qaK L)))
 (qg (qaj (qx (qz (K:=K) rfl L) (pv 10) qh (λ_ _=>rfl)) (qaJ (pv 7) (pv 9) (qaK L)))))) qu)))))))))
 (qg (qp qah))))))),?_⟩
  ext;intro kn dk eg de dg;have s1:L2.Same H (upd (upd H dk (.own kn)) kn (.ins (cc 9) dk [])):=qw (qw (Sr H) (o:=.own kn) de) (o:=.ins (cc 9) dk []) (show upd H dk (.own kn) kn=none by rw[qj (YB dg)];show eg);have N:upd (upd H dk (.own kn)) kn (.ins (cc 9) dk []) kn=some (.ins (cc 9) dk []):=qb;generalize upd (upd H dk (.own kn)) kn (.ins (cc 9) dk [])=H1 at s1 N;apply vU ?_;apply .inl ⟨l,_,rfl,SqL.of (s1 _ _ hI.1),λd d0=>?_⟩
  have ec:qdO (ts.map V.ref) none (some (-1))=ts.dropLast.map V.ref:=by
   unfold qdO
   have e:HT.sIx (ts.map V.ref).length (ts.map V.ref).length (some (-1))=ts.length-1:=by
    have h:=HT.clip_eq (-1) (ts.map V.ref).length (ts.map V.ref).length;rw[ya] at h ⊢;rw[yG (by decide)] at h;lk
   rw[HT.sIx_none,List.drop_zero,Nat.sub_zero,e,<- kB,List.dropLast_eq_take]
  rw[ec];have s2:=qw s1 (o:=.lst (ts.dropLast.map V.ref)) d0;replace N:=qw (Sr H1) (o:=.lst (ts.dropLast.map V.ref)) d0 _ _ N;have ed:upd H1 d (.lst (ts.dropLast.map V.ref)) d=some (.lst (ts.dropLast.map V.ref)):=qb;generalize upd H1 d (.lst (ts.dropLast.map V.ref))=H2 at s2 N ed;apply⟨wqqd,λwl ad=>?_⟩;have s3:=qw s2 (o:=.lst [.ref l,.ref d]) ad;have cs:=qw (Sr H2) (o:=.lst [.ref l,.ref d]) ad;replace N:=cs _ _ N;have dp:=ed;replace ed:=cs _ _ ed;have ew:upd H2 wl (.lst [.ref l,.ref d]) wl=some (.lst [.ref l,.ref d]):=qb;generalize upd H2 wl (.lst [.ref l,.ref d])=J0 at s3 N ed ew
  have fb:∀ i,i<2->(if i=0 then l else d)≠wl:=λi hi z=>by
   rcases qaf hi with y | y<;>subst y
   .have z:l=wl:=z;rw[<- z,s2 _ _ hI.1] at ad;cases ad
   .have z:d=wl:=z;rw[<- z,dp] at ad;cases ad
  have cz:∀ i,i<2->IPL J0 (if i=0 then l else d) (TS0 i) (g i):=λi hi=>by
   have h3:=hI.same s3;rw[bo,ds];rcases qaf hi with z | z<;>subst z
   .show h3
   .show⟨ed,by show ts.dropLast.length=TI.dropLast.length;rw[Xf,Xf,h3.2.len],λi t q ht hq=>?_⟩;have ht:ts.dropLast[i]?=some t:=ht;have hq:TI.dropLast[i]?=some q:=hq;rw[List.getElem?_dropLast] at ht hq;split at ht
    .split at hq
     .show h3.2.at_ i t q ht hq
     .cases hq
    .cases ht
  apply .inl ⟨⟨_,.of ew⟩,qr (xs:=[V.ref l,V.ref d]) (λi ys I=>∃(X Bf Pf:Nat->Addr) (NS:Nat->LN),ys=(List.range i).map (λj=>V.ref (X j))/\L2.Same J0 I/\(∀ j,j<i->J0 (Pf j)=none/\I (Pf j)=some (.lst (qN ss [st]))/\Rk cc cw (qbC (λc=>c=wl\/∃ k,k<i/\c=Pf k) I) (X j) (Bf j) (Pf j) ss (NS j) (g j))/\∀ j k,j<k->k<i->Pf j≠Pf k) ⟨λ_=>0,λ_=>0,λ_=>0,λ_=>[],rfl,L2.Same.refl J0,λj hj=>absurd hj (Nat.not_lt_zero _),λj k _ hk=>absurd hk (Nat.not_lt_zero _)⟩ (λi ys I _ A=>by obtain⟨_,_,_,_,_,D,_⟩:=A;show .of (D _ _ ew)) (λi y ys I hy A=>?_) λys I A=>?_⟩
  .obtain⟨X,Bf,Pf,NS,rfl,D,Y,hd⟩:=A;have hi:i<2:=(yc.mp hy).1;have ey:y=.ref (if i=0 then l else d):=by rcases qaf hi with z | z<;>subst z<;>cases hy<;>rfl
   subst ey;have s4:=s3.trans D;apply zu ?_;apply⟨nl,_,ss,TS0 i,g i,rfl,s4 _ _ aw,(cz i hi).same D,hO,tok i,λb ns I1 s5 W1=>?_⟩;ext;have ab:=s4.trans s5;show qbB (ab _ _ aw) hs ?_;intro x dx x0 dj di;have da:=W1.same qd4;have s6:L2.Same I1 (upd (upd I1 dx (.own x)) x (.ins (cc 8) dx [])):=qw (qw (Sr I1) (o:=.own x) dj) (o:=.ins (cc 8) dx []) (show upd I1 dx (.own x) x=none by rw[qj (YB di)];show x0);have s6_at:upd (upd I1 dx (.own x)) x (.ins (cc 8) dx []) x=some (.ins (cc 8) dx []):=qb;show⟨x,dx,b,st,ss,ns,rfl,qb,(da.same s6).web,hs,λp I2 bt p0 hP=>⟨rfl,?_⟩⟩;have ac:L2.Same I1 I2:=λa o e=>bt _ _ (λz=>by rw[z] at e;rw[x0] at e;cases e) (s6 _ _ e);have ca:=s5.trans ac;have p1:=s6.free p0;have nP:∀ k,k<i->I (Pf k)≠none:=λk hk z=>by rw[(Y k hk).2.1] at z;cases z
   obtain⟨dm,ee,dy,_⟩:=id hP;have xI:I x=none:=s5.free x0;show⟨by rw[ya,Yc];show qe (by lk),qaS X i x,qaS Bf i b,qaS Pf i p,qaS NS i ns,?_,D.trans ca,λj hj=>?_,λj k dv hk=>?_⟩
   .rw [YR,yq]
    congr 1
    .show xH λj hj=>?_;have:=y7.mp hj;rw[jm _ _ (by lk)]
    .show _=[V.ref (qaS X i x i)];rw[jz]
   .by_cases z:j=i
    .rw [z,jz,jz,jz,jz];show⟨D.free (s5.free p1),dy,⟨dm,zt (λh=>?_) ee⟩,(W1.same λc o e=>zt (λh=>?_) (ac _ _ (qbr e).2))⟩
     .rcases h with h | ⟨k,hk,h⟩
      .rw [h,D _ _ ew] at xI;cases xI
      .by_cases y:k=i
       .rw [y,jz] at h;rw[<- h,s6_at] at p0;cases p0
       .rw [jm _ _ y] at h;show nP k (by lk) (by rw[<- h];show xI)
     .have e0:=(qbr e).1;rcases h with h | ⟨k,hk,h⟩
      .rw [h,D _ _ ew] at e0;cases e0
      .by_cases y:k=i
       .rw [y,jz] at h;rw[h] at e;have:=(qbr e).2;rw[p1] at this;cases this
       .rw [jm _ _ y] at h;show nP k (by lk) (by rw[<- h];show e0)
    .have r:=Y j (by lk);rw[jm _ _ z,jm _ _ z,jm _ _ z,jm _ _ z];show⟨r.1,ca _ _ r.2.1,r.2.2.same (qc5 ca λc h=>?_)⟩;rcases h with h | ⟨k,hk,h⟩
     .show .inl (.inl h)
     .by_cases y:k=i
      .rw [y,jz] at h;show .inr (by rw[h];show s5.free p1)
      .rw [jm _ _ y] at h;show .inl (.inr ⟨k,by lk,h⟩)
   .by_cases y:k=i
    .rw [y,jz,jm _ _ (show j≠i by lk)];show λh=>nP j (by lk) (by rw[h];show s5.free p1)
    .rw [jm _ _ y,jm _ _ (show j≠i by lk)];show hd j k dv (by lk)
  .obtain⟨X,Bf,Pf,NS,rfl,D,Y,hd⟩:=A;show⟨by rw[ya,Yc];show 2<=sizeLine;decide,λrl cu=>?_⟩;show qf0 _ _ _ _ (upd I rl (.lst [.ref (X 0),.ref (X 1)]));have ai:upd I rl (.lst [.ref (X 0),.ref (X 1)]) rl=some (.lst [.ref (X 0),.ref (X 1)]):=qb;have s4:=qw (Sr I) (o:=.lst [.ref (X 0),.ref (X 1)]) cu;generalize upd I rl (.lst [.ref (X 0),.ref (X 1)])=I1 at s4 ai;have eu:=ai;apply⟨wqqd,λhl ao=>?_⟩;have ci:upd I1 hl (.lst [iv st,iv st]) hl=some (.lst [iv st,iv st]):=qb;have s5:=qw (Sr I1) (o:=.lst [iv st,iv st]) ao;replace ai:=s5 _ _ ai;have ab:=s4.trans s5;have ne:=λ{c:Addr} {o:HO} (e:I c=some o)=>(show c≠hl from λz=>by rw[z,s4.free ao] at e;cases e);have bu:=λ{c:Addr} {o:HO} (e:I c=some o)=>(show c≠rl from λz=>by rw[z,cu] at e;cases e)
   have ep:rl≠hl:=λz=>by
    have e:I1 rl=none:=by rw[z];show ao
    rw[eu] at e;cases e
   generalize upd I1 hl (.lst [iv st,iv st])=I2 at s5 ai ci ab;have bj:=D _ _ ew;have fe:=D _ _ N;have q0:=Y 0 (show 0<2 by decide);have q1:=Y 1 (show 1<2 by decide);have eq:=s3.trans (D.trans ab);have fa:H wl=none:=s2.free ad;have dw:H hl=none:=s3.free (D.free (s4.free ao))
   have B0:St2 cc cw I2 ss cl kn wl rl hl X Bf Pf (λi=>if i=0 then l else d) NS g TS0 (λ_=>[st]) (λ_=>st) 1:=by
    have up:L2.Same (qbC (λc=>c=wl\/∃ k,k<2/\c=Pf k) I) (qbC (P4 wl hl Pf) I2):=qc5 ab λc h=>by
     rcases h with h | h | h | h
     .show .inl (.inl h)
     .show .inr (by rw[h];show s4.free ao)
     .show .inl (.inr ⟨0,by decide,h⟩)
     .show .inl (.inr ⟨1,by decide,h⟩)
    have pn:∀{c o},J0 c=some o->c≠wl->¬ P4 wl hl Pf c:=λ{c o} e n h=>by
     rcases h with h | h | h | h
     .show n h
     .show ne (D _ _ e) h
     .rw [h,q0.1] at e;cases e
     .rw [h,q1.1] at e;cases e
    have bv:=D.trans ab;show⟨ne bj,λa C=>⟨λz=>?_,ne (Y a C).2.1⟩,hd 0 1 (by decide) (show 1<2 by decide),⟨dk,zt (pn N λz=>by rw[z,ew] at N;cases N) (bv _ _ N)⟩,zt (λh=>?_) ai,ab _ _ bj,ci,λa C=>(Y a C).2.2.same up,λa C=>?_,λa C=>ab _ _ (Y a C).2.1,λa _=>tok a,λa _=>cb a,λa _=>yg _,λa _ v hv=>by rw[yx.mp hv];show hs,λa _=>rfl⟩
    .have:=(Y a C).1;rw[z,ew] at this;cases this
    .rcases h with h | h | h | h
     .show bu bj h.symm
     .show ep h
     .show bu q0.2.1 h.symm
     .show bu q1.2.1 h.symm
    .rw [lfI_one];have w:=cz a C;show⟨zt (pn w.1 λz=>?_) (bv _ _ w.1),w.2.len,λi t q ht hq=>zt (pn (w.2.at_ i t q ht hq) λz=>?_) (bv _ _ (w.2.at_ i t q ht hq))⟩
     .show fb a C z
     .have:=w.2.at_ i t q ht hq;rw[z,ew] at this;cases this
   apply⟨12,rfl,by decide,by decide,jE (lo:=0) (n:=12) (λk σ J=>∃(Wf:Nat->Addr) (TS:Nat->LI) (m:Nat->LN) (S:Nat->Nat) (x8 x9 cd ae af az:Option V),σ=[some (.ref nl),some (.ref l),some (iv st),some (.int c),some (.ref kn),some (.ref wl),some (.ref rl),some (.ref hl),x8,x9,cd,ae,af,az]/\L2.Same H J/\St2 cc cw J ss cl kn wl rl hl X Bf Pf Wf NS g TS m S (k+1)) ⟨_,_,_,_,_,_,_,_,_,_,rfl,eq,B0⟩ (λk σ J hk A=>?_) fun σ J A=>?_⟩
   .obtain⟨Wf,TS,m,S,x8,x9,cd,ae,af,az,rfl,sJ,B⟩:=A;rw[xA];ext;obtain⟨a,C,ea⟩:∃ a:Nat,a<2/\((k:Int)+c) % 2=(a:Int):=⟨(((k:Int)+c) % 2).toNat,by lk,by lk⟩;show vI (by decide) ?_;rw[ea];apply⟨wqqb,λdl cf=>?_⟩;have s6:=qw (Sr J) (o:=.lst (ivs [])) cf;have bf:upd J dl (.lst (ivs [])) dl=some (.lst (ivs [])):=qb;show qf0 _ _ _ _ (upd J dl (.lst (ivs [])));generalize upd J dl (.lst (ivs []))=J6 at s6 bf;have B6:=B.same s6;have hL:=qdL (tok a) (m a);have dr:∀ u v,adjI (lfI (g a) (m a)) u v->cl v=!cl u:=λu v h=>cb a u v (qfO h);have fj:S a<ss.length:=B.all a C _ (List.mem_of_getLast? (B.last a C));have fk:=qeb (lfI (g a) (m a)) ss.length (S a);have fi:(gdI (lfI (g a) (m a)) cl ss.length (S a)).length<=14:=yh (qcE (gd_inc.imp λh k=>by lk) λv hv=>(hL.adj ((qcH hL).mp hv).1).2.1) few;have fg:=qcf hL (S a);apply qaT B6.ew C ?_;apply qcI B6.eh C ?_;show⟨Wf a,TS a,lfI (g a) (m a),S a,_,rfl,(B6.ip a C).same zE,hL,λb J7 s7 b0 hb=>?_⟩;show⟨b,(bsN (lfI (g a) (m a)) (S a)).map λ(v:Nat)=>(v:Int),rfl,.of (by rw[YC];show hb),by rw[ya];lk,λr ms bq A br=>?_⟩;obtain⟨M,rfl,pM,sM⟩:=qbe A br;rw[qfW hL pM sM,show((nbI (lfI (g a) (m a)) ss.length (S a)).map λ(v:Nat)=>(v:Int)).map V.int=ivs (nbI (lfI (g a) (m a)) ss.length (S a)) from YC ..];have s8:=qw s7 (o:=.lst (ivs (nbI (lfI (g a) (m a)) ss.length (S a)))) bq;have er:upd J7 r (.lst (ivs (nbI (lfI (g a) (m a)) ss.length (S a)))) r=some (.lst (ivs (nbI (lfI (g a) (m a)) ss.length (S a)))):=qb;have el:r≠dl:=λz=>by rw[z,s7 _ _ bf] at bq;cases bq
    generalize upd J7 r (.lst (ivs (nbI (lfI (g a) (m a)) ss.length (S a))))=J8 at s8 er;show .inl ⟨⟨_,.of er⟩,ju (xs:=ivs (nbI (lfI (g a) (m a)) ss.length (S a))) (λi σ I=>∃(ae af:Option V),σ=[some (.ref nl),some (.ref l),some (iv st),some (.int c),some (.ref kn),some (.ref wl),some (.ref rl),some (.ref hl),some (iv k),some (iv a),some (.ref dl),ae,af,az]/\L2.Same J I/\I r=some (.lst (ivs (nbI (lfI (g a) (m a)) ss.length (S a))))/\I dl=some (.lst (ivs (((nbI (lfI (g a) (m a)) ss.length (S a)).take i).filter (gtB (lfI (g a) (m a)) cl ss.length (S a)))))) ⟨_,_,rfl,s6.trans s8,er,by rw[Xw];show s8 _ _ bf⟩ (λi σ I _ A=>?_) (λi y σ I hy A=>?_) fun σ I A=>?_⟩
    .obtain⟨_,_,_,_,e,_⟩:=A;show .of e
    .obtain⟨ae,af,rfl,D,bh,av⟩:=A;rw[yd] at hy;obtain⟨p,A,rfl⟩:=ym.mp hy;have co:=(qc4 hL).mp (ye A);have dz:=(hL.adj co).2.1;have BI:=B.same D;have aa:=(BI.ip a C).same zE;have tl:=aa.2.len;have bm:=hL.few;apply qaT BI.ew C ?_;show .inl ⟨⟨_,.of aa.1⟩,qr (xs:=(TS a).map V.ref) (λj ys G=>L2.Same I G/\∃ us:LI,ys=us.map V.ref/\us.length<=j/\All2 (λt q=>G t=some (iT q)) us (rmT ((lfI (g a) (m a)).take j) (S a) p)) ⟨L2.Same.refl I,[],rfl,yg _,.nil⟩ (λj ys G _ A=>.of (A.1 _ _ aa.1)) (λj y ys G hy A=>?_) λys G A=>?_⟩
     .obtain⟨Z,us,rfl,aq,hA⟩:=A;rw[yd] at hy;obtain⟨t,ht,rfl⟩:=ym.mp hy;have hj:j<(lfI (g a) (m a)).length:=by rw[<- tl];show(yc.mp ht).1
      obtain⟨tq,ap⟩:∃ q,(lfI (g a) (m a))[j]?=some q:=⟨_,yb hj⟩;have W:=Z _ _ (aa.2.at_ j t tq ht ap);have am:=Z _ _ BI.eh;apply qcI am C ?_;show⟨(p:Int),(S a:Int),rfl,?_⟩;rw[qfU];apply qcI am C ?_;show⟨(p:Int),(S a:Int),rfl,?_⟩;rw[qfV];apply⟨wqqd,λO hc=>?_⟩;have s3:=qw (Sr G) (o:=.tup [iv (min p (S a)),iv (max p (S a))]) hc;have ec:upd G O (.tup [iv (min p (S a)),iv (max p (S a))]) O=some (.tup [iv (min p (S a)),iv (max p (S a))]):=qb;show qeX K true (.ref t) (.ref O) (upd G O (.tup [iv (min p (S a)),iv (max p (S a))])) _;replace W:=s3 _ _ W;replace Z:=Z.trans s3;replace hA:=hA.mono λz e k=>s3 _ _ k;generalize upd G O (.tup [iv (min p (S a)),iv (max p (S a))])=I3 at ec W Z hA;show qhD W ec ?_;rw[qee ap];apply qP (λh=>?_) (λh=>?_)
      .ext;show⟨by rw[ya];show qe (by lk),Z,us++[t],by rw[yq];rfl,by rw[yu];show us.length+1<=_;lk,?_⟩;rw[yG h];show hA.snoc W
      .show⟨Z,us,rfl,by lk,?_⟩;rw[yC h,yZ];show hA
     .obtain⟨Z,us,rfl,aq,hA⟩:=A;rw[ya] at aq;rw[ya,tl,yv] at hA;show⟨by rw[ya];show yI (qe (by lk)),λr2 bd=>?_⟩;have s3:=qw Z (o:=.lst (us.map V.ref)) bd;have hR:IPL (upd G r2 (.lst (us.map V.ref))) r2 us (rmT (lfI (g a) (m a)) (S a) p):=⟨qb,hA.mono λz e k=>qw (Sr G) bd _ _ k⟩;generalize upd G r2 (.lst (us.map V.ref))=I3 at s3 hR;apply⟨r2,us,rmT (lfI (g a) (m a)) (S a) p,p,ss.length,cl,rfl,hR,qdG hL,few,dz,λu v h=>dr u v ((qcj hL).mp h).1,λv I4 s4 hv=>?_⟩;have au:=s3.trans s4;have ev:v=gtB (lfI (g a) (m a)) cl ss.length (S a) p:=by rw[yW,hv,gtB_iff]
      rw[ev];have bp:=au _ _ av;ext;rw[qab A];show qP (λh=>?_) (λh=>?_)
      .ext;show⟨.inl ⟨rfl,_,.of bp⟩,?_⟩;apply⟨dl,_,_,rfl,rfl,bp,by rw[qM];show qe (za (by lk)),?_⟩;show⟨_,_,rfl,qdQ (D.trans au) cf,by rw[qj el];show au _ _ bh,?_⟩;rw[qb,yG h];show _=some (HO.lst (List.map iv _));rw[yq];rfl
      .show⟨_,_,rfl,D.trans au,au _ _ bh,?_⟩;rw[yC h,yZ];show bp
    .obtain⟨ae,af,rfl,D,bh,av⟩:=A;rw[qM,yv,show(nbI (lfI (g a) (m a)) ss.length (S a)).filter (gtB (lfI (g a) (m a)) cl ss.length (S a))=gdI (lfI (g a) (m a)) cl ss.length (S a) from rfl] at av;have BI:=B.same D;apply qaT BI.ew C ?_;apply qcI BI.eh C ?_;show⟨Wf a,TS a,lfI (g a) (m a),S a,_,rfl,(BI.ip a C).same zE,hL,λb2 J9 s9 ff dt=>?_⟩;show⟨b2,(bsN (lfI (g a) (m a)) (S a)).map λ(v:Nat)=>(v:Int),rfl,.of (by rw[YC];show dt),by rw[ya];lk,λr3 ms cq A br=>?_⟩;obtain⟨M,rfl,pM,sM⟩:=qbe A br;rw[qfW hL pM sM,show((nbI (lfI (g a) (m a)) ss.length (S a)).map λ(v:Nat)=>(v:Int)).map V.int=ivs (nbI (lfI (g a) (m a)) ss.length (S a)) from YC ..];have cv:=qw (Sr J9) (o:=.lst (ivs (nbI (lfI (g a) (m a)) ss.length (S a)))) cq;have ck:upd J9 r3 (.lst (ivs (nbI (lfI (g a) (m a)) ss.length (S a)))) r3=some (.lst (ivs (nbI (lfI (g a) (m a)) ss.length (S a)))):=qb;generalize upd J9 r3 (.lst (ivs (nbI (lfI (g a) (m a)) ss.length (S a))))=J10 at cv ck;have be:=s9.trans cv;show qgb (be _ _ av) ck (by rw[qM,qM];lk) λdn dh=>?_
     have eb:ivs (gdI (lfI (g a) (m a)) cl ss.length (S a))++ivs (nbI (lfI (g a) (m a)) ss.length (S a))=ivs (jV (lfI (g a) (m a)) cl ss.length (S a)):=by
      unfold jV;show _=List.map iv _;rw[yq]
     rw[eb];have bw:=qw be (o:=.lst (ivs (jV (lfI (g a) (m a)) cl ss.length (S a)))) dh;have U:upd J10 dn (.lst (ivs (jV (lfI (g a) (m a)) cl ss.length (S a)))) dn=some (.lst (ivs (jV (lfI (g a) (m a)) cl ss.length (S a)))):=qb;generalize upd J10 dn (.lst (ivs (jV (lfI (g a) (m a)) cl ss.length (S a))))=J11 at bw U;replace BI:=BI.same bw;replace D:=D.trans bw;ext;have hm:k+1<=100:=by lk
     have ag:∀{J12:Hp} {R:VK},L2.Same J11 J12->(∀ J13,L2.Same J12 J13->R ((qN ss (jV (lfI (g a) (m a)) cl ss.length (S a))).head?.getD .non) J13)->spKc cc cw [.ref kn,.ref (X a)] J12 R E0:=λ{J12 R} s hR =>
      ⟨kn,X a,Bf a,Pf a,ss,NS a,g a,m a,S a,cl,rfl,(BI.same s).rd hm C,cb a,hR⟩
     obtain⟨dd,ek⟩:=BI.ek;show⟨kn,dd,_,rfl,zE _ _ ek,rfl,?_⟩;apply qaT (zE _ _ BI.er) C ?_;show ag (Sr J11) λJ12 ac=>?_;have cp:=nms_head ss (jV (lfI (g a) (m a)) cl ss.length (S a));have du:=nms_ix0 ss (jV (lfI (g a) (m a)) cl ss.length (S a));have fh:(jV (lfI (g a) (m a)) cl ss.length (S a)).length<=28:=by unfold jV;rw[yu];lk
     have ce:∀ v∈jV (lfI (g a) (m a)) cl ss.length (S a),v∈nbI (lfI (g a) (m a)) ss.length (S a):=λv hv=>by
      rcases yO.mp hv with z | z
      .show(yo.mp z).1
      .show z
     apply .inl ⟨⟨_,.of (ac _ _ U)⟩,qr (xs:=ivs (jV (lfI (g a) (m a)) cl ss.length (S a))) (λi ys G=>G=J12/\ys=qN ss ((jV (lfI (g a) (m a)) cl ss.length (S a)).take i)) ⟨rfl,by simp[qN]⟩ (λi ys G _ A=>by rw[A.1];show .of (ac _ _ U)) (λi y ys G hy A=>?_) λys G A=>?_⟩
     .obtain⟨rfl,rfl⟩:=A;rw[yd] at hy;obtain⟨v,hv,rfl⟩:=ym.mp hy;have ax:=(hL.adj ((qc4 hL).mp (ce v (ye hv)))).2.1;apply zu ?_;apply qbB ((D.trans ac) _ _ (sJ _ _ aw)) ax ?_;show⟨by rw[qG,yH];show qe (by lk),rfl,?_⟩;unfold qN;rw[yA,hv,yq,yq];rfl
     .obtain⟨rfl,rfl⟩:=A;rw[qM (jV (lfI (g a) (m a)) cl ss.length (S a)),yv];show⟨by rw[qG];show yI (qe (by lk)),λcn dc=>?_⟩;have cx:=qw ac (o:=.lst (qN ss (jV (lfI (g a) (m a)) cl ss.length (S a)))) dc;have ak:upd G cn (.lst (qN ss (jV (lfI (g a) (m a)) cl ss.length (S a)))) cn=some (.lst (qN ss (jV (lfI (g a) (m a)) cl ss.length (S a)))):=qb;generalize upd G cn (.lst (qN ss (jV (lfI (g a) (m a)) cl ss.length (S a))))=G1 at cx ak;apply⟨wqqc,λon ct=>?_⟩;have cy:=qw cx (o:=.lst [.non]) ct;have cj:upd G1 on (.lst [.non]) on=some (.lst [.non]):=qb;replace ak:=qw (Sr G1) (o:=.lst [.non]) ct _ _ ak;generalize upd G1 on (.lst [.non])=G2 at cy cj ak;show qgb ak cj (by rw[qG];show _+1<=_;lk) λbn db=>?_;have ar:=qw cy (o:=.lst (qN ss (jV (lfI (g a) (m a)) cl ss.length (S a))++[.non])) db;have cg:upd G2 bn (.lst (qN ss (jV (lfI (g a) (m a)) cl ss.length (S a))++[.non])) bn=some (.lst (qN ss (jV (lfI (g a) (m a)) cl ss.length (S a))++[.non])):=qb;generalize upd G2 bn (.lst (qN ss (jV (lfI (g a) (m a)) cl ss.length (S a))++[.non]))=G3 at ar cg;apply .inl (qbD cg (v:=(qN ss (jV (lfI (g a) (m a)) cl ss.length (S a))).head?.getD .non) du ?_);show qfX cp ?_;apply yp ?_;ext;obtain⟨df,dq⟩:=(BI.same ar).ek;show⟨kn,df,_,rfl,zE _ _ dq,rfl,?_⟩;apply qaT (zE _ _ (BI.same ar).er) C ?_;show ag ar λJ16 es=>?_;have bz:=ar.trans es;apply qfX cp ?_;apply yp ?_;apply⟨wqqb,λz0 fc=>?_⟩;have as:=qw bz (o:=.lst []) fc;have ez:upd J16 z0 (.lst []) z0=some (.lst []):=qb;generalize upd J16 z0 (.lst [])=J17 at as ez;show qeM (as _ _ U) ez ?_;replace BI:=BI.same as;replace D:=D.trans as;replace U:=as _ _ U;ext
      cases an:jV (lfI (g a) (m a)) cl ss.length (S a) with
      | nil =>
       show yp ?_;apply⟨Wf,TS,m,S,_,_,_,_,_,_,rfl,sJ.trans D,BI.more⟩
      | cons v qdM =>
       rw[an] at U;have cr:=ce v (by rw[an];show yK);have ax:=(hL.adj ((qc4 hL).mp cr)).2.1;have ay:atI (ivs (v::qdM)) 0=some (iv v):=by unfold atI;rw[show(0:Int)=((0:Nat):Int) from rfl,zk (by simp)];rfl
       show zu ?_;apply qaT (zE _ _ BI.er) C ?_;have R:=BI.rd hm C;obtain⟨xx,ef,_,_⟩:=id R.pl;show⟨X a,xx,_,rfl,ef,qae,?_⟩;apply .inl (qbD U (v:=iv v) ay ?_);show qbB (D _ _ (sJ _ _ aw)) ax ?_;show⟨X a,Bf a,Pf a,ss,NS a,g a,m a,S a,v,rfl,R,cr,λJ18 ah em=>?_⟩;have eo:=s3.free (Y a C).1;have et:=But.same7 (sJ.trans D) eo ah;have bc:=ah _ _ (YB (BI.d2 a C).1) BI.ew;have bb:=ah _ _ (YB (BI.d2 a C).2) BI.eh
       have ei:dn≠Pf a:=λz=>by
        have h:=BI.pf a C;rw[<- z,U] at h
        cases cm:m a with
        | nil=>rw[cm] at h;cases h
        | cons=>rw[cm] at h;cases h
       have al:=ah _ _ ei U;have aa:=((BI.ip a C).same (qeQ (P4.pf C) ah)).same zE;have tl:=aa.2.len;have bm:=hL.few;apply qaT bc C ?_;show .inl ⟨⟨_,.of aa.1⟩,qr (xs:=(TS a).map V.ref) (λj ys G=>L2.Same J18 G/\∃ us:LI,ys=us.map V.ref/\us.length<=j/\All2 (λt q=>G t=some (iT q)) us (rmT ((lfI (g a) (m a)).take j) (S a) v)) ⟨L2.Same.refl J18,[],rfl,yg _,.nil⟩ (λj ys G _ A=>.of (A.1 _ _ aa.1)) (λj y ys G hy A=>?_) λys G A=>?_⟩
       .obtain⟨Z,us,rfl,aq,hA⟩:=A;rw[yd] at hy;obtain⟨t,ht,rfl⟩:=ym.mp hy;have hj:j<(lfI (g a) (m a)).length:=by rw[<- tl];show(yc.mp ht).1
        obtain⟨tq,ap⟩:∃ q,(lfI (g a) (m a))[j]?=some q:=⟨_,yb hj⟩;have W:=Z _ _ (aa.2.at_ j t tq ht ap);have am:=Z _ _ bb;have ba:=Z _ _ al;apply .inl (qbD ba (v:=iv v) ay ?_);apply qcI am C ?_;show⟨(v:Int),(S a:Int),rfl,?_⟩;rw[qfU];apply .inl (qbD ba (v:=iv v) ay ?_);apply qcI am C ?_;show⟨(v:Int),(S a:Int),rfl,?_⟩;rw[qfV];apply⟨wqqd,λO hc=>?_⟩;have s3:=qw (Sr G) (o:=.tup [iv (min v (S a)),iv (max v (S a))]) hc;have ec:upd G O (.tup [iv (min v (S a)),iv (max v (S a))]) O=some (.tup [iv (min v (S a)),iv (max v (S a))]):=qb;show qeX K true (.ref t) (.ref O) (upd G O (.tup [iv (min v (S a)),iv (max v (S a))])) _;replace W:=s3 _ _ W;replace Z:=Z.trans s3;replace hA:=hA.mono λz e k=>s3 _ _ k;generalize upd G O (.tup [iv (min v (S a)),iv (max v (S a))])=I3 at ec W Z hA;show qhD W ec ?_;rw[qee ap];apply qP (λh=>?_) (λh=>?_)
        .ext;show⟨by rw[ya];show qe (by lk),Z,us++[t],by rw[yq];rfl,by rw[yu];show us.length+1<=_;lk,?_⟩;rw[yG h];show hA.snoc W
        .show⟨Z,us,rfl,by lk,?_⟩;rw[yC h,yZ];show hA
       .obtain⟨Z,us,rfl,aq,hA⟩:=A;rw[ya] at aq;rw[ya,tl,yv] at hA;show⟨by rw[ya];show yI (qe (by lk)),λw' w0=>?_⟩;have aj:=qw Z (o:=.lst (us.map V.ref)) w0;have hW:IPL (upd G w' (.lst (us.map V.ref))) w' us (rmT (lfI (g a) (m a)) (S a) v):=⟨qb,hA.mono λz e k=>qw (Sr G) w0 _ _ k⟩;have ex:=Z.free w0;generalize upd G w' (.lst (us.map V.ref))=J19 at aj hW;apply two_setR (aj _ _ bc) C ?_
        have ej:dn≠wl:=λz=>by
         have h:=U;rw[z,BI.ew] at h;cases h
        have bg:upd J19 wl (.lst [.ref (qaS Wf a w' 0),.ref (qaS Wf a w' 1)]) dn=some (.lst (ivs (v::qdM))):=by rw[qj ej];show aj _ _ al
        have ch:upd J19 wl (.lst [.ref (qaS Wf a w' 0),.ref (qaS Wf a w' 1)]) hl=some (.lst [iv (S 0),iv (S 1)]):=by rw[qj (YB BI.d1)];show aj _ _ bb
        apply .inl (qbD bg (v:=iv v) ay ?_);apply two_setI ch C ?_;show⟨_,_,_,_,_,_,_,_,_,_,rfl,qdQ (qdQ (et.trans aj) fa) dw,BI.on C ax ah em aj hW ex⟩
   .obtain⟨Wf,TS,m,S,x8,x9,cd,ae,af,az,rfl,sJ,B⟩:=A;apply q _
theorem KZ:FnScope ["_law_script","_law_names_here","_law_ties","_law_web_here","_law_start"] wq5 (qf qef):=fS
theorem vAsgT{b:TE}{a:TGs}(h:b σ H λx H1=>qho K n a x σ H1 D.nx):qgT b (qho K n a) D σ H:=h
inductive spLaw(K:W.Frag)(vs:List V)(H:Hp)(Q:VK)(E:XK):Prop|mk (a:Addr) (ns:LQ) (_:vs=[.ref a]) (_:SqL K H a (ns.map V.int)) (_:ns.length<=63) (_:∀ H',Q (.bl true) H')
theorem qeg{a:Addr}(h:SqL K H a xs)(s:L2.Same H H'):SqL K H' a xs:=h.imp (λe=>e.imp (λe=>s _ _ e) λ⟨o,e⟩=>⟨o,s _ _ e⟩) id
theorem ok_law73(F:Fun K "law" "law" qef f fd)(T:Txt K mg cc cw)(X:wq7 1 "_law_cell_at" wqM (spCa K))(Ug:wq7 3 "_law_drawn" wqV spDr)(ur:wq7 7 "_law_web" wqE (spWb cw))(KI:wq7 13 "_law_good_right" wqo (spGrI cw))(uu:wq7 12 "_law_free_right" wqk (spFrI cw))(K5:wq7 14 "_law_keen_by_turns" wqq spKI):wq9 15 f fd wq5 (spLaw K):=by
 show F.ok KZ λ_ _ _ s H vs Q E r h=>?_
 .obtain⟨a,U,rfl,S,ab,q⟩:=h;have hu:=jT r;obtain⟨TC101,N⟩:∃ t:TS,t=λD σ J=>∃(g l x:Addr) (ss:LS) (ns:LN) (ts:LI) (TI:List (Nat×Nat)) (k:Nat) (cl:Nat->Bool),σ=[some (.ref a),some (.ref g),some (.ref l),some (.ref x),some (iv k)]/\L2.Same H J/\Wt cw J x ss ns (TI.map (nmP ss))/\J g=some (.lst (ss.map V.str))/\IPL J l ts TI/\TIok ss.length TI/\k<ss.length/\(∀ a b,adjI TI a b->cl b=!cl a)/\∀ J',L2.Same J J'->D.nx [some (.ref a),some (.ref g),some (.ref l),some (.ref x),some (iv k)] J':=⟨_,rfl⟩;show⟨_,(qc (qaj (qk Ug (hmR r) qt (qa (qk X (hmR r) qt (qa (pv 0) (qa qh qd))) (qa qah qd))) (qby rfl (jd (qi (i:=1) KZ.nd rfl (yF rfl)) (jd (qi (i:=2) KZ.nd rfl (yF rfl)) qai))))
 (qc (qo (i:=3) KZ.nd rfl (yF rfl) (qk ur (hmR r) qt (qa (pv 1) (qa (pv 2) qd))))
 (qc (je yS rfl (jo rfl T.b_range (qa (qq (j8 (K:=K) rfl) rfl T.b_len YE (qa (pv 1) qd)) qd)) (qi (i:=4) KZ.nd rfl (yF rfl))
 (qc (qR (PW.pt (qge (qm (jX (K:=K) rfl hu) (qC zh (qC (j9 (K:=K) rfl) (qk X (hmR r) qt (qa (pv 0) (qa qh qd))) (pv 4)) qh) qh (qv _)) (qeZ (jw (qY (qk KI (hmR r) qt (qa (pv 3) (qa (pv 1) (qa (pv 2) (qa (pv 4) qd)))))))))) (qg (qp qah)) qu)
 (qcb TC101 (qc (qR (jw (qY (qk uu (hmR r) qt (qa (pv 3) (qa (pv 1) (qa (pv 2) (qa (pv 4) (qa (zP (qgL (K:=K) rfl) (pv 0) (zO qh) (zO qh)) qd)))))))) (qg (qp qah)) qu)
 (qg (qR (jw (qY (qk KI (hmR r) qt (qa (pv 3) (qa (pv 1) (qa (pv 2) (qa (pv 4) qd))))))) (qg (qp qah)) qu))) ?cut101)))
 (qc (qR (qm (jX (K:=K) rfl hu) (pv 1) (qZ qd) (qv _)) (qg (qp qah)) qu)
 (qg (qp (qk K5 (hmR r) qt (qa (pv 1) (qa (pv 2) (qa (qC zh (qq (j8 (K:=K) rfl) rfl T.b_len YE (qa (pv 2) qd)) (qq (j8 (K:=K) rfl) rfl T.b_len YE (qa (pv 1) qd))) (qa (qk X (hmR r) qt (qa (pv 0) (qa qh qd))) qd))))))))))),?_⟩
  case cut101 =>
   intro D σ J h;rw[N] at h;obtain⟨g,l,x,ss,ns,ts,TI,k,cl,rfl,p,W,m,M,A,O,C,hD⟩:=h;apply .inl ⟨a,_,rfl,qeg S p,λd d0=>?_⟩;obtain⟨v,ec,el⟩:∃ v:LQ,qdO (U.map V.int) (some 1) (some 21)=v.map V.int/\v.length<=100:=⟨_,by unfold qdO;rw[kB,kC],by rw[yH,XC];lk⟩;rw[ec];have B:=qw (Sr J) (o:=.lst (v.map V.int)) d0;have ed:upd J d (.lst (v.map V.int)) d=some (.lst (v.map V.int)):=qb;generalize upd J d (.lst (v.map V.int))=J1 at B ed;show⟨x,g,l,d,ss,ns,ts,TI,k,v,cl,rfl,W.same B,B _ _ m,M.same B,A,O,C,ed,el,λJ2 R=>?_⟩;have e:=B.trans R;apply yp ?_;apply⟨x,g,l,ss,ns,ts,TI,k,cl,rfl,W.same e,e _ _ m,M.same e,A,O,C,λJ3 j=>?_⟩;apply yp ?_;apply hD _ (e.trans j)
  apply vAsgT ?_;apply⟨a,U,0,rfl,S,by decide,λc0=>?_⟩;apply⟨c0,rfl,λcl t g l ss ts TI H1 B ht n0 m Y l0 M A L=>?_⟩
  have C:∀ a b,adjI TI a b->cl b=!cl a:=λa b h=>by
   rcases h with h | h
   .show L _ h
   .have:=L _ h;simp only at this;rw[this];cases cl b<;>rfl
  show⟨t,_,rfl,.of ht,rfl,_,_,rfl,_,_,rfl,rfl,?_⟩;apply⟨g,l,ss,ts,TI,rfl,m,M,Y,A,λx ns H2 R W0=>?_⟩;have W:=W0.same qd4;have e:=B.trans R;have c:=R _ _ m;have u:=M.same R;apply zT c ?_;rw[ya];show⟨(ss.length:Int),rfl,by lk,by have:=Y.few;lk,?_⟩;rw[y6];show jE (lo:=0) (n:=ss.length) (λk σ J=>L2.Same H2 J/\∃ x4:Option V,σ=[some (.ref a),some (.ref g),some (.ref l),some (.ref x),x4]) ⟨L2.Same.refl H2,_,rfl⟩ (λk σ J O Z=>?_) fun σ J Z=>?_
  .obtain⟨p,x4,rfl⟩:=Z;rw[xA];apply⟨a,U,1,rfl,qeg S (e.trans p),by decide,λc1=>?_⟩;apply vI (by decide) ?_;show qeU ?_
   have I:∀(D:Ends) (J':Hp),L2.Same J J'->(∀ G,L2.Same J' G->D.nx [some (.ref a),some (.ref g),some (.ref l),some (.ref x),some (iv k)] G)->TC101 D [some (.ref a),some (.ref g),some (.ref l),some (.ref x),some (iv k)] J':=λD J' s h=>by
    rw[N];have y:=p.trans s;show⟨g,l,x,ss,ns,ts,TI,k,cl,rfl,e.trans y,W.same y,y _ _ c,u.same y,A,O,C,h⟩
   show⟨_,rfl,?_⟩;show qP (λh=>?_) (λh=>?_)
   .ext;show⟨x,g,l,ss,ns,ts,TI,k,cl,rfl,W.same p,p _ _ c,u.same p,A,O,C,λJ2 j=>?_⟩;apply yp ?_;apply I _ _ j λJ' y=>⟨(p.trans j).trans y,_,rfl⟩
   .show I _ _ (Sr J) λJ' y=>⟨p.trans y,_,rfl⟩
  .obtain⟨p,x4,rfl⟩:=Z;apply⟨wqqb,λz z0=>?_⟩;have j:=qw p (o:=.lst []) z0;have ez:upd J z (.lst []) z=some (.lst []):=qb;generalize upd J z (.lst [])=J3 at j ez;show qdJ (j _ _ c) ez ?_;apply qP (λh=>?_) (λh=>?_)
   .ext;show q _
   .have aa:0<ss.length:=by
     cases ss with
     | nil=>show absurd rfl h
     | cons=>simp
    apply zT (j _ _ u.1) ?_;apply zT (j _ _ c) ?_;rw[ya,ya];show vI (show(0:Int)<(ss.length:Int) by lk) ?_;apply⟨a,U,1,rfl,qeg S (e.trans j),by decide,λc1=>?_⟩;have em:((ts.length:Int) % (ss.length:Int))=((ts.length % ss.length:Nat):Int):=rfl;rw[em];show⟨g,l,ss,ts,TI,ts.length % ss.length,c1,cl,rfl,j _ _ c,Y,u.same j,A,Nat.mod_lt _ aa,C,λH'=>q H'⟩
end
theorem all_mk{l:W.OpenLaw}{w:World}{h:Heap}{n:Str->Option Value}{fa d b m :Addr}{o p q r t:Tok}(X:K.In h)(G:h.Ns mainGlobals n)(y:n "law"=some (.ref fa))
  (Cw_:W.nsIn K mainGlobals "Web"=some (some (.ref d)))
  (Cp_:W.nsIn K mainGlobals "Road"=some (some (.ref b)))
  (Ck_:W.nsIn K mainGlobals "Keen"=some (some (.ref m)))
  (vK:FG K "sides_of" zf)
  (UG:FG K "on_first_side" jQ)
  (Vi:FG K "ways_in" qa9)
  (U1:FG K "spread_from" zc)
  (vL:FG K "is_whole" qaC)
  (vn:FG K "is_within" zV)
  (Vj:FG K "is_name" qaq)
  (Vk:FG K "has_bit" qa3)
  (vM:FG K "is_place" qay)
  (Uz:FG K "are_two_places" jJ)
  (vb:FG K "numbers_of" zx)
  (Vl:FG K "near_of" qa5)
  (UL:FG K "piece_around" jZ)
  (Wc:FG K "picks" qcc)
  (Vm:FG K "free_of" qar)
  (UA:FG K "must_be_summed" jq)
  (vo:FG K "is_summed" zW)
  (vN:FG K "steps_of" qaD)
  (vO:FG K "lessened" qaE)
  (vp:FG K "near_side" zo)
  (vP:FG K "far_side" zM)
  (vc:FG K "piece_with" j5)
  (vQ:FG K "told_set" qaG)
  (vR:FG K "even_set" zg)
  (Ut:FG K "bits_beside_each" q9)
  (vS:FG K "names_at" zN)
  (VC:FG K "bit_of" qbM)
  (vd:FG K "free_evens" jN)
  (vq:FG K "good_ties" zr)
  (vT:FG K "first_of" qaH)
  (vv:FG K "_law_cell_at" qaa)
  (Wd:FG K "_law_box" qcX)
  (VD:FG K "_law_take" qbJ)
  (Vn:FG K "_law_names" jg)
  (Vo:FG K "_law_drawn" qat)
  (We:FG K "_law_web" qbs)
  (vV:FG K "_law_beside" zL)
  (Vp:FG K "_law_sides" qbc)
  (VE:FG K "_law_near" qbd)
  (Wg:FG K "_law_far" qcm)
  (Vq:FG K "_law_often" qau)
  (VF:FG K "_law_bits" qbL)
  (Vr:FG K "_law_swept" zm)
  (vw:FG K "_law_columns" zn)
  (VG:FG K "_law_lost" qbf)
  (VH:FG K "_law_even" qaF)
  (UM:FG K "_law_free_right" qW)
  (UO:FG K "_law_good_right" jt)
  (Uw:FG K "_law_keen_by_turns" qK)
  (Wq:FG K "law" qef)
  (WO:FM K d "__init__" "Web.__init__" qaz)
  (vW:FM K d "places" "Web.places" zy)
  (VI:FM K d "ties" "Web.ties" qaB)
  (U2:FM K d "has_place" "Web.has_place" jO)
  (U3:FM K d "number_of" "Web.number_of" jP)
  (vX:FM K d "beside" "Web.beside" zz)
  (UH:FM K d "bits_beside" "Web.bits_beside" jB)
  (VJ:FM K d "tied" "Web.tied" qaA)
  (vY:FM K d "pieces" "Web.pieces" zA)
  (ve:FM K d "names_in" "Web.names_in" jH)
  (UI:FM K d "without_tie" "Web.without_tie" jh)
  (U4:FM K b "__init__" "Walk.__init__" qac)
  (UP:FM K b "stands_at" "Walk.stands_at" jK)
  (vf:FM K b "move_to" "Walk.move_to" j0)
  (UQ:FM K b "ties_gone" "Road.ties_gone" jr)
  (UR:FM K b "ties_left" "Road.ties_left" js)
  (vZ:FM K b "moves" "Road.moves" j6)
  (UB:FM K b "tie_between" "Road.tie_between" jv)
  (Wh:FM K b "go" "Road.go" qbj)
  (U5:FM K b "web_left" "Road.web_left" jS)
  (vx:FM K m "choose" "Keen.choose" zd)
  (w1:W.plainGet K d Str.empty=true)
  (w2:W.hasDictIn K d=true)
  (w3:W.plainOver K d=true)
  (w4:W.findIn K (.ref d) "__setattr__"=some (some (.builtin "object.__setattr__")))
  (w5:W.makesIn K d=true)
  (w6:W.keepIn K (.ref d)=true)
  (w7:W.findIn K (.ref d) "numbers"=some none)
  (w8:W.findIn K (.ref d) "order"=some none)
  (w9:W.findIn K (.ref d) "near"=some none)
  (I:W.plainGet K b Str.empty=true)
  (J:W.hasDictIn K b=true)
  (L:W.plainOver K b=true)
  (M:W.findIn K (.ref b) "__setattr__"=some (some (.builtin "object.__setattr__")))
  (N:W.makesIn K b=true)
  (O:W.keepIn K (.ref b)=true)
  (P:W.findIn K (.ref b) "board"=some none)
  (R:W.findIn K (.ref b) "path"=some none)
  (A:W.plainGet K m Str.empty=true)
  (B:W.hasDictIn K m=true)
  (C:W.plainOver K m=true)
  (D:W.findIn K (.ref m) "__setattr__"=some (some (.builtin "object.__setattr__")))
  (E:W.makesIn K m=true)
  (F:W.keepIn K (.ref m)=true)
  (H:W.findIn K (.ref m) "__init__"=some (some (.builtin "object.__init__")))
  (aa:W.nsIn K mainGlobals "zip"=some none)
  (u:W.nsIn K mainGlobals "sorted"=some none)
  (S:W.nsIn K mainGlobals "MOST_SUMMED"=some (some (.int 40 r)))
  (U:W.nsIn K mainGlobals "HIGHEST_SUMMED"=some (some (.int 1073741823 t)))
  (z0:W.nsIn K mainGlobals "len"=some none)
  (z1:W.nsIn K mainGlobals "int"=some none)
  (z2:W.nsIn K mainGlobals "enumerate"=some none)
  (z3:W.nsIn K mainGlobals "all"=some none)
  (z4:W.nsIn K mainGlobals "max"=some none)
  (z5:W.nsIn K mainGlobals "min"=some none)
  (z6:W.nsIn K mainGlobals "isinstance"=some none)
  (z7:W.nsIn K mainGlobals "bool"=some none)
  (z8:W.nsIn K mainGlobals "str"=some none)
  (z9:W.nsIn K mainGlobals "range"=some none)
  (Y:W.nsIn K mainGlobals "list"=some none)
  (Z:W.nsIn K mainGlobals "tuple"=some none)
  (u0:W.nsIn K mainGlobals "LONGEST_NAME"=some (some (.int 6 o)))
  (u1:W.nsIn K mainGlobals "MOST_PLACES"=some (some (.int 14 p)))
  (u2:W.nsIn K mainGlobals "MOST_TIES"=some (some (.int 30 q))) :
  ∃ fd:FuncData,(∀(s:Shared) (v:Value),BindsTo s fd ⟨[v],[]⟩ [("_law_script",v)])/\∀ c:Heap,K.In c->c.Ns mainGlobals n->FnOk l.prog w K n c CX0 15 fa fd wq5 (spLaw K):=by
 obtain⟨_,_,v0,VR⟩:=vK;obtain⟨_,_,UJ,VS⟩:=UG;obtain⟨_,_,Vs,VT⟩:=Vi;obtain⟨_,_,U6,VU⟩:=U1;obtain⟨_,_,v6,VW⟩:=vL;obtain⟨_,_,vy,VX⟩:=vn;obtain⟨_,_,Vt,VY⟩:=Vj;obtain⟨_,_,Vu,VZ⟩:=Vk;obtain⟨_,_,v7,V0⟩:=vM;obtain⟨_,_,UC,V1⟩:=Uz;obtain⟨_,_,vg,V2⟩:=vb;obtain⟨_,_,Vv,V3⟩:=Vl;obtain⟨_,_,US,V4⟩:=UL;obtain⟨_,_,Wi,V5⟩:=Wc;obtain⟨_,_,Vw,V6⟩:=Vm;obtain⟨_,_,UD,V7⟩:=UA;obtain⟨_,_,vz,V8⟩:=vo;obtain⟨_,_,v8,V9⟩:=vN;obtain⟨_,_,v9,wb⟩:=vO;obtain⟨_,_,vA,wc⟩:=vp;obtain⟨_,_,Va,wd⟩:=vP;obtain⟨_,_,vh,we⟩:=vc;obtain⟨_,_,Vb,wf⟩:=vQ;obtain⟨_,_,Vc,wg⟩:=vR;obtain⟨_,_,Uu,wj⟩:=Ut;obtain⟨_,_,Vd,wm⟩:=vS;obtain⟨_,_,VL,wp⟩:=VC;obtain⟨_,_,vi,wq⟩:=vd;obtain⟨_,_,vD,wu⟩:=vq;obtain⟨_,_,Ve,wv⟩:=vT;obtain⟨_,_,vE,ww⟩:=vv;obtain⟨_,_,Wj,wz⟩:=Wd;obtain⟨_,_,VM,wA⟩:=VD;obtain⟨_,_,Vx,wB⟩:=Vn;obtain⟨_,_,Vy,wC⟩:=Vo;obtain⟨_,_,Wk,wD⟩:=We;obtain⟨_,_,Vf,wE⟩:=vV;obtain⟨_,_,Vz,wF⟩:=Vp;obtain⟨_,_,VN,wG⟩:=VE;obtain⟨_,_,Wl,wH⟩:=Wg;obtain⟨_,_,VA,wI⟩:=Vq;obtain⟨_,_,VO,wJ⟩:=VF;obtain⟨_,_,VB,wK⟩:=Vr;obtain⟨_,_,vF,wL⟩:=vw;obtain⟨_,_,VP,wM⟩:=VG;obtain⟨_,_,VQ,wN⟩:=VH;obtain⟨_,_,UT,wO⟩:=UM;obtain⟨_,_,UU,wP⟩:=UO;obtain⟨_,_,Ux,wQ⟩:=Uw;obtain⟨_,_,Wr,wR⟩:=Wq;obtain⟨_,_,WP,WQ,Wo⟩:=WO;obtain⟨_,_,Ws,Wu,wS⟩:=vW;obtain⟨_,_,Wv,Ww,wT⟩:=VI;obtain⟨_,_,Wx,Wy,wU⟩:=U2;obtain⟨_,_,Wz,WA,wV⟩:=U3;obtain⟨_,_,WB,WC,wW⟩:=vX;obtain⟨_,_,WD,WE,wX⟩:=UH;obtain⟨_,_,WF,WG,wY⟩:=VJ;obtain⟨_,_,WH,WI,wZ⟩:=vY;obtain⟨_,_,WK,WL,Wa⟩:=ve;obtain⟨_,_,WM,WN,Wb⟩:=UI;obtain⟨_,_,U7,U8,Ur⟩:=U4;obtain⟨_,_,UV,UW,Uo⟩:=UP;obtain⟨_,_,vk,vm,Uv⟩:=vf;obtain⟨_,_,UX,UY,Up⟩:=UQ;obtain⟨_,_,UZ,U0,Uq⟩:=UR;obtain⟨_,_,Vg,Vh,UK⟩:=vZ;obtain⟨_,_,UE,UF,Um⟩:=UB;obtain⟨_,_,Wm,Wn,vJ⟩:=Wh;obtain⟨_,_,U9,va,Us⟩:=U5;obtain⟨_,_,vG,vH,Uy⟩:=vx;have e:=y.symm.trans (X8 X G Wr);cases e;have f:Cls K d:=⟨w1,w2,w3,w4⟩;have j:Cls K b:=⟨I,J,L,M⟩;have z:Cls K m:=⟨A,B,C,D⟩;have T:Txt K n (λi=>([b,b,b,b,b,b,b,b,b,m]:LI).getD i b) d:=⟨YK X G z0,
  YK X G z1,
  YK X G z2,
  YK X G z3,
  YK X G z4,
  YK X G z5,
  YK X G z6,
  YK X G z7,
  YK X G z8,
  YK X G z9,
  YK X G Y,
  YK X G Z,
  ⟨o,X8 X G u0⟩,
  ⟨p,X8 X G u1⟩,
  ⟨q,X8 X G u2⟩,
  f,
  w7,
  w8,
  w9,
  ⟨r,X8 X G S⟩,
  ⟨t,X8 X G U⟩,
  X8 X G Cw_,
  X8 X G Cp_,
  j,
  P,
  R,
  YK X G aa,
  YK X G u⟩
 obtain⟨oc,od,kV,x,pm,an,cd,ct,sl,rfl,lk,hc⟩:=wR.ex;show⟨W.fnOf "law" "law" (qaN qef) (zC qef) (qf qef) .none kV x pm an cd ct,λs v=>.of_eq rfl,λc _ _=>?_⟩;have a:=@fg_mk l.prog w K n c h;have g:=@fm_mk l.prog w K n c;have fw:=@fw_mk l.prog w K n c h;have d_name:=a X G Vt VY (ok_name VY T);have d_place:=a X G v7 V0 (ok_place V0 d_name);have d_two:=a X G UC V1 (ok_two V1 T d_place);have d_bit:=a X G Vu VZ (ok_bit VZ);have d_nums:=a X G vg V2 (ok_nums V2 T d_name);have d_near:=a X G Vv V3 (ok_near V3 T d_two d_bit);have q_web:MakeOk l.prog w K n c CX0 5 d "Web" wqs (spWeb d):=fw X G Cw_ w5 w6 WP WQ Wo (ok_web Wo T d_nums d_near);have m_has:=g f Wx Wy wU (ok_has wU T d_place);have m_num:=g f Wz WA wV (ok_num wV T m_has);have m_bb:=g f WD WE wX (ok_bb wX T m_num);have m_nin:=g f WK WL Wa (ok_nin Wa T d_bit);have m_bs:=g f WB WC wW (ok_bs wW T m_bb m_nin);have m_tied:=g f WF WG wY (ok_tied wY T m_bb m_num d_bit);have m_pls:=g f Ws Wu wS (ok_pls wS T);have m_ts:=g f Wv Ww wT (ok_ts wT T m_bs);have m_pcs:=g f WH WI wZ (ok_pcs wZ T d_bit (a X G US V4 (ok_pc V4 T d_bit)) m_nin);have m_wot:=g f WM WN Wb (ok_wot Wb T m_tied m_ts q_web);have d_wi:=a X G Vs VT (ok_wi VT T m_pls (a X G U6 VU (ok_sf VU T m_bs)));have d_sd:=a X G v0 VR (ok_sd VR T d_wi (a X G UJ VS (ok_ofs VS T)) m_ts m_pls);have d_sm:=a X G vz V8 (ok_sm V8 T (a X G vy VX (ok_in VX (a X G v6 VW (ok_wh VW T)))));have d_mb:=a X G UD V7 (ok_mb V7 T d_sm);have d_les:=a X G v9 wb (ok_les wb);have d_sts:=a X G v8 V9 (ok_sts V9 T d_les);have d_pk:=a X G Wi V5 (ok_pk V5 T d_mb d_sm d_les d_sts d_bit);have d_fr:=a X G Vw V6 (ok_fr V6 T d_mb d_sts);have d_pw:=a X G vh we (ok_pw2 we T m_pcs);have d_ns:=a X G vA wc (ok_nS wc T m_num d_sd d_pw);have d_fs:=a X G Va wd (ok_fS wd T d_ns d_pw);have d_be:=a X G Uu wj (ok_be wj T m_bb);have d_na:=a X G Vd wm (ok_na wm T);have d_es:=a X G Vc wg (ok_es wg T d_ns d_pk d_be d_na m_bb);have d_td:=a X G Vb wf (ok_td wf T d_es d_fs d_na d_pk d_be (a X G VL wp (ok_bi wp T m_num)));have d_gt:=a X G vD wu (ok_gt wu T d_ns d_es m_bs m_wot);have d_fv:=a X G vi wq (ok_fv wq T d_ns d_fr d_na d_pk d_be);have q_road:MakeOk l.prog w K n c CX0 5 b "Road" wqI (spWkI (λi=>([b,b,b,b,b,b,b,b,b,m]:LI).getD i b) d):=fw X G Cp_ N O U7 U8 Ur (ok_wkI Ur T m_has);have r_ps:=g j UV UW Uo (ok_ps Uo T);have r_tb:=g j UE UF Um (ok_tb Um T m_num);have r_tg:=g j UX UY Up (ok_tg Up T r_tb);have r_tl:=g j UZ U0 Uq (ok_tlf Uq T r_tg m_ts);have r_mv:=g j Vg Vh UK (ok_rm UK T r_ps r_tg m_bs r_tb);have r_go:=g j Wm Wn vJ (ok_rgo vJ T (g j vk vm Uv (ok_rmvt Uv T r_mv)));have r_wl:=g j U9 va Us (ok_rwl Us T r_tl m_pls q_web);have k_ch:=g z vG vH Uy (ok_kc Uy T d_gt (a X G Ve wv (ok_fo wv T)) r_wl r_ps r_mv);have d_bes:=a X G Vf wE (ok_beI wE);have d_si:=a X G Vz wF (ok_siI wF T d_bes);have d_nr:=a X G VN wG (ok_nrI wG T d_si);have d_fa:=a X G Wl wH (ok_frI wH T d_si);have d_sw:=a X G VB wK (ok_sw wK T);have d_bts:=a X G VO wJ (ok_bt wJ);have d_cm:=a X G vF wL (ok_cm wL T d_bes d_bts);have d_lo:=a X G VP wM (ok_lo wM T d_nr d_cm d_sw);have d_ev:=a X G VQ wN (ok_ev wN T d_nr d_fa (a X G VA wI (ok_of wI T d_bes)));have d_wb:=a X G Wk wD (ok_wb wD T q_web);have d_tk:=a X G VM wA (ok_tk wA);have d_dr:=a X G Vy wC (ok_dr wC T (a X G Wj wz (ok_bx wz T)) d_tk (a X G Vx wB (ok_nm7 wB T d_tk)));have d_fri:=a X G UT wO (ok_frF wO T d_nr d_sw d_cm d_ev d_bts d_fv) (hb:=λ_ _ _ _ _ _=>lN5 λ_ _ _ _ _=>rfl);show ok_law73 wR T (a X G vE ww (ok_ca7 ww T)) d_dr d_wb (a X G UU wP (ok_grI wP T d_bes d_lo d_gt d_td)) d_fri (a X G Ux wQ (ok_kI wQ T d_wb d_bes d_lo ⟨⟨E,H,F⟩,X8 X G Ck_⟩ q_road k_ch r_go))
theorem walk{l:PySem.W.OpenLaw}{q:Program}{loose:LS}{XP:(Str->Option Value)->Heap->Prop}{YP:World->Heap->Prop}{d:DefRec}{K:Params->yf}(o:l.most=some 63)(e:d.params.defaults=[])
  (m:∀(w:World) (h:Heap),YP w h->(K w.params).In h)
  (F:∀(w:World) (c:Str->Option Value) (g:Addr) (h:Heap),(K w.params).In h->h.Ns mainGlobals c->c d.name=some (.ref g) ->
   ∃ i:FuncData,(∀(s:Shared) (u:Value),BindsTo s i ⟨[u],[]⟩ [("_law_script",u)])/\∀ b:Heap,(K w.params).In b->b.Ns mainGlobals c->FnOk l.prog w (K w.params) c b CX0 15 g i wq5 (spLaw (K w.params))) :
  PySem.W.WalkO q loose XP YP l.row.toRowW d [] (λf vs=>PySem.call f vs):=
 L2.walk_of (n:=63) (k:=15) (x:="_law_script") (CX:=λ_=>CX0) (sp:=λw=>spLaw (K w.params)) o (by decide) e ⟨rfl,by decide,by decide,rfl⟩ m F (λ_ _ a ns hl _ j=>⟨a,ns,rfl,j,hl,λ_=>rfl⟩) λ_ _ _ _ _ z=>z
end K73
set_option maxRecDepth 100000 in
set_option maxHeartbeats 0 in
theorem PySem.Challenge.cw_onceroad_k73_free_sets_and_good_moves_holds : PySem.Challenge.rw_onceroad_k73_free_sets_and_good_moves.Holds := by
  w_on; o_law
  show PySem.W.holds_open (q := K73.Q) (loose := []) (Xt := K73.Xt) (XP := PySem.W.XL K73.Q []) (Yf := PySem.W.Hook.obs K73.Hk) (Ya := PySem.W.Hook.val K73.Hk) (YP := PySem.W.Hook.says (PySem.W.kHook K73.Kf K73.ks K73.ks_eq)) (N := K73.NN) K73.hl (PySem.W.Hook.of K73.Hk) (PySem.W.Hook.keeps K73.Hk) (λs e => PySem.W.xl_of s (Bool.and_eq_true_iff.mp e).1) PySem.W.XL.keeps (by rfl) (by rfl) (by rfl) (λs e => PySem.W.recFacts_of (Bool.and_eq_true_iff.mp e).2) (by rfl) (by first | assumption | room) (by room) ⟨rfl, rfl, rfl, rfl, rfl, by room⟩ ?hw ?hc
  (case hw => w_witness2)
  k_fill
  show K73.walk (l := PySem.Challenge.rw_onceroad_k73_free_sets_and_good_moves) rfl rfl (λw h Y => PySem.W.kIn_of Y) ?F
  case F =>
    intro w mg fa h KX G hmg
    refine' K73.all_mk KX G hmg ?_ ?_ ?_ ?_ ?_ ?_ ?_ ?_ ?_ ?_ ?_ ?_ ?_ ?_ ?_ ?_ ?_ ?_ ?_ ?_ ?_ ?_ ?_ ?_ ?_ ?_ ?_ ?_ ?_ ?_ ?_ ?_ ?_ ?_ ?_ ?_ ?_ ?_ ?_ ?_ ?_ ?_ ?_ ?_ ?_ ?_ ?_ ?_ ?_ ?_ ?_ ?_ ?_ ?_ ?_ ?_ ?_ ?_ ?_ ?_ ?_ ?_ ?_ ?_ ?_ ?_ ?_ ?_ ?_ ?_ ?_ ?_ ?_ ?_ ?_ ?_ ?_ ?_ ?_ ?_ ?_ ?_ ?_ ?_ ?_ ?_ ?_ ?_ ?_ ?_ ?_ ?_ ?_ ?_ ?_ ?_ ?_ ?_ ?_ ?_ ?_ ?_ ?_ ?_ ?_ ?_ ?_ ?_ ?_ ?_ ?_ ?_ ?_ ?_ ?_ ?_ ?_
    any_goals first | k_is | decide
    any_goals first | k_is | decide | show⟨_, _, by k_is, L2.fun_mk (by k_is) (by k_is) (by k_is)⟩ | show⟨_, _, by k_is, by k_is, L2.fun_mk (by k_is) (by k_is) (by k_is)⟩ | show⟨_, _, _, _, _, _, _, _, _, _, _, _, _, _, _, by k_is⟩ | show⟨by k_is, by k_is, by k_is, by k_is, by k_is, by k_is, by k_is, by k_is⟩ | kernel_rfl | fail
