import PyProof.Rows.All
import Wide.All
import OpenK.AllK
import Wide.FinOn
import PyProof.EqAt
import PyProof.EqKinds
import PyProof.TupleCall
import Lean
import PySem.Challenge.RW_onceroad_k71_sets_told
set_option Elab.async false
set_option linter.all false
set_option maxRecDepth 100000
local macro_rules | `(tactic| show $e)=>`(tactic| refine $e)
abbrev LQ:=List Int
abbrev LI:=List PySem.Addr
abbrev LN:=List Nat
abbrev LS:=List PySem.Str
abbrev LP:=List (PySem.Str×PySem.Str)
local macro_rules | `(tactic| room)=>`(tactic| decide +kernel)
local macro_rules | `(tactic| lk)=>`(tactic| first | lia | omega)
set_option hygiene false
local macro_rules | `(wqqh $a $b $c $d)=>`(DefOk P w K mg base CX0 $a $b $c $d)
local macro_rules | `(wqqi $a $b $c $d $e)=>`(MethOk P w K mg base CX0 $a $b $c $d $e)
local macro_rules | `(wqqj $a $b $c $d $e)=>`(FnOk P w K mg base CX0 $a $b $c $d $e)
local macro_rules | `(wqqk $a $b $c $d $e)=>`(MakeOk P w K mg base CX0 $a $b $c $d $e)
set_option hygiene true
noncomputable section
abbrev wa:LS:=["self"]
abbrev wh:LS:=["web","start"]
abbrev wqa:LS:=["_law_web_here","_law_names_here","_law_ties","_law_start"]
abbrev wqb:LS:=["_law_names_here","_law_ties","_law_start","_law_thing","_law_places","_law_near_here"]
abbrev wqc:LS:=["_law_names_here","_law_ties","_law_start","_law_thing","_law_places","_law_others"]
abbrev wqd:LS:=["self","place"]
abbrev wqe:LS:=["_law_web_here","_law_names_here","_law_ties","_law_start","_law_found","_law_some","_law_lost","_law_truths","_law_kept"]
abbrev wqf:LS:=["_law_one","_law_names_here"]
abbrev wqg:LS:=["_law_names_here","_law_ties","_law_start","_law_thing"]
abbrev wqh:LS:=["_law_ties","_law_start"]
abbrev wqi:LS:=["_law_i","_law_j","_law_names_here"]
abbrev wqj:LS:=["_law_web_here","_law_names_here","_law_ties","_law_start","_law_moves","_law_rest","_law_road","_law_ended","_law_way","_law_found","e","_law_due"]
abbrev wqk:LS:=["thing"]
abbrev wql:LS:=["_law_cell","_law_apart","_law_box_here","_law_many","_law_names_here","_law_thick","_law_side","_law_ties","_law_i","_law_j","_law_there"]
abbrev wqm:LS:=["_law_ties","_law_here","_law_places"]
abbrev wqn:LS:=["web","start","thing"]
abbrev wqo:LS:=["web","ways","one","other","ones","others"]
abbrev wqp:LS:=["_law_web_here","_law_start","_law_number"]
abbrev wqq:LS:=["_law_names_here","_law_ties"]
abbrev wqr:LS:=["_law_names_here","_law_ties","_law_ring_here","_law_places","_law_k"]
abbrev wqs:LS:=["_law_box_here","_law_many"]
abbrev wqt:LS:=["_law_ties","_law_here"]
abbrev wqu:LS:=["_law_script","_law_names_here","_law_ties","_law_web_here","_law_two","_law_start","_law_thing"]
abbrev wqv:LS:=["self","thing"]
abbrev wqw:LS:=["_law_names_here","_law_ties","_law_ring_here"]
abbrev wqx:LS:=["numbers","thing"]
abbrev wqy:LS:=["web","place"]
abbrev wqz:LS:=["_law_ties","_law_start","_law_side"]
abbrev wqA:LS:=["play","player","hand","many","most"]
abbrev wqB:LS:=["web","start","near","others","picked","chosen"]
abbrev wqC:LS:=["self","names","ties"]
abbrev wqD:LS:=["bits","number"]
abbrev wqE:LS:=["_law_names_here","_law_ties","_law_handed"]
abbrev wqF:LS:=["web","side","thing"]
abbrev wqG:LS:=["self","web","start"]
abbrev wqH:LS:=["place","ways"]
abbrev wqI:LS:=["names","numbers"]
abbrev wqJ:LS:=["web","places"]
abbrev wqK:LS:=["_law_names_here","_law_ties","_law_start","_law_side"]
abbrev wqL:LS:=["thing","low","high"]
abbrev wqM:List String:=["NoneType","bool","int","str","list","tuple","dict"]
abbrev wqN:LS:=["self","text"]
abbrev wqO:LS:=["_law_place","_law_side"]
abbrev wqP:List String:=["ValueError","Exception","BaseException","object"]
abbrev wqQ:LS:=["_law_script","_law_k"]
abbrev wqR:LS:=["road","player","hand"]
abbrev wqS:LS:=["_law_i","_law_j","_law_here"]
abbrev wqT:LS:=["self","bits"]
abbrev wqU:LS:=["_law_web_here","_law_thing"]
abbrev wqV:LS:=["self","road"]
abbrev wqW:LS:=["_law_near_here","_law_ties","_law_places"]
abbrev wqX:LS:=["self","one","other"]
abbrev wqY:LS:=["_law_far_here","_law_ties","_law_places"]
abbrev wqZ:LS:=["self","found"]
abbrev wq0:LS:=["_law_cell","_law_apart"]
abbrev wq1:LS:=["_law_tie","_law_moves","_law_start"]
abbrev wq2:LS:=["self","many"]
abbrev wq3:LS:=["self","ring"]
abbrev wq4:LS:=["web","start","numbers"]
abbrev wq5:LS:=["names"]
abbrev wq6:LS:=["numbers","goal"]
abbrev wq7:LS:=["play","player","hand"]
abbrev wq8:LS:=["web","start","ways"]
abbrev wq9:LS:=["numbers"]
abbrev wqqa:LS:=["one","other","self"]
abbrev wqqb:LS:=["play","one","other"]
abbrev wqqc:LS:=["step","steps"]
abbrev wqqd:LS:=["web"]
abbrev wqqe:LS:=["self","play"]
abbrev wqqf:LS:=["_law_script"]
abbrev wqqg:LS:=["numbers","ties"]
theorem wqql:0<=PySem.sizeLine:=by decide
theorem wqqm:1<=PySem.sizeLine:=by decide
theorem wqqn:2<=PySem.sizeLine:=by decide
theorem ya{b c:Type}{a:List b}(f:b→c):(a.map f).length=a.length:=List.length_map f
theorem yb{a:Type}{l:List a}{i:Nat}(h:i<l.length):l[i]?=some l[i]:=List.getElem?_eq_getElem h
theorem yc{b:Type}{l:List b}{i:Nat}{a:b}:l[i]?=some a↔∃h:i<l.length,l[i]=a:=List.getElem?_eq_some_iff
theorem ye{a b:Type}{f:a→b}{l:List a}{i:Nat}:(l.map f)[i]?=l[i]?.map f:=List.getElem?_map
theorem yf{b:Type}{l:List b}{i:Nat}{a:b}(h:l[i]?=some a):a∈l:=List.mem_of_getElem? h
theorem yg{b:Type}{a:b}{l:List b}(h:a∈l):∃i:Nat,l[i]?=some a:=List.getElem?_of_mem h
abbrev yh:=PySem.W.Frag
theorem yi(n:Nat):n≤n:=Nat.le_refl n
theorem yj{a b c:Nat}(h:a≤b)(k:b≤c):a≤c:=Nat.le_trans h k
theorem yk{a b c:Nat}(h:a<b)(k:b≤c):a<c:=Nat.lt_of_lt_of_le h k
theorem yl{p:Prop}[Decidable p](h:decide p=true):p:=of_decide_eq_true h
theorem ym{p:Prop}[Decidable p](h:¬p):decide p=false:=decide_eq_false h
theorem yn{c:Type}{a b:c}(h:some a=some b):a=b:=Option.some.inj h
theorem yo{c d:Type}{f:c→d}{x:Option c}{b:d}:x.map f=some b↔∃a,x=some a∧f a=b:=Option.map_eq_some_iff
theorem yp{b:Type}{a:b}{l:List b}:(a::l).Nodup↔a∉l∧l.Nodup:=List.nodup_cons
theorem yq{a:Type}{p:a→Bool}{b:List a}{x:a}:x∈b.filter p↔x∈b∧p x=true:=List.mem_filter
theorem yr{A B:Prop}(h:B):if false=true then A else B:=h
def yt:=@PySem.wpAny_bind
def yu:=@List.map_append
def yv:=@PySem.Heap.get?_push_of_some
def yw:=@List.mem_singleton
def yx:=@decide_eq_true
def yy:=@List.length_filter_le
def yz:=@List.mem_cons_of_mem
def yA:=@PySem.wpAny_pure
def yB:=@List.size_toArray
def yC:=@decide_eq_true_iff
def yD:=@List.take_length
def yE:=@if_neg
def yF:=@List.mem_cons
def yG:=@Or.inl
def yH:=@if_pos
def yI:=@List.take_add_one
def yJ:=@List.mem_map
def yK:=@List.length_append
def yL:=@List.mem_cons_self
def yM:=@List.length_take
def yN:=@Nat.le_of_lt
def yO:=@PySem.Heap.lt_size
def yP:=@List.mem_append
def yQ:=@List.getElem?_append_left
def yR:=@List.filter_cons
def yS:=@PySem.Heap.get?_push_size
def yT:=@Bool.eq_iff_iff
def yU:=@List.mem_append_right
def yV:=@PySem.F.plainAttrs_list
def yW:=@List.not_mem_nil
def yX:=@PySem.PassesOwn.never
def yY:=@decide_eq_decide
def yZ:=@List.filter_append
def y7:=@List.idxOf_lt_length_of_mem
def Yb:=@List.append_nil
def Yc:=@List.getElem?_append_right
def Yd:=@List.mem_range
def Ye:=@Int.toNat_natCast
def Yg:=@List.getD_eq_getElem?_getD
def Yh:=@Nat.testBit_xor
def Yi:=@PyProof.Rows.boot_isinstance
def Yj:=@Nat.ne_of_lt
def Yk:=@List.length_cons
def Yl:=@Bool.and_eq_true
def Ym:=@PySem.F.slot_list_append
def Yn:=@PySem.F.type_list_append
def Yo:=@beq_iff_eq
def Yp:=@Nat.lt_irrefl
def Yq:=@beq_eq_false_iff_ne
def Yr:=@List.all_eq_true
def Ys:=@List.map_cons
def Yt:=@List.contains_cons
def Yu:=@List.getElem_idxOf
def Yv:=@PySem.boot_len
def Yw:=@Ne.symm
def Yx:=@PySem.wpAny_mono
def Yy:=@List.getLast?_eq_getElem?
def Yz:=@List.length_drop
def YA:=@Nat.zero_testBit
def YB:=@List.mem_append_left
def YC:=@PySem.Heap.get?_update_other
def YD:=@List.nodup_append
def YE:=@List.map_map
def YF:=@List.length_range
def YG:=@PySem.wpAny_holding
def YH:=@Bool.false_ne_true
def YI:=@List.length_reverse
def YJ:=@Bool.xor_false
def YK:=@List.append_assoc
def YL:=@PySem.wpAny_loadPart_at
def YM:=@List.pairwise_map
def YN:=@PySem.W.looks_findIn
def YO:=@List.pairwise_iff_getElem
def YQ:=@True.intro
def YR:=@PySem.W.mg_none_of
def YS:=@PySem.Heap.size_push
def YT:=@or_false
def YU:=@decide_eq_false_iff_not
def YV:=@Nat.le_succ
def YW:=@Nat.eq_of_testBit_eq
def YX:=@Nat.testBit_lt_two_pow
def YY:=@Nat.zero_xor
def YZ:=@Array.length_toList
def Y5:=@Nat.zero_le
def Y6:=@Bool.not_eq_true'
def Y7:=@PySem.F.slot_NoneType_eq
def Y8:=@beq_self_eq_true
def Y9:=@PySem.codeAny_call_builtin
def xi:=@Nat.pow_le_pow_right
def xj:=@PyProof.Rows.callWith_type1
def xk:=@PySem.wpAny_truthy_bool
def xl:=@PySem.F.excBase_ValueError
def xm:=@List.take_of_length_le
def xn:=@List.filter_congr
def xo:=@List.pairwise_lt_range
def xp:=@Nat.testBit_two_pow
def xq:=@List.map_congr_left
def xr:=@List.length_nil
def xt:=@Bool.or_eq_true
def xu:=@PySem.wpAny_of_eq
def xv:=@List.length_replicate
def xx:=@PySem.Heap.get?_update_self
def xy:=@PySem.wpAny_Call_Name_kw
def xz:=@PySem.W.callWith_K
def xA:=@List.any_eq_true
def xB:=@List.getElem?_set_ne
def xC:=@List.Pairwise.filter
def xD:=@List.find?_cons
def xE:=@Int.emod_nonneg
def xF:=@List.replicate_succ
def xG:=@PySem.W.looks_mroIn
def xH:=@PySem.wpAny_isSubtype_exc
def xI:=@PyProof.Rows.F.plain_set_update_loop
def xJ:=@Nat.ne_of_gt
def xK:=@Or.inr
def xL:=@Nat.xor_zero
def xM:=@Nat.zero_add
def xN:=@Int.zero_add
def xO:=@List.filter_eq_nil_iff
def xP:=@PySem.wpAny_call
def xQ:=@Nat.lt_of_le_of_lt
def xR:=@List.lookup_append
def xS:=@Array.getElem?_eq_some_iff
def xT:=@List.getElem?_drop
def xU:=@Nat.mod_two_eq_zero_or_one
def xV:=@List.perm_ext_iff_of_nodup
def xW:=@PySem.W.methodCall_KW
def xX:=@List.length_singleton
def xY:=@List.getElem?_reverse
def xZ:=@List.getElem?_eq_none
def Xa:=@PySem.W.mg_of
def Xb:=@Classical.byContradiction
def Xc:=@PySem.wpAny_passesOwn
def Xd:=@List.range_succ
def Xe:=@PyProof.Rows.boot_list
def Xf:=@PySem.codeAny_mono
def Xg:=@PySem.wpAny_newObj_type
def Xh:=@List.mem_of_mem_take
def Xi:=@PyProof.Rows.boot_tuple
def Xj:=@PyProof.Rows.slot_tuple_getitem
def Xk:=@PySem.mem_of_lookup
def Xl:=@PySem.W.any_some
def Xm:=@List.lookup_cons
def Xn:=@PySem.wpAny_getItem_str_slice
def Xo:=@List.getElem_mem
def Xp:=@PySem.F.slot_list_index
def Xq:=@Nat.le_add_right
def Xr:=@Nat.testBit_or
def Xs:=@List.isEmpty_iff
def Xu:=@List.getElem?_set_self
def Xv:=@List.pairwise_cons
def Xw:=@Int.emod_lt_of_pos
def Xx:=@List.filter_nil
def Xy:=@List.all_cons
def Xz:=@PySem.Value.ref.inj
def XA:=@Bool.xor_true
def XB:=@if_true
def XC:=@List.flatten_cons
def XD:=@List.reverse_perm
def XE:=@PySem.sizeLine_eq
def XF:=@Nat.pow_lt_pow_right
def XG:=@List.mem_of_mem_drop
def XH:=@Nat.lt_succ_self
def XI:=@Nat.le_of_not_lt
def XJ:=@Nat.lt_pow_two_of_testBit
def XM:=@List.filterMap_cons
def XR:=@List.length_pos_iff
def XS:=@List.map_eq_nil_iff
def XT:=@PySem.wpAny_standAt
def XU:=@Option.isSome_iff_exists
def XV:=@Prod.ext
def XW:=@Int.natCast_pow
def XY:=@PySem.tupleKind_room_in1
def XZ:=@List.getElem?_replicate
def X5:=@PySem.wpAny_field
def X6:=@PySem.F.type_list_index
def X7:=@PySem.Calls.callWith_builtin
def X8:=@List.reverse_cons
def X9:=@PySem.wpAny_pyIter_list
def kc:=@List.all_map
def ke:=@PySem.Heap.get?_push_at
def kf:=@Array.getElem?_eq_none
def kg:=@Array.getElem?_toList
def kh:=@PySem.W.Looks.of_pure
def ki:=@List.mem_iff_getElem?
def kj:=@Nat.min_le_right
def km:=@PySem.call_meets
def kn:=@List.map_reverse
def ko:=@List.any_cons
def kq:=@List.map_drop
def kr:=@Bool.and_true
def kt:=@List.pairwise_append
def ku:=@PySem.wpAny_execs_nil
def ky:=@List.length_set
def kz:=@PySem.SeqAt.EqAt.same
def kA:=@Option.map_some
def kB:=@PySem.post_val_or_str
def kC:=@PySem.W.plainGet_of
def kD:=@PySem.W.looks_clsIn
def kG:=@Bool.or_true
def kH:=@Bool.false_and
def kI:=@Bool.false_eq_true
def kK:=@PySem.Code.quiet_builtin
def kL:=@Nat.xor_lt_two_pow
def kM:=@PyProof.Rows.boot_all
def kN:=@List.getElem?_take
def kO:=@Sum.inr.inj
def kP:=@List.take_sublist
def kQ:=@PySem.slot_list_getitem
def kR:=@Option.isSome_map
def kS:=@Bool.eq_false_iff
def kT:=@Nat.or_lt_two_pow
def kU:=@Nat.one_shiftLeft
def kW:=@Bool.or_false
def kX:=@Bool.false_or
def kY:=@PySem.W.mg_of
def kZ:=@PySem.W.makes_of
def k7:=@if_false
def k8:=@Nat.succ_le_succ
def k9:=@List.cons_append
def Ka:=@PySem.wpAny_askSetting
def Kb:=@Nat.testBit_log2
def Kc:=@List.mem_reverse
def Kd:=@List.map_nil
def Ke:=@PySem.Txt.slice_le
def Kg:=@Nat.lt_asymm
def Kh:=@List.of_mem_zip
def Ki:=@PySem.codeAny_of_tree
def Kj:=@Nat.min_eq_left
def Kk:=@Nat.div_add_mod
def Kl:=@List.filter_map
def Km:=@PySem.codeAny_builtin
def Kn:=@Bool.and_false
def Ko:=@List.map_id
def Kp:=@Bool.false_xor
def Kq:=@Nat.xor_assoc
def Kr:=@Prod.mk.injEq
def Ks:=@List.cons.inj
def Kt:=@Bool.true_and
def Ku:=@not_or
def Kv:=@Nat.le_of_eq
def Kw:=@decide_false
def Kx:=@Eq.symm
def Ky:=@Iff.rfl
namespace L2
open PySem PySem.Spec PyProof.Rows
def qQ(s:Stmt)(j:Nat):Stmt:=match s with
 | .ClassDef _ _ _ body _ _ _ _ _ _ _=>body.getD j (.Pass ⟨0,0,0,0⟩)
 | _=>.Pass ⟨0,0,0,0⟩
def qbk(s:Stmt):Arguments:=match s with
 | .FunctionDef _ a _ _ _ _ _ _ _ _=>a
 | _=>{ posonlyargs:=[],args:=[],vararg:=none,kwonlyargs:=[],kw_defaults:=[],kwarg:=none,defaults:=[] }
def zD(s:Stmt):List Stmt:=match s with
 | .FunctionDef _ _ b _ _ _ _ _ _ _=>b
 | _=>[]
def qf(s:Stmt):Scope:=match s with
 | .FunctionDef _ _ _ _ _ _ sc _ _ _=>sc
 | _=>{ kind:=.function,names:=[],isGenerator:=false,isCoroutine:=false }
end L2
namespace K71
open PySem L2 PyProof.Rows
def top(i:Nat):Stmt:=PySem.Challenge.pw_onceroad_k71_sets_told.main.body.getD i (.Pass ⟨0,0,0,0⟩)
abbrev jZ:Stmt:=qQ (top 2) 0
abbrev zo:Stmt:=qQ (top 5) 0
abbrev zq:Stmt:=qQ (top 7) 0
abbrev qa3:Stmt:=qQ (top 8) 0
abbrev zN:Stmt:=top 25
abbrev qbF:Stmt:=top 30
abbrev qao:Stmt:=top 31
abbrev j0:Stmt:=top 32
abbrev zX:Stmt:=top 33
abbrev qa4:Stmt:=qQ (top 29) 0
abbrev qbH:Stmt:=top 34
abbrev zY:Stmt:=qQ (top 29) 1
abbrev jK:Stmt:=qQ (top 29) 4
abbrev jL:Stmt:=qQ (top 29) 6
abbrev zZ:Stmt:=qQ (top 29) 7
abbrev jN:Stmt:=qQ (top 29) 8
abbrev jW:Stmt:=qQ (top 29) 12
abbrev qaa:Stmt:=qQ (top 29) 10
abbrev zr:Stmt:=top 35
abbrev qa5:Stmt:=qQ (top 29) 2
abbrev zd:Stmt:=top 17
abbrev zE:Stmt:=top 19
abbrev qbL:Stmt:=top 18
abbrev qaR:Stmt:=top 20
abbrev jO:Stmt:=top 16
abbrev qa6:Stmt:=top 23
abbrev qaE:Stmt:=top 24
abbrev jB:Stmt:=top 42
abbrev qaF:Stmt:=top 43
abbrev qa7:Stmt:=top 44
abbrev qa8:Stmt:=top 45
abbrev qcJ:Stmt:=top 40
abbrev qaG:Stmt:=top 87
abbrev qdo:Stmt:=top 88
abbrev qcq:Stmt:=top 89
abbrev jp:Stmt:=top 90
abbrev qaS:Stmt:=top 91
abbrev qb6:Stmt:=top 92
abbrev qaq:Stmt:=top 93
abbrev qbM:Stmt:=top 94
abbrev qbN:Stmt:=top 95
abbrev qcN:Stmt:=top 96
abbrev qaU:Stmt:=top 97
abbrev zA:Stmt:=top 49
abbrev zm:Stmt:=top 47
abbrev zH:Stmt:=top 48
abbrev jg:Stmt:=top 52
abbrev qar:Stmt:=top 53
abbrev qcr:Stmt:=top 54
abbrev zn:Stmt:=top 51
abbrev qas:Stmt:=top 50
abbrev ju:Stmt:=top 14
abbrev qcs:Stmt:=top 39
abbrev zB:Stmt:=top 57
abbrev qaW:Stmt:=top 55
abbrev qbP:Stmt:=top 56
abbrev jM:Stmt:=top 98
abbrev j9:Stmt:=top 99
abbrev ze:Stmt:=top 100
abbrev qab:Stmt:=top 58
abbrev qaI:Stmt:=top 59
abbrev qbb:Stmt:=top 84
abbrev qct:Stmt:=top 101
abbrev qbc:Stmt:=top 102
abbrev zf:Stmt:=top 103
abbrev qac:Stmt:=top 105
abbrev qbd:Stmt:=top 67
abbrev qaJ:Stmt:=qQ (top 70) 0
abbrev j3:Stmt:=qQ (top 70) 2
abbrev jC:Stmt:=qQ (top 78) 0
abbrev jH:Stmt:=qQ (top 78) 3
abbrev zt:Stmt:=qQ (top 70) 8
abbrev jD:Stmt:=qQ (top 78) 1
abbrev zC:Stmt:=qQ (top 78) 2
abbrev qbQ:Stmt:=qQ (top 78) 4
abbrev zg:Stmt:=qQ (top 78) 5
abbrev j4:Stmt:=qQ (top 65) 0
abbrev qaK:Stmt:=qQ (top 70) 3
abbrev qaL:Stmt:=qQ (top 70) 5
abbrev qad:Stmt:=qQ (top 70) 6
abbrev qae:Stmt:=qQ (top 70) 7
abbrev j5:Stmt:=top 73
abbrev qaM:Stmt:=qQ (top 78) 6
abbrev zF:Stmt:=qQ (top 82) 0
abbrev qbR:Stmt:=top 61
abbrev qdx:Stmt:=top 72
abbrev j6:Stmt:=top 75
abbrev qbS:Stmt:=top 76
abbrev zu:Stmt:=top 85
abbrev jE:Stmt:=top 104
abbrev qat:Stmt:=top 106
abbrev qbf:Stmt:=qQ (top 29) 11
abbrev qbr:Stmt:=top 107
end K71
namespace Hd
open PySem PySem.W PySem.Calls PyProof.Rows
variable{N:Nat}{p q:Program}{w:World}{α:Type}
def qhJ(c:String->Option Builtin)(p:Program)(w:World)(a:Nat)(b:Option Value):Nat->SharedT->Thread->Option SharedT
 | 0,_,_=>none
 | n+1,s,t=>match through t with
  | true=>some s
  | false=>match stepOk a b t with
   | false=>none
   | true=>match stepT (denote c) p w s t with
    | some (s',t')=>qhJ c p w a b n s' t'
    | none=>none
theorem qhs{d:String->Option Builtin}{a:Nat}{b:Option Value}:∀{n:Nat} {s s':SharedT} {t:Thread},qhJ d p w a b n s t=some s'->topRun d p w a b n s.abs t=some s'.abs
 | 0,_,_,_,h=>by cases h
 | n+1,s,s',t,h=>by
  unfold qhJ at h;unfold topRun
  cases e:through t with
  | true=>rw[e] at h;cases h;rfl
  | false =>
   rw[e] at h
   cases f:stepOk a b t with
   | false=>rw[f] at h;cases h
   | true =>
    rw[f] at h
    cases c:stepT (denote d) p w s t with
    | none=>rw[c] at h;cases h
    | some r=>obtain⟨g,i⟩:=r;rw[c] at h;rw[stepT_spec c];show qhs h
def qez:List Obj->Nat->BT->BT
 | [],_,t=>t
 | o::r,n,t=>qez r (n+1) (t.ins n o)
def qgo(P:Params)(a:OsState):SharedT:=⟨qez (boot_heap P).objs.toList 0 .nil,(boot_heap P).objs.size,(boot_heap P).life,Array.mk [],boot_drawn,boot_toks,a⟩
theorem boot_abs(P:Params):absHeap (qez (boot_heap P).objs.toList 0 .nil) (boot_heap P).objs.size (boot_heap P).life=boot_heap P:=by kernel_rfl
def qgL(p q:Program)(Xt:Shared->Bool){α:Type}(Yf:Shared->α)(N:Nat)(w:World)(a:OsState):=match (boot_heap w.params).isNs mainGlobals&&(Array.mk []:Array GenState).size==0 with
 | true=>(qhJ treeTable p w (boot_heap w.params).objs.size ((boot_heap w.params).nsMap mainGlobals "__annotations__") N (qgo w.params a) (topStub p)).bind λs=>match staticsOk (importedModules p.main.body) (boot_heap w.params) s.abs.heap&&namesBound p s.abs.heap&&gensDone s.abs&&laidKept (boot_heap w.params) s.abs.heap with
   | true=>some (openSeen q [] (importedModules p.main.body) Xt true s.abs,Yf s.abs)
   | false=>none
 | false=>none
def lookR(p:Program)(N:Nat)(w:World)(a:OsState):Option Shared:=match (boot_heap w.params).isNs mainGlobals&&(Array.mk []:Array GenState).size==0 with
 | true=>(qhJ treeTable p w (boot_heap w.params).objs.size ((boot_heap w.params).nsMap mainGlobals "__annotations__") N (qgo w.params a) (topStub p)).map λs=>s.abs
 | false=>none
theorem sO{n:Nat}{D:LS}{O L}{s:Shared}(e:seen [] O [] { s with gens:=#[] }=⟨[],true,[],true,true,true,0⟩)(h:(D.take n).map (s.heap.shapeAt mainGlobals)=L.take n)(k:(D.drop n).map (s.heap.shapeAt mainGlobals)=L.drop n):seen D O [] { s with gens:=#[] }=⟨L,true,[],true,true,true,0⟩:=by
 unfold seen at e ⊢;rw[Seen.mk.injEq] at e ⊢;exact ⟨by rw[<- List.take_append_drop n D,List.map_append,h,k];exact List.take_append_drop n L,e.2⟩
theorem lookT_of{Xt:Shared->Bool}{Yf:Shared->α}{b:OsState}{y:α}
  (h1:(lookR p N w b).map (λs=>(staticsOk (importedModules p.main.body) (boot_heap w.params) s.heap&&namesBound p s.heap&&gensDone s&&laidKept (boot_heap w.params) s.heap,seen [] (ownsOf q) [] { s with gens:=#[] }))=some (true,⟨[],true,[],true,true,true,0⟩))(i:(lookR p N w b).map (λs=>(((recsOf q).map (·.name)).take 36).map (s.heap.shapeAt mainGlobals))=some ((expectedOf q).defs.take 36))(k:(lookR p N w b).map (λs=>(((recsOf q).map (·.name)).drop 36).map (s.heap.shapeAt mainGlobals))=some ((expectedOf q).defs.drop 36))
  (c:(lookR p N w b).map (λs=>(s.heap.bltView,s.heap.keysOk (looseW q []) ((recsOf q).map (·.name)) ((litsOf q).map (·.1)) ((clssOf q (looseW q [])).map (·.name))&&s.heap.accountedOkI (importedModules p.main.body)&&s.heap.isNs mainGlobals&&s.heap.isNs builtinsNs&&tablesOk q s.heap&&Xt s&&(if true then s.gens.size==0 else !leftWithCleanup s.gens)))=some (bltViewBooted,true))(z:(lookR p N w b).map (tabsOk q)=some true)
  (d:(lookR p N w b).map (λs=>(pinSeenD q (drecsOf q) s,plainSeenE q (looseW q []) s,plainSeenD q [] s,wideSeen q s,clsSeenW q [] s))=some (pinGoodD (drecsOf q),plainGoodE q (looseW q []),plainGoodD q [],wideGood q,clsGoodW q []))
  (a:(lookR p N w b).map Yf=some y):qgL p q Xt Yf N w b=some (openGood q [],y):=by
 unfold qgL;unfold lookR at h1 i k c z d a
 cases hb:(boot_heap w.params).isNs mainGlobals&&(Array.mk []:Array GenState).size==0 with
 | false=>rw[hb] at a;cases a
 | true =>
  rw[hb] at h1 i k c z d a;dsimp only at h1 i k c z d a ⊢
  cases m:qhJ treeTable p w (boot_heap w.params).objs.size ((boot_heap w.params).nsMap mainGlobals "__annotations__") N (qgo w.params b) (topStub p) with
  | none=>rw[m] at a;cases a
  | some s =>
   rw[m] at h1 i k c z d a;have l:=yn h1;have e:=yn c;have n:=yn d;have f:=congrArg (λz=>z.1) l;have g:=sO (congrArg (λz=>z.2) l) (yn i) (yn k);have h:=congrArg (λz=>z.1) e;have i:=congrArg (λz=>z.2) e;have j:=yn z;dsimp only at f g h i j;show(match staticsOk (importedModules p.main.body) (boot_heap w.params) s.abs.heap&&namesBound p s.abs.heap&&gensDone s.abs&&laidKept (boot_heap w.params) s.abs.heap with | true=>some (openSeen q [] (importedModules p.main.body) Xt true s.abs,Yf s.abs) | false=>none)=_;rw[f];show congrArg some (XV (XV g (XV h (XV i (XV j n)))) (yn a))
theorem left_of{Xt:Shared->Bool}{Yf:Shared->α}{Ya:World->α}(e:opening p=plainProg p.main.scope.names)(n:Nat.ble 600 N=true)(f:∀ s,fenceModules? p s=some s)
  (h:∀ w a,qgL p q Xt Yf N w a=some (openGood q [],Ya w)):LeftO p q [] Xt Yf Ya N:=λw=>by
 obtain⟨⟨m,l,d,k,a⟩,i,j⟩:=yo.mp (boot_open e n f w);obtain⟨rfl,rfl,rfl,rfl⟩:m=boot_heap w.params/\l=Array.mk []/\d=boot_drawn/\k=boot_toks:=by simpa using j
 have b:=h w a;unfold qgL at b;unfold openEnds;rw[i];show(topFrom treeTable p w N _).map _=_;unfold topFrom;dsimp only;split at b
 .rename_i z
  rw[z];obtain⟨s,o,c⟩:=Option.bind_eq_some_iff.mp b;have r:=qhs o
  have g:(qgo w.params a).abs=⟨boot_heap w.params,Array.mk [],boot_drawn,boot_toks,a⟩:=by
   unfold qgo SharedT.abs;dsimp only;rw[boot_abs]
  rw[g] at r;dsimp only;rw[r];split at c
  .rename_i z2
   show((match staticsOk (importedModules p.main.body) (boot_heap w.params) s.abs.heap&&namesBound p s.abs.heap&&gensDone s.abs&&laidKept (boot_heap w.params) s.abs.heap with | true=>some s.abs | false=>none):Option Shared).map _=_;rw[z2];show c
  .cases c
 .cases b
end Hd
namespace K71
open PySem L2 PyProof.Rows PySem.W
abbrev NN:Nat:=20000
def Q:Program:=view PySem.Challenge.pw_onceroad_k71_sets_told [0,2,3,4,5,6,7,8,9,10,11,12,14,16,17,18,19,20,22,23,24,25,27,28,29,30,31,32,33,34,35,37,38,39,40,41,42,43,44,45,47,48,49,50,51,52,53,54,55,56,57,58,59,61,63,64,65,66,67,68,70,72,73,74,75,76,78,80,81,82,83,84,85,87,88,89,90,91,92,93,94,95,96,97,98,99,100,101,102,103,104,105,106,107]
noncomputable def en(P:Params)(t:Tok)(v:Value)(k:Str):DictEntry:=⟨PyData.keyHash P k,.str k t,v⟩
noncomputable def cO(t a b r:Nat)(x y z v:Value)(e u:Nat)(q n:Str):Obj:=⟨.type "code",none,.fields #[.str n t,.str q (t+1),.str "/claim/cut.py" (t+2),.int a 0,.int b 0,.int 0 0,.int 0 0,.int 3 0,.ref r,.bool true,.int 181 0,x,y,z,v,.ref e,.int u 0,.int a 0,.str "/claim/cut.py" (u+1)],#[]⟩
abbrev qLL:Str:="law_onceroad_k71_sets_told"
noncomputable def cE(t b a r:Nat)(x y z v:Value)(e u:Nat)(n:Str):Obj:=cO t b a r x y z v e u n n
noncomputable def fO(k c:Nat)(s:Stmt)(m q n:Str):Obj:=⟨.type "function",none,.func (fnOf n q (qbk s) (zD s) (qf s) .none .none .none (.str m k) none (.ref c) .none),#[]⟩
noncomputable def fE(k c:Nat)(s:Stmt)(m n:Str):Obj:=fO k c s m n n
noncomputable def Kf(P:Params):Frag:=
 (nat_lit 1,(⟨(.type "dict"),none,.dict #[en P 162 (.ref 4) "builtins",en P 163 (.ref 5) "__main__"] 2,#[]⟩:Obj)) ::
 (nat_lit 2,(⟨.none,none,.dict #[] 0,#[]⟩:Obj)) ::
 (nat_lit 3,(⟨(.type "dict"),none,.dict #[en P 165 (.str qLL 1341) "__name__",en P 166 .none "__doc__",en P 167 .none "__package__",en P 168 (.builtin "__main__.__loader__#opaque") "__loader__",en P 169 .none "__spec__",en P 170 (.ref 6) "__annotations__",en P 171 (.ref 4) "__builtins__",en P 173 (.str "/claim/cut.py" 172) "__file__",en P 174 .none "__cached__",en P 193 (.ref 21) "_wall",en P 221 (.ref 38) "OnceError",en P 246 (.ref 58) "NoName",en P 271 (.ref 77) "Twice",en P 296 (.ref 96) "NoPlace",en P 321 (.ref 115) "NoTie",en P 346 (.ref 134) "TooMany",en P 371 (.ref 153) "Odd",en P 396 (.ref 172) "NoMove",en P 419 (.ref 191) "NoBack",en P 444 (.ref 210) "NoPlayer",en P 469 (.ref 229) "NoNumbers",en P 481 (.ref 238) "are_unlike_places",en P 489 (.ref 243) "sides_of",en P 496 (.ref 250) "on_first_side",en P 505 (.ref 257) "ways_in",en P 517 (.ref 264) "spread_from",en P 523 (.ref 269) "ring_of",en P 527 (.int 6 526) "LONGEST_NAME",en P 534 (.ref 276) "is_whole",en P 543 (.ref 283) "is_within",en P 549 (.ref 288) "is_name",en P 553 (.int 14 552) "MOST_PLACES",en P 555 (.int 30 554) "MOST_TIES",en P 716 (.ref 413) "Web",en P 724 (.ref 424) "has_bit",en P 732 (.ref 431) "is_place",en P 741 (.ref 438) "are_two_places",en P 750 (.ref 445) "numbers_of",en P 762 (.ref 452) "near_of",en P 774 (.ref 459) "piece_around",en P 778 (.int 40 777) "MOST_SUMMED",en P 780 (.int 1073741823 779) "HIGHEST_SUMMED",en P 789 (.ref 466) "sum_of",en P 795 (.ref 471) "picks",en P 801 (.ref 476) "free_of",en P 807 (.ref 481) "must_be_summed",en P 814 (.ref 488) "is_summed",en P 825 (.ref 495) "steps_of",en P 834 (.ref 502) "lessened",en P 842 (.ref 507) "near_side",en P 848 (.ref 512) "far_side",en P 854 (.ref 517) "piece_with",en P 864 (.ref 524) "told_set",en P 870 (.ref 529) "even_set",en P 876 (.ref 534) "bits_beside_each",en P 882 (.ref 539) "names_at",en P 890 (.ref 546) "bit_of",en P 900 (.ref 553) "is_even",en P 910 (.ref 560) "is_odd",en P 916 (.ref 565) "sum_beside",en P 922 (.ref 570) "free_evens",en P 928 (.ref 575) "good_ties",en P 937 (.ref 582) "is_hand",en P 941 (.int 60 940) "MOST_NUMBERS",en P 969 (.ref 599) "Player",en P 993 (.ref 620) "Nearest",en P 1029 (.ref 646) "Numbered",en P 1036 (.ref 655) "first_of",en P 1042 (.ref 660) "are_numbers",en P 1139 (.ref 740) "Walk",en P 1152 (.ref 751) "match",en P 1159 (.ref 758) "must_be_player",en P 1169 (.ref 765) "lead",en P 1180 (.ref 772) "answers_within",en P 1186 (.ref 777) "ways_on",en P 1255 (.ref 830) "Road",en P 1259 (.int 10 1258) "MOST_TIES_LEFT",en P 1290 (.ref 854) "Evener",en P 1314 (.ref 873) "Keen",en P 1320 (.ref 880) "are_names",en P 1331 (.ref 887) "road_led",en P 1340 (.ref 894) "road_answers",en P 1350 (.ref 901) "_law_cell_at",en P 1360 (.ref 908) "_law_box",en P 1369 (.ref 915) "_law_take",en P 1385 (.ref 922) "_law_names",en P 1391 (.ref 927) "_law_drawn",en P 1397 (.ref 932) "_law_web",en P 1403 (.ref 937) "_law_beside",en P 1415 (.ref 944) "_law_sides",en P 1421 (.ref 949) "_law_near",en P 1427 (.ref 954) "_law_far",en P 1433 (.ref 959) "_law_often",en P 1439 (.ref 964) "_law_is_even",en P 1445 (.ref 969) "_law_is_odd",en P 1451 (.ref 974) "_law_two_sided",en P 1460 (.ref 981) "_law_door",en P 1466 (.ref 986) "_law_ring",en P 1479 (.ref 993) "_law_refused_odd",en P 1485 (.ref 998) "_law_keen_refused",en P 1496 (.ref 1005) "_law_no_place",en P 1502 (.ref 1010) "_law_right",en P 1508 (.ref 1015) "law"] 103,#[]⟩:Obj)) ::
 (nat_lit 34,cO 208 7 2 29 (.ref 30) .none (.ref 31) (.ref 32) 33 213 "OnceError.__init__" "__init__") ::
 (nat_lit 35,fO 194 34 jZ "onceroad.errors" "OnceError.__init__" "__init__") ::
 (nat_lit 37,(⟨(.type "dict"),none,.dict #[en P 203 (.str "onceroad.errors" 194) "__module__",en P 207 (.int 5 206) "__firstlineno__",en P 215 (.ref 35) "__init__",en P 216 (.ref 36) "__static_attributes__",en P 218 (.ref 39) "__weakref__",en P 219 .none "__doc__"] 3,#[]⟩:Obj)) ::
 (nat_lit 38,(⟨(.type "type"),none,.cls { name:="OnceError",bases:=[(.type "ValueError")],mro:=[(.ref 38),(.type "ValueError"),(.type "Exception"),(.type "BaseException"),(.type "object")],ns:=37,qualname:="OnceError",hasDict:=true,slotNames:=[],subclasses:=[(.ref 58),(.ref 77),(.ref 96),(.ref 115),(.ref 134),(.ref 153),(.ref 172),(.ref 191),(.ref 210),(.ref 229)],abstract:=false,collection:=none,hasDel:=false },#[(some (.ref 22)),none,(some (.str "OnceError" 196)),(some (.str "OnceError" 204)),(some (.builtin "ValueError.__new__")),(some (.bool true))]⟩:Obj)) ::
 (nat_lit 92,cO 284 21 2 87 (.ref 88) .none (.ref 89) (.ref 90) 91 289 "NoPlace.__init__" "__init__") ::
 (nat_lit 93,fO 194 92 zo "onceroad.errors" "NoPlace.__init__" "__init__") ::
 (nat_lit 95,(⟨(.type "dict"),none,.dict #[en P 279 (.str "onceroad.errors" 194) "__module__",en P 283 (.int 19 282) "__firstlineno__",en P 291 (.ref 93) "__init__",en P 293 (.ref 94) "__static_attributes__",en P 294 .none "__doc__"] 2,#[]⟩:Obj)) ::
 (nat_lit 96,(⟨(.type "type"),none,.cls { name:="NoPlace",bases:=[(.ref 38)],mro:=[(.ref 96),(.ref 38),(.type "ValueError"),(.type "Exception"),(.type "BaseException"),(.type "object")],ns:=95,qualname:="NoPlace",hasDict:=true,slotNames:=[],subclasses:=[],abstract:=false,collection:=none,hasDel:=false },#[(some (.ref 80)),none,(some (.str "NoPlace" 272)),(some (.str "NoPlace" 280)),(some (.builtin "ValueError.__new__")),(some (.bool true))]⟩:Obj)) ::
 (nat_lit 114,(⟨(.type "dict"),none,.dict #[en P 304 (.str "onceroad.errors" 194) "__module__",en P 308 (.int 24 307) "__firstlineno__",en P 316 (.ref 112) "__init__",en P 318 (.ref 113) "__static_attributes__",en P 319 .none "__doc__"] 2,#[]⟩:Obj)) ::
 (nat_lit 115,(⟨(.type "type"),none,.cls { name:="NoTie",bases:=[(.ref 38)],mro:=[(.ref 115),(.ref 38),(.type "ValueError"),(.type "Exception"),(.type "BaseException"),(.type "object")],ns:=114,qualname:="NoTie",hasDict:=true,slotNames:=[],subclasses:=[],abstract:=false,collection:=none,hasDel:=false },#[(some (.ref 99)),none,(some (.str "NoTie" 297)),(some (.str "NoTie" 305)),(some (.builtin "ValueError.__new__")),(some (.bool true))]⟩:Obj)) ::
 (nat_lit 130,cO 334 31 2 125 (.ref 126) .none (.ref 127) (.ref 128) 129 339 "TooMany.__init__" "__init__") ::
 (nat_lit 131,fO 194 130 zq "onceroad.errors" "TooMany.__init__" "__init__") ::
 (nat_lit 133,(⟨(.type "dict"),none,.dict #[en P 329 (.str "onceroad.errors" 194) "__module__",en P 333 (.int 29 332) "__firstlineno__",en P 341 (.ref 131) "__init__",en P 343 (.ref 132) "__static_attributes__",en P 344 .none "__doc__"] 2,#[]⟩:Obj)) ::
 (nat_lit 134,(⟨(.type "type"),none,.cls { name:="TooMany",bases:=[(.ref 38)],mro:=[(.ref 134),(.ref 38),(.type "ValueError"),(.type "Exception"),(.type "BaseException"),(.type "object")],ns:=133,qualname:="TooMany",hasDict:=true,slotNames:=[],subclasses:=[],abstract:=false,collection:=none,hasDel:=false },#[(some (.ref 118)),none,(some (.str "TooMany" 322)),(some (.str "TooMany" 330)),(some (.builtin "ValueError.__new__")),(some (.bool true))]⟩:Obj)) ::
 (nat_lit 149,cO 359 36 2 144 (.ref 145) .none (.ref 146) (.ref 147) 148 364 "Odd.__init__" "__init__") ::
 (nat_lit 150,fO 194 149 qa3 "onceroad.errors" "Odd.__init__" "__init__") ::
 (nat_lit 152,(⟨(.type "dict"),none,.dict #[en P 354 (.str "onceroad.errors" 194) "__module__",en P 358 (.int 34 357) "__firstlineno__",en P 366 (.ref 150) "__init__",en P 368 (.ref 151) "__static_attributes__",en P 369 .none "__doc__"] 2,#[]⟩:Obj)) ::
 (nat_lit 153,(⟨(.type "type"),none,.cls { name:="Odd",bases:=[(.ref 38)],mro:=[(.ref 153),(.ref 38),(.type "ValueError"),(.type "Exception"),(.type "BaseException"),(.type "object")],ns:=152,qualname:="Odd",hasDict:=true,slotNames:=[],subclasses:=[],abstract:=false,collection:=none,hasDel:=false },#[(some (.ref 137)),none,(some (.str "Odd" 347)),(some (.str "Odd" 355)),(some (.builtin "ValueError.__new__")),(some (.bool true))]⟩:Obj)) ::
 (nat_lit 237,cE 472 59 2 232 (.ref 233) .none (.ref 234) (.ref 235) 236 479 "are_unlike_places") ::
 (nat_lit 238,fE 470 237 ju "onceroad.rows" "are_unlike_places") ::
 (nat_lit 242,cE 484 69 1 239 (.ref 240) .none .none .none 241 487 "sides_of") ::
 (nat_lit 243,fE 482 242 jO "onceroad.sides" "sides_of") ::
 (nat_lit 249,cE 490 77 1 244 (.ref 245) .none (.ref 246) (.ref 247) 248 494 "on_first_side") ::
 (nat_lit 250,fE 482 249 zd "onceroad.sides" "on_first_side") ::
 (nat_lit 256,cE 497 79 1 251 (.ref 252) .none (.ref 253) (.ref 254) 255 503 "ways_in") ::
 (nat_lit 257,fE 482 256 qbL "onceroad.sides" "ways_in") ::
 (nat_lit 263,cE 506 86 3 258 (.ref 259) .none (.ref 260) (.ref 261) 262 515 "spread_from") ::
 (nat_lit 264,fE 482 263 zE "onceroad.sides" "spread_from") ::
 (nat_lit 268,cE 518 94 2 265 (.ref 266) .none .none .none 267 521 "ring_of") ::
 (nat_lit 269,fE 482 268 qaR "onceroad.sides" "ring_of") ::
 (nat_lit 275,cE 528 99 1 270 (.ref 271) .none (.ref 272) (.ref 273) 274 532 "is_whole") ::
 (nat_lit 276,fE 524 275 qa6 "onceroad.names" "is_whole") ::
 (nat_lit 282,cE 535 101 3 277 (.ref 278) .none (.ref 279) (.ref 280) 281 541 "is_within") ::
 (nat_lit 283,fE 524 282 qaE "onceroad.names" "is_within") ::
 (nat_lit 287,cE 544 103 1 284 (.ref 285) .none .none .none 286 547 "is_name") ::
 (nat_lit 288,fE 524 287 zN "onceroad.names" "is_name") ::
 (nat_lit 301,cO 568 112 3 296 (.ref 297) .none (.ref 298) (.ref 299) 300 574 "Web.__init__" "__init__") ::
 (nat_lit 302,fO 550 301 qa4 "onceroad.webs" "Web.__init__" "__init__") ::
 (nat_lit 308,cO 577 117 1 303 (.ref 304) .none (.ref 305) (.ref 306) 307 581 "Web.places" "places") ::
 (nat_lit 309,fO 550 308 zY "onceroad.webs" "Web.places" "places") ::
 (nat_lit 315,cO 584 120 1 310 (.ref 311) .none (.ref 312) (.ref 313) 314 591 "Web.ties" "ties") ::
 (nat_lit 316,fO 550 315 qa5 "onceroad.webs" "Web.ties" "ties") ::
 (nat_lit 329,cO 601 131 2 324 (.ref 325) .none (.ref 326) (.ref 327) 328 606 "Web.has_place" "has_place") ::
 (nat_lit 330,fO 550 329 jK "onceroad.webs" "Web.has_place" "has_place") ::
 (nat_lit 343,cO 617 137 2 338 (.ref 339) .none (.ref 340) (.ref 341) 342 622 "Web.number_of" "number_of") ::
 (nat_lit 344,fO 550 343 jL "onceroad.webs" "Web.number_of" "number_of") ::
 (nat_lit 350,cO 625 142 2 345 (.ref 346) .none (.ref 347) (.ref 348) 349 630 "Web.beside" "beside") ::
 (nat_lit 351,fO 550 350 zZ "onceroad.webs" "Web.beside" "beside") ::
 (nat_lit 357,cO 633 145 2 352 (.ref 353) .none (.ref 354) (.ref 355) 356 638 "Web.bits_beside" "bits_beside") ::
 (nat_lit 358,fO 550 357 jN "onceroad.webs" "Web.bits_beside" "bits_beside") ::
 (nat_lit 371,cO 651 152 1 366 (.ref 367) .none (.ref 368) (.ref 369) 370 659 "Web.pieces" "pieces") ::
 (nat_lit 372,fO 550 371 qaa "onceroad.webs" "Web.pieces" "pieces") ::
 (nat_lit 378,cO 662 162 1 373 (.ref 374) .none (.ref 375) (.ref 376) 377 666 "Web.told" "told") ::
 (nat_lit 379,fO 550 378 qbf "onceroad.webs" "Web.told" "told") ::
 (nat_lit 383,cO 669 165 2 380 (.ref 381) .none .none .none 382 672 "Web.names_in" "names_in") ::
 (nat_lit 384,fO 550 383 jW "onceroad.webs" "Web.names_in" "names_in") ::
 (nat_lit 412,(⟨(.type "dict"),none,.dict #[en P 563 (.str "onceroad.webs" 550) "__module__",en P 567 (.int 110 566) "__firstlineno__",en P 576 (.ref 302) "__init__",en P 583 (.ref 309) "places",en P 593 (.ref 316) "ties",en P 600 (.ref 323) "how_many",en P 608 (.ref 330) "has_place",en P 616 (.ref 337) "has_tie",en P 624 (.ref 344) "number_of",en P 632 (.ref 351) "beside",en P 640 (.ref 358) "bits_beside",en P 650 (.ref 365) "tied",en P 661 (.ref 372) "pieces",en P 668 (.ref 379) "told",en P 674 (.ref 384) "names_in",en P 682 (.ref 391) "without",en P 690 (.ref 398) "with_place",en P 699 (.ref 405) "with_tie",en P 705 (.ref 410) "without_tie",en P 709 (.ref 411) "__static_attributes__",en P 711 (.ref 414) "__dict__",en P 713 (.ref 415) "__weakref__",en P 714 .none "__doc__"] 4,#[]⟩:Obj)) ::
 (nat_lit 413,(⟨(.type "type"),none,.cls { name:="Web",bases:=[(.type "object")],mro:=[(.ref 413),(.type "object")],ns:=412,qualname:="Web",hasDict:=true,slotNames:=[],subclasses:=[],abstract:=false,collection:=none,hasDel:=false },#[none,none,(some (.str "Web" 556)),(some (.str "Web" 564)),(some (.builtin "object.__new__")),(some (.bool true))]⟩:Obj)) ::
 (nat_lit 423,cE 717 182 2 418 (.ref 419) .none (.ref 420) (.ref 421) 422 722 "has_bit") ::
 (nat_lit 424,fE 550 423 qbF "onceroad.webs" "has_bit") ::
 (nat_lit 430,cE 725 184 2 425 (.ref 426) .none (.ref 427) (.ref 428) 429 730 "is_place") ::
 (nat_lit 431,fE 550 430 qao "onceroad.webs" "is_place") ::
 (nat_lit 437,cE 733 186 2 432 (.ref 433) .none (.ref 434) (.ref 435) 436 739 "are_two_places") ::
 (nat_lit 438,fE 550 437 j0 "onceroad.webs" "are_two_places") ::
 (nat_lit 444,cE 742 191 1 439 (.ref 440) .none (.ref 441) (.ref 442) 443 748 "numbers_of") ::
 (nat_lit 445,fE 550 444 zX "onceroad.webs" "numbers_of") ::
 (nat_lit 451,cE 751 204 2 446 (.ref 447) .none (.ref 448) (.ref 449) 450 760 "near_of") ::
 (nat_lit 452,fE 550 451 qbH "onceroad.webs" "near_of") ::
 (nat_lit 458,cE 763 220 2 453 (.ref 454) .none (.ref 455) (.ref 456) 457 772 "piece_around") ::
 (nat_lit 459,fE 550 458 zr "onceroad.webs" "piece_around") ::
 (nat_lit 465,cE 781 232 1 460 (.ref 461) .none (.ref 462) (.ref 463) 464 787 "sum_of") ::
 (nat_lit 466,fE 775 465 qcs "onceroad.sums" "sum_of") ::
 (nat_lit 470,cE 790 237 2 467 (.ref 468) .none .none .none 469 793 "picks") ::
 (nat_lit 471,fE 775 470 qcJ "onceroad.sums" "picks") ::
 (nat_lit 480,cE 802 248 1 477 (.ref 478) .none .none .none 479 805 "must_be_summed") ::
 (nat_lit 481,fE 775 480 jB "onceroad.sums" "must_be_summed") ::
 (nat_lit 487,cE 808 251 1 482 (.ref 483) .none (.ref 484) (.ref 485) 486 812 "is_summed") ::
 (nat_lit 488,fE 775 487 qaF "onceroad.sums" "is_summed") ::
 (nat_lit 494,cE 815 253 1 489 (.ref 490) .none (.ref 491) (.ref 492) 493 823 "steps_of") ::
 (nat_lit 495,fE 775 494 qa7 "onceroad.sums" "steps_of") ::
 (nat_lit 501,cE 826 260 2 496 (.ref 497) .none (.ref 498) (.ref 499) 500 832 "lessened") ::
 (nat_lit 502,fE 775 501 qa8 "onceroad.sums" "lessened") ::
 (nat_lit 506,cE 837 266 2 503 (.ref 504) .none .none .none 505 840 "near_side") ::
 (nat_lit 507,fE 835 506 zm "onceroad.evens" "near_side") ::
 (nat_lit 511,cE 843 271 2 508 (.ref 509) .none .none .none 510 846 "far_side") ::
 (nat_lit 512,fE 835 511 zH "onceroad.evens" "far_side") ::
 (nat_lit 516,cE 849 274 2 513 (.ref 514) .none .none .none 515 852 "piece_with") ::
 (nat_lit 517,fE 835 516 zA "onceroad.evens" "piece_with") ::
 (nat_lit 523,cE 855 276 2 518 (.ref 519) .none (.ref 520) (.ref 521) 522 862 "told_set") ::
 (nat_lit 524,fE 835 523 qas "onceroad.evens" "told_set") ::
 (nat_lit 528,cE 865 282 2 525 (.ref 526) .none .none .none 527 868 "even_set") ::
 (nat_lit 529,fE 835 528 zn "onceroad.evens" "even_set") ::
 (nat_lit 533,cE 871 290 2 530 (.ref 531) .none .none .none 532 874 "bits_beside_each") ::
 (nat_lit 534,fE 835 533 jg "onceroad.evens" "bits_beside_each") ::
 (nat_lit 538,cE 877 292 2 535 (.ref 536) .none .none .none 537 880 "names_at") ::
 (nat_lit 539,fE 835 538 qar "onceroad.evens" "names_at") ::
 (nat_lit 545,cE 883 294 2 540 (.ref 541) .none (.ref 542) (.ref 543) 544 888 "bit_of") ::
 (nat_lit 546,fE 835 545 qcr "onceroad.evens" "bit_of") ::
 (nat_lit 552,cE 891 296 3 547 (.ref 548) .none (.ref 549) (.ref 550) 551 898 "is_even") ::
 (nat_lit 553,fE 835 552 qaW "onceroad.evens" "is_even") ::
 (nat_lit 559,cE 901 299 3 554 (.ref 555) .none (.ref 556) (.ref 557) 558 908 "is_odd") ::
 (nat_lit 560,fE 835 559 qbP "onceroad.evens" "is_odd") ::
 (nat_lit 564,cE 911 302 3 561 (.ref 562) .none .none .none 563 914 "sum_beside") ::
 (nat_lit 565,fE 835 564 zB "onceroad.evens" "sum_beside") ::
 (nat_lit 569,cE 917 306 2 566 (.ref 567) .none .none .none 568 920 "free_evens") ::
 (nat_lit 570,fE 835 569 qab "onceroad.evens" "free_evens") ::
 (nat_lit 574,cE 923 312 2 571 (.ref 572) .none .none .none 573 926 "good_ties") ::
 (nat_lit 575,fE 835 574 qaI "onceroad.evens" "good_ties") ::
 (nat_lit 581,cE 931 316 1 576 (.ref 577) .none (.ref 578) (.ref 579) 580 935 "is_hand") ::
 (nat_lit 582,fE 929 581 qbR "onceroad.wins" "is_hand") ::
 (nat_lit 598,(⟨(.type "dict"),none,.dict #[en P 949 (.str "onceroad.players" 938) "__module__",en P 953 (.int 320 952) "__firstlineno__",en P 961 (.ref 596) "choose",en P 962 (.ref 597) "__static_attributes__",en P 964 (.ref 600) "__dict__",en P 966 (.ref 601) "__weakref__",en P 967 .none "__doc__"] 4,#[]⟩:Obj)) ::
 (nat_lit 599,(⟨(.type "type"),none,.cls { name:="Player",bases:=[(.type "object")],mro:=[(.ref 599),(.type "object")],ns:=598,qualname:="Player",hasDict:=true,slotNames:=[],subclasses:=[(.ref 620),(.ref 646),(.ref 854),(.ref 873)],abstract:=false,collection:=none,hasDel:=false },#[none,none,(some (.str "Player" 942)),(some (.str "Player" 950)),(some (.builtin "object.__new__")),(some (.bool true))]⟩:Obj)) ::
 (nat_lit 616,cO 982 326 2 611 (.ref 612) .none (.ref 613) (.ref 614) 615 987 "Nearest.choose" "choose") ::
 (nat_lit 617,fO 938 616 j4 "onceroad.players" "Nearest.choose" "choose") ::
 (nat_lit 619,(⟨(.type "dict"),none,.dict #[en P 977 (.str "onceroad.players" 938) "__module__",en P 981 (.int 324 980) "__firstlineno__",en P 989 (.ref 617) "choose",en P 990 (.ref 618) "__static_attributes__",en P 991 .none "__doc__"] 2,#[]⟩:Obj)) ::
 (nat_lit 620,(⟨(.type "type"),none,.cls { name:="Nearest",bases:=[(.ref 599)],mro:=[(.ref 620),(.ref 599),(.type "object")],ns:=619,qualname:="Nearest",hasDict:=true,slotNames:=[],subclasses:=[],abstract:=false,collection:=none,hasDel:=false },#[(some (.ref 604)),none,(some (.str "Nearest" 970)),(some (.str "Nearest" 978)),(some (.builtin "object.__new__")),(some (.bool true))]⟩:Obj)) ::
 (nat_lit 654,cE 1030 342 1 649 (.ref 650) .none (.ref 651) (.ref 652) 653 1034 "first_of") ::
 (nat_lit 655,fE 938 654 qbd "onceroad.players" "first_of") ::
 (nat_lit 673,cO 1057 351 3 668 (.ref 669) .none (.ref 670) (.ref 671) 672 1063 "Walk.__init__" "__init__") ::
 (nat_lit 674,fO 1043 673 qaJ "onceroad.walks" "Walk.__init__" "__init__") ::
 (nat_lit 687,cO 1073 360 1 682 (.ref 683) .none (.ref 684) (.ref 685) 686 1077 "Walk.stands_at" "stands_at") ::
 (nat_lit 688,fO 1043 687 j3 "onceroad.walks" "Walk.stands_at" "stands_at") ::
 (nat_lit 694,cO 1080 363 1 689 (.ref 690) .none (.ref 691) (.ref 692) 693 1084 "Walk.gone" "gone") ::
 (nat_lit 695,fO 1043 694 qaK "onceroad.walks" "Walk.gone" "gone") ::
 (nat_lit 708,cO 1094 369 1 703 (.ref 704) .none (.ref 705) (.ref 706) 707 1098 "Walk.hand" "hand") ::
 (nat_lit 709,fO 1043 708 qaL "onceroad.walks" "Walk.hand" "hand") ::
 (nat_lit 715,cO 1101 372 1 710 (.ref 711) .none (.ref 712) (.ref 713) 714 1105 "Walk.ended" "ended") ::
 (nat_lit 716,fO 1043 715 qad "onceroad.walks" "Walk.ended" "ended") ::
 (nat_lit 722,cO 1108 375 1 717 (.ref 718) .none (.ref 719) (.ref 720) 721 1112 "Walk.loser" "loser") ::
 (nat_lit 723,fO 1043 722 qae "onceroad.walks" "Walk.loser" "loser") ::
 (nat_lit 729,cO 1115 378 2 724 (.ref 725) .none (.ref 726) (.ref 727) 728 1120 "Walk.move_to" "move_to") ::
 (nat_lit 730,fO 1043 729 zt "onceroad.walks" "Walk.move_to" "move_to") ::
 (nat_lit 739,(⟨(.type "dict"),none,.dict #[en P 1052 (.str "onceroad.walks" 1043) "__module__",en P 1056 (.int 349 1055) "__firstlineno__",en P 1065 (.ref 674) "__init__",en P 1072 (.ref 681) "web",en P 1079 (.ref 688) "stands_at",en P 1086 (.ref 695) "gone",en P 1093 (.ref 702) "moves",en P 1100 (.ref 709) "hand",en P 1107 (.ref 716) "ended",en P 1114 (.ref 723) "loser",en P 1122 (.ref 730) "move_to",en P 1129 (.ref 737) "back",en P 1132 (.ref 738) "__static_attributes__",en P 1134 (.ref 741) "__dict__",en P 1136 (.ref 742) "__weakref__",en P 1137 .none "__doc__"] 4,#[]⟩:Obj)) ::
 (nat_lit 740,(⟨(.type "type"),none,.cls { name:="Walk",bases:=[(.type "object")],mro:=[(.ref 740),(.type "object")],ns:=739,qualname:="Walk",hasDict:=true,slotNames:=[],subclasses:=[(.ref 830)],abstract:=false,collection:=none,hasDel:=false },#[none,none,(some (.str "Walk" 1045)),(some (.str "Walk" 1053)),(some (.builtin "object.__new__")),(some (.bool true))]⟩:Obj)) ::
 (nat_lit 750,cE 1142 388 3 745 (.ref 746) .none (.ref 747) (.ref 748) 749 1150 "match") ::
 (nat_lit 751,fE 1140 750 qdx "onceroad.matches" "match") ::
 (nat_lit 757,cE 1153 396 1 752 (.ref 753) .none (.ref 754) (.ref 755) 756 1157 "must_be_player") ::
 (nat_lit 758,fE 1140 757 j5 "onceroad.matches" "must_be_player") ::
 (nat_lit 771,cE 1170 404 5 766 (.ref 767) .none (.ref 768) (.ref 769) 770 1178 "answers_within") ::
 (nat_lit 772,fE 1140 771 j6 "onceroad.matches" "answers_within") ::
 (nat_lit 776,cE 1181 411 3 773 (.ref 774) .none .none .none 775 1184 "ways_on") ::
 (nat_lit 777,fE 1140 776 qbS "onceroad.matches" "ways_on") ::
 (nat_lit 788,cO 1201 424 1 785 (.ref 786) .none .none .none 787 1204 "Road.ties_gone" "ties_gone") ::
 (nat_lit 789,fO 1187 788 jC "onceroad.roads" "Road.ties_gone" "ties_gone") ::
 (nat_lit 793,cO 1207 427 1 790 (.ref 791) .none .none .none 792 1210 "Road.ties_left" "ties_left") ::
 (nat_lit 794,fO 1187 793 jD "onceroad.roads" "Road.ties_left" "ties_left") ::
 (nat_lit 798,cO 1213 431 1 795 (.ref 796) .none .none .none 797 1216 "Road.moves" "moves") ::
 (nat_lit 799,fO 1187 798 zC "onceroad.roads" "Road.moves" "moves") ::
 (nat_lit 805,cO 1219 436 3 800 (.ref 801) .none (.ref 802) (.ref 803) 804 1226 "Road.tie_between" "tie_between") ::
 (nat_lit 806,fO 1187 805 jH "onceroad.roads" "Road.tie_between" "tie_between") ::
 (nat_lit 812,cO 1229 440 2 807 (.ref 808) .none (.ref 809) (.ref 810) 811 1234 "Road.go" "go") ::
 (nat_lit 813,fO 1187 812 qbQ "onceroad.roads" "Road.go" "go") ::
 (nat_lit 819,cO 1237 443 1 814 (.ref 815) .none (.ref 816) (.ref 817) 818 1241 "Road.web_left" "web_left") ::
 (nat_lit 820,fO 1187 819 zg "onceroad.roads" "Road.web_left" "web_left") ::
 (nat_lit 826,cO 1244 446 1 821 (.ref 822) .none (.ref 823) (.ref 824) 825 1249 "Road.twin" "twin") ::
 (nat_lit 827,fO 1187 826 qaM "onceroad.roads" "Road.twin" "twin") ::
 (nat_lit 829,(⟨(.type "dict"),none,.dict #[en P 1196 (.str "onceroad.roads" 1187) "__module__",en P 1200 (.int 422 1199) "__firstlineno__",en P 1206 (.ref 789) "ties_gone",en P 1212 (.ref 794) "ties_left",en P 1218 (.ref 799) "moves",en P 1228 (.ref 806) "tie_between",en P 1236 (.ref 813) "go",en P 1243 (.ref 820) "web_left",en P 1251 (.ref 827) "twin",en P 1252 (.ref 828) "__static_attributes__",en P 1253 .none "__doc__"] 2,#[]⟩:Obj)) ::
 (nat_lit 830,(⟨(.type "type"),none,.cls { name:="Road",bases:=[(.ref 740)],mro:=[(.ref 830),(.ref 740),(.type "object")],ns:=829,qualname:="Road",hasDict:=true,slotNames:=[],subclasses:=[],abstract:=false,collection:=none,hasDel:=false },#[(some (.ref 778)),none,(some (.str "Road" 1189)),(some (.str "Road" 1197)),(some (.builtin "object.__new__")),(some (.bool true))]⟩:Obj)) ::
 (nat_lit 869,cO 1303 464 2 864 (.ref 865) .none (.ref 866) (.ref 867) 868 1308 "Keen.choose" "choose") ::
 (nat_lit 870,fO 1256 869 zF "onceroad.eveners" "Keen.choose" "choose") ::
 (nat_lit 872,(⟨(.type "dict"),none,.dict #[en P 1298 (.str "onceroad.eveners" 1256) "__module__",en P 1302 (.int 462 1301) "__firstlineno__",en P 1310 (.ref 870) "choose",en P 1311 (.ref 871) "__static_attributes__",en P 1312 .none "__doc__"] 2,#[]⟩:Obj)) ::
 (nat_lit 873,(⟨(.type "type"),none,.cls { name:="Keen",bases:=[(.ref 599)],mro:=[(.ref 873),(.ref 599),(.type "object")],ns:=872,qualname:="Keen",hasDict:=true,slotNames:=[],subclasses:=[],abstract:=false,collection:=none,hasDel:=false },#[(some (.ref 857)),none,(some (.str "Keen" 1291)),(some (.str "Keen" 1299)),(some (.builtin "object.__new__")),(some (.bool true))]⟩:Obj)) ::
 (nat_lit 886,cE 1321 468 3 881 (.ref 882) .none (.ref 883) (.ref 884) 885 1329 "road_led") ::
 (nat_lit 887,fE 1256 886 qbb "onceroad.eveners" "road_led") ::
 (nat_lit 893,cE 1332 473 3 888 (.ref 889) .none (.ref 890) (.ref 891) 892 1338 "road_answers") ::
 (nat_lit 894,fE 1256 893 zu "onceroad.eveners" "road_answers") ::
 (nat_lit 900,cE 1343 476 2 895 (.ref 896) .none (.ref 897) (.ref 898) 899 1348 "_law_cell_at") ::
 (nat_lit 901,fE 1341 900 qaG qLL "_law_cell_at") ::
 (nat_lit 907,cE 1351 480 1 902 (.ref 903) .none (.ref 904) (.ref 905) 906 1358 "_law_box") ::
 (nat_lit 908,fE 1341 907 qdo qLL "_law_box") ::
 (nat_lit 914,cE 1361 489 2 909 (.ref 910) .none (.ref 911) (.ref 912) 913 1367 "_law_take") ::
 (nat_lit 915,fE 1341 914 qcq qLL "_law_take") ::
 (nat_lit 921,cE 1370 493 2 916 (.ref 917) .none (.ref 918) (.ref 919) 920 1383 "_law_names") ::
 (nat_lit 922,fE 1341 921 jp qLL "_law_names") ::
 (nat_lit 926,cE 1386 511 2 923 (.ref 924) .none .none .none 925 1389 "_law_drawn") ::
 (nat_lit 927,fE 1341 926 qaS qLL "_law_drawn") ::
 (nat_lit 931,cE 1392 526 2 928 (.ref 929) .none .none .none 930 1395 "_law_web") ::
 (nat_lit 932,fE 1341 931 qb6 qLL "_law_web") ::
 (nat_lit 936,cE 1398 532 2 933 (.ref 934) .none .none .none 935 1401 "_law_beside") ::
 (nat_lit 937,fE 1341 936 qaq qLL "_law_beside") ::
 (nat_lit 943,cE 1404 534 2 938 (.ref 939) .none (.ref 940) (.ref 941) 942 1413 "_law_sides") ::
 (nat_lit 944,fE 1341 943 qbM qLL "_law_sides") ::
 (nat_lit 948,cE 1416 544 2 945 (.ref 946) .none .none .none 947 1419 "_law_near") ::
 (nat_lit 949,fE 1341 948 qbN qLL "_law_near") ::
 (nat_lit 953,cE 1422 547 2 950 (.ref 951) .none .none .none 952 1425 "_law_far") ::
 (nat_lit 954,fE 1341 953 qcN qLL "_law_far") ::
 (nat_lit 958,cE 1428 550 3 955 (.ref 956) .none .none .none 957 1431 "_law_often") ::
 (nat_lit 959,fE 1341 958 qaU qLL "_law_often") ::
 (nat_lit 963,cE 1434 552 4 960 (.ref 961) .none .none .none 962 1437 "_law_is_even") ::
 (nat_lit 964,fE 1341 963 jM qLL "_law_is_even") ::
 (nat_lit 968,cE 1440 560 4 965 (.ref 966) .none .none .none 967 1443 "_law_is_odd") ::
 (nat_lit 969,fE 1341 968 j9 qLL "_law_is_odd") ::
 (nat_lit 973,cE 1446 568 2 970 (.ref 971) .none .none .none 972 1449 "_law_two_sided") ::
 (nat_lit 974,fE 1341 973 ze qLL "_law_two_sided") ::
 (nat_lit 980,cE 1452 574 3 975 (.ref 976) .none (.ref 977) (.ref 978) 979 1458 "_law_door") ::
 (nat_lit 981,fE 1341 980 qct qLL "_law_door") ::
 (nat_lit 985,cE 1461 586 3 982 (.ref 983) .none .none .none 984 1464 "_law_ring") ::
 (nat_lit 986,fE 1341 985 qbc qLL "_law_ring") ::
 (nat_lit 992,cE 1467 596 4 987 (.ref 988) .none (.ref 989) (.ref 990) 991 1477 "_law_refused_odd") ::
 (nat_lit 993,fE 1341 992 zf qLL "_law_refused_odd") ::
 (nat_lit 997,cE 1480 609 4 994 (.ref 995) .none .none .none 996 1483 "_law_keen_refused") ::
 (nat_lit 998,fE 1341 997 jE qLL "_law_keen_refused") ::
 (nat_lit 1004,cE 1486 636 2 999 (.ref 1000) .none (.ref 1001) (.ref 1002) 1003 1494 "_law_no_place") ::
 (nat_lit 1005,fE 1341 1004 qac qLL "_law_no_place") ::
 (nat_lit 1009,cE 1497 648 4 1006 (.ref 1007) .none .none .none 1008 1500 "_law_right") ::
 (nat_lit 1010,fE 1341 1009 qat qLL "_law_right") ::
 (nat_lit 1014,cE 1503 665 1 1011 (.ref 1012) .none .none .none 1013 1506 "law") ::
 (nat_lit 1015,fE 1341 1014 qbr qLL "law") ::
 []
noncomputable def ks:LI:=[1,2,3,34,35,37,38,92,93,95,96,114,115,130,131,133,134,149,150,152,153,237,238,242,243,249,250,256,257,263,264,268,269,275,276,282,283,287,288,301,302,308,309,315,316,329,330,343,344,350,351,357,358,371,372,378,379,383,384,412,413,423,424,430,431,437,438,444,445,451,452,458,459,465,466,470,471,480,481,487,488,494,495,501,502,506,507,511,512,516,517,523,524,528,529,533,534,538,539,545,546,552,553,559,560,564,565,569,570,574,575,581,582,598,599,616,617,619,620,654,655,673,674,687,688,694,695,708,709,715,716,722,723,729,730,739,740,750,751,757,758,771,772,776,777,788,789,793,794,798,799,805,806,812,813,819,820,826,827,829,830,869,870,872,873,886,887,893,894,900,901,907,908,914,915,921,922,926,927,931,932,936,937,943,944,948,949,953,954,958,959,963,964,968,969,973,974,980,981,985,986,992,993,997,998,1004,1005,1009,1010,1014,1015]
theorem ks_eq:∀ P,ks=(Kf P).map (·.1):=λP=>by kernel_rfl
abbrev Hk:Hook:=kHook Kf ks ks_eq
abbrev Xt(s:Shared):Bool:=xlAt Q [] s&&recOk [] s
noncomputable section
variable(w:World)(a:OsState)
def runA:=(Hd.lookR Challenge.pw_onceroad_k71_sets_told NN w a).map λs=>(staticsOk (importedModules Challenge.pw_onceroad_k71_sets_told.main.body) (boot_heap w.params) s.heap&&namesBound Challenge.pw_onceroad_k71_sets_told s.heap&&gensDone s&&laidKept (boot_heap w.params) s.heap,seen [] (ownsOf Q) [] { s with gens:=#[] })
def runE:=(Hd.lookR Challenge.pw_onceroad_k71_sets_told NN w a).map λs=>(((recsOf Q).map (·.name)).take 36).map (s.heap.shapeAt mainGlobals)
def runF:=(Hd.lookR Challenge.pw_onceroad_k71_sets_told NN w a).map λs=>(((recsOf Q).map (·.name)).drop 36).map (s.heap.shapeAt mainGlobals)
def runB:=(Hd.lookR Challenge.pw_onceroad_k71_sets_told NN w a).map λs=>(s.heap.bltView,s.heap.keysOk (looseW Q []) ((recsOf Q).map (·.name)) ((litsOf Q).map (·.1)) ((clssOf Q (looseW Q [])).map (·.name))&&s.heap.accountedOkI (importedModules Challenge.pw_onceroad_k71_sets_told.main.body)&&s.heap.isNs mainGlobals&&s.heap.isNs builtinsNs&&tablesOk Q s.heap&&Xt s&&(if true then s.gens.size==0 else !leftWithCleanup s.gens))
def runG:=(Hd.lookR Challenge.pw_onceroad_k71_sets_told NN w a).map (tabsOk Q)
def runD:=(Hd.lookR Challenge.pw_onceroad_k71_sets_told NN w a).map λs=>(pinSeenD Q (drecsOf Q) s,plainSeenE Q (looseW Q []) s,plainSeenD Q [] s,wideSeen Q s,clsSeenW Q [] s)
def runC:=(Hd.lookR Challenge.pw_onceroad_k71_sets_told NN w a).map λs=>ks.map s.heap.get?
def gdA(_:World)(_:OsState):=some (true,(⟨[],true,[],true,true,true,0⟩:Seen))
def gdE(_:World)(_:OsState):=some ((expectedOf Q).defs.take 36)
def gdF(_:World)(_:OsState):=some ((expectedOf Q).defs.drop 36)
def gdB(_:World)(_:OsState):=some (bltViewBooted,true)
def gdG(_:World)(_:OsState):=some true
def gdD(_:World)(_:OsState):=some (pinGoodD (drecsOf Q),plainGoodE Q (looseW Q []),plainGoodD Q [],wideGood Q,clsGoodW Q [])
def gdC(w:World)(_:OsState):=some ((Kf w.params).map λp=>some p.2)
def tag{a:Type}(f g:World->OsState->a):Bool:=true
theorem tag1:(tag runA gdA&&(tag runE gdE&&(tag runF gdF&&(tag runB runB&&(tag runG gdG&&(tag runD gdD&&tag runC runC))))))=true:=by k_qdec
theorem hA1:runA w a=gdA w a:=by
 rw[Fast.te12207643548744421277]
 kernel_rfl
theorem hE1:runE w a=gdE w a:=by
 rw[Fast.te444502894637666084,Fast.te5409055412413326972]
 kernel_rfl
theorem hF1:runF w a=gdF w a:=by
 rw[Fast.te13700558122359381118,Fast.te15106071121657518799]
 kernel_rfl
theorem hB1:runB w a=gdB w a:=by
 rw[Fast.te3944395838123241102]
 kernel_rfl
theorem hG1:runG w a=gdG w a:=by
 rw[Fast.te4687216236575817664]
 kernel_rfl
theorem hC1:runC w a=gdC w a:=by
 rw[Fast.te13963155734734511479]
 kernel_rfl
theorem hD1:runD w a=gdD w a:=by
 rw[Fast.te687378046917541310,Fast.te9816458330070937838]
 kernel_rfl
end
theorem hl:LeftO PySem.Challenge.pw_onceroad_k71_sets_told Q [] Xt (Hook.obs Hk) (Hook.val Hk) NN:=Hd.left_of (by kernel_rfl) (by decide) (λs=>by kernel_rfl) λw a=>Hd.lookT_of (hA1 w a) (hE1 w a) (hF1 w a) (hB1 w a) (hG1 w a) (hD1 w a) (hC1 w a)
end K71
namespace L2
open PySem PySem.Spec PyProof.Rows
variable{A:Around}{C a b dx it:Addr}{CX:CXT}{D:Ends}{E:Value->Shared->Prop}{H:Hp}{M:Model}{N ps:LS}{P:Program}{R:Result->Shared->Prop}{X:Cx}{base h:Heap}{body:List Stmt}{c e tg:Expr}{ch fp:LI}{d':Drawn}{es:List Expr}{f:Value->Value->Sem Value}{g:TG}{g':Array GenState}{i j n t':Nat}{kindOf:Str->Option NameKind}{kw:List (Str×Value)}{lo:Int}{mA mg:Str->Option Value}{o:HO}{op op':CmpOp}{outer:List Env}{p pos:Pos}{pins:List (Addr×Obj)}{pl:Sem Bool}{qual x:Str}{r r':R2}{s s':Shared}{sc scope:Scope}{t te:TE}{ta:TA}{tb:TS}{tc:TT}{u:Value}{us:List Value}{v y:V}{vs xs:List V}{w:World}{α:Type}{σ:St}
abbrev Key:=Sum Int Str
def qee:Key->Value->Bool
 | .inl k,v=>Value.isInt k v
 | .inr x,v=>Value.isStrOf x v
def keyH(w:World):Key->Int
 | .inl k=>hashInt k
 | .inr x=>hashStr w x
theorem q8:∀{k:Key} {v:Value},qee k v=true->(∃ i t,k=Sum.inl i/\v=Value.int i t)\/(∃ x t,k=Sum.inr x/\v=Value.str x t)
 | .inl i,v,h=>by
  obtain⟨t,e⟩:=Value.isInt_shape (k:=i) (v:=v) h;show .inl ⟨i,t,rfl,e⟩
 | .inr x,v,h=>by
  obtain⟨t,e⟩:=Value.isStrOf_shape (x:=x) (v:=v) h;show .inr ⟨x,t,rfl,e⟩
theorem keyIs_int(i:Int)(t:Tok):qee (.inl i) (.int i t)=true:=by simp[qee,Value.isInt]
theorem keyIs_str(x:Str)(t:Tok):qee (.inr x) (.str x t)=true:=by simp[qee,Value.isStrOf]
theorem key_ll(a b:Int):decide ((Sum.inl a:Key)=Sum.inl b)=(a==b):=by
 by_cases e:a=b
 .subst e;simp
 .have h:¬ (Sum.inl a:Key)=Sum.inl b:=λq=>e (Sum.inl.inj q);rw[ym h];show(Yq.mpr e).symm
theorem key_rr(a b:Str):decide ((Sum.inr a:Key)=Sum.inr b)=decide (a=b):=by
 by_cases e:a=b
 .subst e;simp
 .have h:¬ (Sum.inr a:Key)=Sum.inr b:=λq=>e (kO q);rw[ym h,ym e]
theorem key_lr(a:Int)(b:Str):decide ((Sum.inl a:Key)=Sum.inr b)=false:=ym (λq=>nomatch q)
theorem key_rl(a:Str)(b:Int):decide ((Sum.inr a:Key)=Sum.inl b)=false:=ym (λq=>nomatch q)
def jm(prog:Program)(w:World):PySem.KeyKind prog w Key where
 is:=qee
 hash:=keyH w
 inj:=λv a b c hb=>by
  rcases q8 c with⟨i,t,rfl,rfl⟩ | ⟨x,t,rfl,rfl⟩
  .rcases q8 hb with⟨j,u,rfl,e⟩ | ⟨y,u,rfl,e⟩
   .injection e with e1 _;rw[e1]
   .show nomatch e
  .rcases q8 hb with⟨j,u,rfl,e⟩ | ⟨y,u,rfl,e⟩
   .show nomatch e
   .injection e with e1 _;rw[e1]
 byValue:=λk v h=>by
  rcases q8 h with⟨i,t,rfl,rfl⟩ | ⟨x,t,rfl,rfl⟩<;>rfl
 pyHash:=λhv h=>by
  rcases q8 hv with⟨i,t,rfl,rfl⟩ | ⟨x,t,rfl,rfl⟩
  .show wpAny_pyHash_int h
  .show wpAny_pyHash_str h
 eqBool:=λd hv h=>by
  rcases q8 d with⟨i,t,rfl,rfl⟩ | ⟨x,t,rfl,rfl⟩
  .rcases q8 hv with⟨j,u,rfl,rfl⟩ | ⟨y,u,rfl,rfl⟩
   .rw [key_ll] at h;show wpAny_eqBool_int h
   .rw [key_lr] at h;show SeqAt.EqAt.int_str i t y u _ _ _ _ h
  .rcases q8 hv with⟨j,u,rfl,rfl⟩ | ⟨y,u,rfl,rfl⟩
   .rw [key_rl] at h;show SeqAt.EqAt.str_int x t j u _ _ _ _ h
   .rw [key_rr] at h;show wpAny_eqBool_str h
 «strs»:=λk x t v h=>by
  rcases q8 h with⟨i,u,rfl,e⟩ | ⟨y,u,rfl,e⟩
  .show nomatch e
  .injection e with e1 _
   subst e1;cases v<;>rfl
theorem mixKind_int(prog:Program)(w:World)(i:Int)(t:Tok):(jm prog w).is (.inl i) (.int i t)=true:=keyIs_int i t
theorem mixKind_str(prog:Program)(w:World)(x:Str)(t:Tok):(jm prog w).is (.inr x) (.str x t)=true:=keyIs_str x t
inductive V where
 | non | bl (b:Bool) | int (i:Int) | str (x:Str) | byt (b:Array UInt8) | flt (b:UInt64) | ref (a:Addr) | ty (n:String)
 deriving DecidableEq
def RelV:V->Value->Prop
 | .non,u=>u=Value.none
 | .bl b,u=>u=Value.bool b
 | .int i,u=>∃ t,u=Value.int i t
 | .str x,u=>∃ t,u=Value.str x t
 | .byt b,u=>∃ t,u=Value.bytes b t
 | .flt b,u=>∃ t,u=Value.float b t
 | .ref a,u=>u=Value.ref a
 | .ty n,u=>u=Value.type n
abbrev Vals:List V->List Value->Prop:=Paired RelV
theorem Vals.length(r:Vals xs us):xs.length=us.length:=Paired.length r
theorem Vals.get:∀{xs:List V} {us:List Value} {i:Nat} {x:V},Vals xs us->xs[i]?=some x->∃ u,us[i]?=some u/\RelV x u
 | _,_,_,_,.nil,e=>by simp at e
 | _,_,0,_,.cons r _,e=>by simp at e;subst e;show⟨_,rfl,r⟩
 | _,_,i+1,x,.cons _ t,e=>by
  obtain⟨u,h1,a⟩:=Vals.get (i:=i) (x:=x) t (by simpa using e);show⟨u,by simpa using h1,a⟩
theorem Vals.set{x:V}(r:RelV x u):∀{xs:List V} {us:List Value} (i:Nat),Vals xs us->Vals (xs.set i x) (us.set i u)
 | _,_,_,.nil=>.nil
 | _,_,0,.cons _ t=>.cons r t
 | _,_,i+1,.cons q t=>.cons q (Vals.set r i t)
theorem Vals.append:∀{xs ys:List V} {us a:List Value},Vals xs us->Vals ys a->Vals (xs++ys) (us++a)
 | _,_,_,_,.nil,s=>s
 | _,_,_,_,.cons r t,s=>.cons r (Vals.append t s)
theorem Vals.take:∀{xs:List V} {us:List Value} (n:Nat),Vals xs us->Vals (xs.take n) (us.take n)
 | _,_,0,_=>.nil
 | _,_,_+1,.nil=>.nil
 | _,_,n+1,.cons r t=>.cons r (Vals.take n t)
theorem Vals.drop:∀{xs:List V} {us:List Value} (n:Nat),Vals xs us->Vals (xs.drop n) (us.drop n)
 | _,_,0,r=>r
 | _,_,_+1,.nil=>.nil
 | _,_,n+1,.cons _ t=>Vals.drop n t
def RelO:Option V->Option Value->Prop
 | some v,some u=>RelV v u
 | none,none=>True
 | _,_=>False
def KV{a:Type}:List (a×V)->List (a×Value)->Prop:=Paired λ(p:a×V) (q:a×Value)=>p.1=q.1/\RelV p.2 q.2
def kV:Key->V
 | .inl i=>.int i
 | .inr x=>.str x
inductive HO where
 /-- a list -/
 | lst (xs:List V)
 /-- a tuple (never changes) -/
 | tup (xs:List V)
 /-- a dict whose keys are ints and texts;one whose keys are tuples of ints and texts (the empty one is both) -/
 | dK (kvs:List (Key×V)) | dT (kvs:List (List Key×V))
 /-- a set of ints: its members,its size -/
 | set (S:Int->Bool) (n:Nat)
 /-- an instance of the class at C,its dict at dx,its attributes -/
 | ins (C dx:Addr) (fs:List (Str×V))
 /-- the dict of the instance at x -/
 | own (x:Addr)
 /-- the dict of an exception -/
 | xd (fs:List (Str×V))
 /-- a bound method,f of x -/
 | met (f x:Addr)
 /-- a range object lo,lo+1,.. below hi -/
 | rng (lo hi:Int)
 /-- a thing that is known to the object (the script;a dict while a loop walks it): read,never written while it is so -/
 | frz (o:Obj) (u:HO)
 /-- a code object's table -/
 | tbl (ps:Array Value)
 /-- any other thing,by what is true of its one object (a def of one's own: SetO a S n:=HO.ext λh=>..) -/
 | ext (φ:Heap->Prop)
abbrev Hp:=Addr->Option HO
def upd(H:Hp)(a:Addr)(o:HO):Hp:=λb=>if b=a then some o else H b
theorem qc:upd H a o a=some o:=by unfold upd;rw[yH rfl]
theorem qo(h:b≠a):upd H a o b=H b:=by unfold upd;rw[yE h]
theorem qbV{u:HO}(h:H a=some o)(h':H b=some u)(d:o≠u):a≠b:=by
 intro e;subst e;rw[h] at h';show d (yn h')
theorem qO(h:H a=some o)(h':H b=none):a≠b:=by
 intro e;subst e;rw[h] at h';cases h'
section
variable(P:Program)(w:World)
def ObjOk(H:Hp)(h:Heap)(a:Addr):HO->Prop
 | .lst xs=>xs.length<=sizeLine/\∃(b:List Value) (n:Nat),Vals xs b/\h.get? a=some { cls:=.type "list",data:=.seq b.toArray n }
 | .tup xs=>xs.length<=sizeLine/\∃ b:List Value,Vals xs b/\IsTup h a b.toArray
 | .dK kvs=>kvs.length<=sizeLine/\(a==sysModules)=false/\∃ vs,KV kvs vs/\h.DictOf (jm P w) a vs
 | .dT kvs=>kvs.length<=sizeLine/\(a==sysModules)=false/\∃ xs:List (List Key×Addr×Value),
   Paired (λ(p:List Key×V) (q:List Key×Addr×Value)=>p.1=q.1/\H q.2.1=some (.tup (p.1.map kV))/\RelV p.2 q.2.2) kvs xs /\
   ∃ o es ep,h.get? a=some o/\o.ExactDict/\o.data=.dict es ep/\es.toList=xs.map (entryOfKey (tupleKind (jm P w)))/\(xs.map (·.1)).Nodup
 | .set S n=>h.SetOf (intKind P w) a S n
 | .ins C dx fs=>H dx=some (.own a)/\fs.length<=1000/\dx≠a/\h.get? a=some (PySem.W.instObj C dx) /\
   ∃ mA,h.Ns1 dx mA/\(∀ f,RelO (fs.lookup f) (mA f))/\PySem.Within mA (fs.map (·.1))
 | .own _=>∃ o,h.get? a=some o
 | .xd fs=>∃ mA,h.Ns1 a mA/\∀ f,RelO (fs.lookup f) (mA f)
 | .rng lo hi=>∃ t u v,h.get? a=some { cls:=.type "range",data:=.fields #[.int lo t,.int hi u,.int 1 v] }
 | .frz o u=>h.get? a=some o/\ObjOk H h a u
 | .tbl ps=>h.get? a=some { cls:=.none,data:=.fields ps }
 | .met f x=>h.get? a=some (PySem.W.methodObj (.ref f) (.ref x))
 | .ext φ=>φ h/\(∃ o,h.get? a=some o)/\∀ h1 c:Heap,φ h1->(∀ o,h1.get? a=some o->c.get? a=some o)->φ c
def HOk(H:Hp)(h:Heap):Prop:=∀ a o,H a=some o->ObjOk P w H h a o
end
section
variable{P:Program}{w:World}{H H':Hp}{h h':Heap}{a:Addr}{o:HO}
theorem ObjOk.lt(x:ObjOk P w H h a o):a<h.objs.size:=by
 cases o with
 | lst xs=>obtain⟨_,_,_,_,e⟩:=x;show yO e
 | tup xs=>obtain⟨_,_,_,p⟩:=x;show p.lt
 | dK kvs=>obtain⟨_,_,_,_,o,_,_,e,_⟩:=x;show yO e
 | dT kvs=>obtain⟨_,_,_,_,o,_,_,e,_⟩:=x;show yO e
 | set S n=>obtain⟨o,_,_,_,e,_⟩:=x;show yO e
 | ins C dx fs=>obtain⟨_,_,_,e,_⟩:=x;show yO e
 | own y=>obtain⟨_,e⟩:=x;show yO e
 | xd fs=>obtain⟨_,⟨_,_,_,e,_⟩,_⟩:=x;show yO e
 | rng lo hi=>obtain⟨_,_,_,e⟩:=x;show yO e
 | frz ob u=>obtain⟨e,_⟩:=x;show yO e
 | tbl ps=>show yO (show h.get? a=some _ from x)
 | met f y=>show yO (show h.get? a=some _ from x)
 | ext φ=>obtain⟨_,⟨_,e⟩,_⟩:=x;show yO e
theorem Paired.mapP{d:Type}{F G:α->d->Prop}:∀{c:List α} {l₂:List d},Paired F c l₂->(∀ a b,F a b->G a b)->Paired G c l₂
 | _,_,.nil,_=>.nil
 | _,_,.cons r t,f=>.cons (f _ _ r) (Paired.mapP t f)
theorem ObjOk.stay(x:ObjOk P w H h a o)(k:∀ b u,(b=a\/H b=some (.own a))->h.get? b=some u->h'.get? b=some u)
  (l:∀ b,H b=some (.own a)->H' b=some (.own a)) (m:∀ b xs,H b=some (.tup xs)->H' b=some (.tup xs)):ObjOk P w H' h' a o:=by
 induction o with
 | lst xs=>obtain⟨z,i,n,r,e⟩:=x;show⟨z,i,n,r,k _ _ (.inl rfl) e⟩
 | tup xs=>obtain⟨z,i,r,g,e,c⟩:=x;show⟨z,i,r,g,k _ _ (.inl rfl) e,c⟩
 | dK kvs=>obtain⟨z,y,vs,r,g,es,ep,e,c⟩:=x;show⟨z,y,vs,r,g,es,ep,k _ _ (.inl rfl) e,c⟩
 | dT kvs =>
  obtain⟨z,y,xs,r,g,es,ep,e,c⟩:=x;show⟨z,y,xs,Paired.mapP r λp q z=>⟨z.1,m _ _ z.2.1,z.2.2⟩,g,es,ep,k _ _ (.inl rfl) e,c⟩
 | set S n=>obtain⟨g,es,ep,t,e,c⟩:=x;show⟨g,es,ep,t,k _ _ (.inl rfl) e,c⟩
 | ins C dx fs =>
  obtain⟨d,z,ne,e,mA,⟨od,es,ep,j,c⟩,r⟩:=x;show⟨l _ d,z,ne,k _ _ (.inl rfl) e,mA,⟨od,es,ep,k _ _ (.inr d) j,c⟩,r⟩
 | own y=>obtain⟨g,e⟩:=x;show⟨g,k _ _ (.inl rfl) e⟩
 | xd fs=>obtain⟨mA,⟨od,es,ep,e,c⟩,r⟩:=x;show⟨mA,⟨od,es,ep,k _ _ (.inl rfl) e,c⟩,r⟩
 | rng lo hi=>obtain⟨t,u,v,e⟩:=x;show⟨t,u,v,k _ _ (.inl rfl) e⟩
 | frz g u ih=>obtain⟨e,q⟩:=x;show⟨k _ _ (.inl rfl) e,ih q⟩
 | tbl ps =>
  have e:h.get? a=some { cls:=.none,data:=.fields ps }:=x;show h'.get? a=some { cls:=.none,data:=.fields ps };show k a _ (.inl rfl) e
 | met f y =>
  have e:h.get? a=some (PySem.W.methodObj (.ref f) (.ref y)):=x;show h'.get? a=some (PySem.W.methodObj (.ref f) (.ref y));show k a _ (.inl rfl) e
 | ext φ=>obtain⟨p,⟨o,e⟩,st⟩:=x;show⟨st _ _ p λo q=>k _ _ (.inl rfl) q,⟨o,k _ _ (.inl rfl) e⟩,st⟩
theorem HOk.lt(x:HOk P w H h)(e:H a=some o):a<h.objs.size:=(x a o e).lt
theorem HOk.fresh(x:HOk P w H h)(e:h.objs.size<=a):H a=none:=by
 cases q:H a with
 | none=>rfl
 | some u=>show absurd (yk (x.lt q) e) (Yp _)
theorem HOk.kept(x:HOk P w H h)(k:∀ b u,h.get? b=some u->h'.get? b=some u):HOk P w H h':=λa o e =>
 (x a o e).stay (λb u _ q=>k b u q) (λ_ q=>q) λ_ _ q=>q
theorem HOk.laid(x:HOk P w H h)(k:∀ b u,h.get? b=some u->h'.get? b=some u)(f:h.objs.size<=a)(new:ObjOk P w (upd H a o) h' a o):HOk P w (upd H a o) h':=λb u e=>by
 have d:=x.fresh f;by_cases hb:b=a
 .subst hb;rw[qc] at e;cases e;show new
 .rw [qo hb] at e;show(x b u e).stay (λc v _ q=>k c v q) (λc q=>by rw[qo (qO q d)];show q) λc xs q=>by rw[qo (qO q d)];show q
end
def Rd(H:Hp)(a:Addr)(u:HO):Prop:=H a=some u\/∃ o,H a=some (.frz o u)
theorem Rd.ok{u:HO}(r:Rd H a u)(x:HOk P w H h):ObjOk P w H h a u:=by
 rcases r with r | ⟨o,r⟩
 .show x a u r
 .obtain⟨_,q⟩:=x a _ r;show q
def Mut:Option HO->Prop
 | some (.lst _)=>True
 | some (.dK _)=>True
 | some (.dT _)=>True
 | some (.set _ _)=>True
 | some (.ins _ _ _)=>True
 | some (.ext _)=>True
 | _=>False
section
variable{P:Program}{w:World}{H:Hp}{h h':Heap}{x e:Addr}{o':HO}
theorem HOk.write(ok:HOk P w H h)(g:Mut (H x))(j:e=x\/H e=some (.own x))(k:∀ b u,b≠e->h.get? b=some u->h'.get? b=some u)(i:∃ u,h'.get? e=some u)
  (new:ObjOk P w (upd H x o') h' x o'):HOk P w (upd H x o') h':=λb u q=>by
 have d:∀ c y,H c=some (.own y)->c≠x:=λc y r z=>by subst z;rw[r] at g;show g
 have f:∀ c xs,H c=some (.tup xs)->c≠x:=λc xs r z=>by subst z;rw[r] at g;show g
 by_cases hb:b=x
 .subst hb;rw[qc] at q;cases q;show new
 .rw [qo hb] at q;by_cases a:b=e
  .have l:H b=some (.own x):=by
    rcases j with z | z
    .show absurd (a.trans z) hb
    .rw [a];show z
   rw[q] at l;cases l;obtain⟨v,hv⟩:=i;show⟨v,by rw[a];show hv⟩
  .show(ok b u q).stay (λc v hc r=>k c v ?_ r) (λc r=>by rw[qo (d c b r)];show r) λc xs r=>by rw[qo (f c xs r)];show r
   rcases hc with rfl | hc
   .show a
   .rintro rfl;rcases j with z | z
    .show d c b hc z
    .rw [hc] at z;cases z;show hb rfl
end
structure Un(fs ex:LI)(H H':Hp)(h h':Heap):Prop where
 keep:∀ b o,h.get? b=some o->H b=none->b∉fs->b∉ex->h'.get? b=some o
 slot:∀ b o,h.get? b=some o->H b=none->b∈fs->b∉ex->∃ sl,h'.get? b=some { o with slots:=sl }
 free:∀ b o,h.get? b=some o->H b=none->b∉ex->H' b=none
 there:∀ b o,h.get? b=some o->b∉ex->∃ o',h'.get? b=some o'
 tups:∀ b xs,H b=some (.tup xs)->H' b=some (.tup xs)
 frzs:∀ b o u,H b=some (.frz o u)->H' b=some (.frz o u)
 tbls:∀ b ps,H b=some (.tbl ps)->∃ more,H' b=some (.tbl (ps++more))
section
variable{fs fs' ex ex':LI}{H H1 H2:Hp}{h h1 h2 h':Heap}{a x e:Addr}{o:HO}
theorem Un.any(u:Un fs ex H H1 h h1){a:Obj}(q:h.get? b=some a)(n:H b=none)(c:b∉ex):∃ d,h1.get? b=some { a with slots:=d }:=by
 by_cases hb:b∈fs
 .show u.slot b a q n hb c
 .show⟨a.slots,u.keep b a q n hb c⟩
theorem Un.kept(k:∀ b u,h.get? b=some u->h'.get? b=some u):Un fs ex H H h h':=
 ⟨λb a q _ _ _=>k b a q,λb a q _ _ _=>⟨a.slots,k b a q⟩,λ_ _ _ n _=>n,λb a q _=>⟨a,k b a q⟩,λ_ _ q=>q,λ_ _ _ q=>q,λ_ ps q=>⟨#[],by rw[q];simp⟩⟩
theorem Un.refl:Un fs ex H H h h:=Un.kept λ_ _ q=>q
theorem Un.laid(k:∀ b u,h.get? b=some u->h'.get? b=some u)(d:h.objs.size<=a)(c:H a=none):Un fs ex H (upd H a o) h h' where
 keep:=λb u q _ _ _=>k b u q
 slot:=λb u q _ _ _=>⟨u.slots,k b u q⟩
 free:=λb u q n _=>by rw[qo (Yj (yk (yO q) d))];show n
 there:=λb u q _=>⟨u,k b u q⟩
 tups:=λb xs q=>by rw[qo (qO q c)];show q
 frzs:=λb u xs q=>by rw[qo (qO q c)];show q
 tbls:=λb ps q=>⟨#[],by rw[qo (qO q c),q];simp⟩
theorem Un.write(c:Mut (H x))(i:e=x\/H e=some (.own x))(k:∀ b u,b≠e->h.get? b=some u->h'.get? b=some u)(d:∃ u,h'.get? e=some u):Un fs ex H (upd H x o) h h':=by
 have g:∀ b,H b=none->b≠x:=λb n z=>by subst z;rw[n] at c;show c
 have hb:∀ b,H b=none->b≠e:=λb n z=>by
  subst z;rcases i with r | r
  .show g b n r
  .rw [n] at r;cases r
 have f:∀ b u,H b=some u->¬ Mut (some u)->b≠x:=λb u q nm z=>by subst z;rw[q] at c;show nm c
 show⟨λb u q n _ _=>k b u (hb b n) q,λb u q n _ _=>⟨u.slots,k b u (hb b n) q⟩,λb u q n _=>by rw[qo (g b n)];show n,λb u q _=>?_,
  λb xs q=>by rw[qo (f b _ q λz=>z)];show q,λb u xs q=>by rw[qo (f b _ q λz=>z)];show q,λb ps q=>⟨#[],by rw[qo (f b _ q λz=>z),q];simp⟩⟩
 by_cases a:b=e
 .subst a;show d
 .show⟨u,k b u a q⟩
end
def trk(h:Heap)(H:Hp):LI:=(List.range h.objs.size).filter λa=>(H a).isSome
def qgt(h:Heap)(H:Hp):Heap:=PySem.W.hideAll h (trk h H)
theorem hidT_size(h:Heap)(H:Hp):(qgt h H).objs.size=h.objs.size:=PySem.W.hideAll_size _ _
theorem hidT_get{o:Obj}(e:h.get? b=some o)(n:H b=none):(qgt h H).get? b=some o:=
 PySem.W.hideAll_get _ e λa=>by
  have q:(H b).isSome=true:=(yq.mp a).2;rw[n] at q;simp at q
theorem of_hidT{o:Obj}(e:(qgt h H).get? b=some o):h.get? b=some o/\H b=none:=by
 have a:h.get? b=some o:=PySem.W.of_hideAll (trk h H) e;show⟨a,?_⟩
 cases q:H b with
 | none=>rfl
 | some x =>
  have c:b∈trk h H:=yq.mpr ⟨Yd.mpr (yO a),by simp[q]⟩;have z:(qgt h H).get? b=none:=PySem.W.hideAll_none (trk h H) c;rw[z] at e;cases e
def allNews(g h:Heap)(L:Addr):List (Addr×Obj):=(List.range h.objs.size).filterMap λa=>if a=L\/(g.get? a).isSome=true then none else(h.get? a).map λo=>(a,o)
def rest(g h:Heap)(L d:Addr):List (Addr×Obj):=(allNews g h L).filter λp=>decide (p.1≠d)
structure Mod(K:yh)(mg:Str->Option Value)(base:Heap):Prop where
 kin:K.In base
 glob:base.Ns mainGlobals mg
 blt:∃ mb,base.Ns builtinsNs mb/\∀ x:Str,x≠"__name__"->mb x=bootBuiltins x
 nolimit:base.NoLimit
structure Cx where
 prog:Program
 w:World
 K:yh
 mg:Str->Option Value
 base:Heap
 A:Around
 N:LS
 s₀:Shared
 H₀:Hp
 env:Env
 outer:List Env
 stack:List Env
 ex:LI
 fn:Str->Bool
 calm:Bool
 pn:List (Addr×Obj)
 xe:Value->Shared->Prop
def frs(l:List Env):LI:=l.filterMap (·.frame)
abbrev Cx.fs(X:Cx):LI:=frs X.outer
def Vis(sc:Scope)(x:Str):Prop:=sc.names.lookup x=some .local\/sc.names.lookup x=some .cell\/sc.names.lookup x=some .free
def Loc(sc:Scope)(x:Str):Prop:=sc.names.lookup x=some .local\/sc.names.lookup x=some .cell
def Look(env:Env)(h:Heap)(m:Str->Option Value)(x:Str)(u:Value):Prop:=
 (env.kindOf x=some .local/\m x=some u)\/((env.kindOf x=some .cell\/env.kindOf x=some .free)/\∃ c,env.cells.lookup x=some c/\h.IsCell c (some u))
structure Cx.Ok(X:Cx):Prop where
 mod:Mod X.K X.mg X.base
 kind:X.env.scope.kind=.function
 glob:X.env.globals=mainGlobals
 blt:X.env.builtins=builtinsNs
 above:X.s₀.heap.objs.size<=X.env.locals
 inj:∀ x y c,X.env.cells.lookup x=some c->X.env.cells.lookup y=some c->x=y
 has:∀ x,(X.env.kindOf x=some .cell\/X.env.kindOf x=some .free)->∃ c,X.env.cells.lookup x=some c
 cab:∀ x c,X.fn x=true->X.env.cells.lookup x=some c->X.s₀.heap.objs.size<=c
 hd:X.calm=true->X.A.handled=none
 frames:X.A.frames=some X.stack
 stk:X.stack=X.outer\/(X.stack=X.env::X.outer/\X.env.frame=some X.env.locals)
 exf:∀ b∈X.ex,b≠X.env.locals/\∀ x c,X.env.cells.lookup x=some c->c≠b
 bs:∀ b o,X.base.get? b=some o->X.s₀.heap.get? b=some o/\X.H₀ b=none
 bsz:X.base.objs.size<=X.s₀.heap.objs.size
 noex:∀ b o,X.base.get? b=some o->b∉X.ex
 exfs:∀ b∈X.ex,b∉X.fs
 funs:X.s₀.heap.FunFrames X.base X.outer
 frf:∀ b∈X.fs,X.H₀ b=none
structure Inv(X:Cx)(pins:List (Addr×Obj))(σ:List (Option V))(H:Hp)(s:Shared):Prop where
 ok:X.Ok
 os:s.os=X.s₀.os
 bare:AllBare s.gens
 base:Un X.fs X.ex X.H₀ H X.s₀.heap s.heap
 loc:∃ m,s.heap.Ns X.env.locals m/\∀(i:Nat) (x:Str) (v:V),X.N[i]?=some x->σ[i]?=some (some v)->Vis X.env.scope x->∃ u,RelV v u/\Look X.env s.heap m x u
 cell:∀ x c,X.env.cells.lookup x=some c->∃ v,s.heap.IsCell c v
 free:H X.env.locals=none
 freeC:∀ x c,X.env.cells.lookup x=some c->H c=none
 pin:∀ p∈X.pn++pins,s.heap.get? p.1=some p.2/\H p.1=none/\p.1≠X.env.locals/\p.1∉X.fs/\∀ v,p.2.data≠.cell v
 hok:HOk X.prog X.w H s.heap
 len:σ.length=X.N.length
section
variable{X:Cx}{pins:List (Addr×Obj)}{σ:List (Option V)}{H H':Hp}{s:Shared}{h':Heap}
theorem Cx.Ok.nofr(ok:X.Ok){o:Obj}(e:X.base.get? b=some o):b∉X.fs:=λhb=>by
 have:=(ok.funs.mem hb).1;rw[e] at this;cases this
theorem Inv.bs(I:Inv X pins σ H s):∀ b o,X.base.get? b=some o->s.heap.get? b=some o/\H b=none:=λb o e =>
 ⟨I.base.keep b o (I.ok.bs b o e).1 (I.ok.bs b o e).2 (I.ok.nofr e) (I.ok.noex b o e),I.base.free b o (I.ok.bs b o e).1 (I.ok.bs b o e).2 (I.ok.noex b o e)⟩
theorem Inv.bk(I:Inv X pins σ H s):∀ b o,X.base.get? b=some o->s.heap.get? b=some o:=λb o e=>(I.bs b o e).1
theorem Inv.mod(I:Inv X pins σ H s):Mod X.K X.mg X.base:=I.ok.mod
theorem Inv.kIn(I:Inv X pins σ H s):X.K.In s.heap:=I.ok.mod.kin.keeps I.bk
theorem Inv.lt(I:Inv X pins σ H s):X.env.locals<s.heap.objs.size:=let ⟨_,hn,_⟩:=I.loc;hn.lt
theorem Inv.sz(I:Inv X pins σ H s):X.s₀.heap.objs.size<=s.heap.objs.size:=yj I.ok.above (yN I.lt)
theorem Inv.nofs(I:Inv X pins σ H s)(h:s.heap.objs.size<=a):a∉X.fs:=λhb=>by
 obtain⟨_,o,b,_⟩:=I.ok.funs.mem hb;show absurd (yk (yO b) (yj I.sz h)) (Yp _)
theorem Inv.cne(I:Inv X pins σ H s):∀ x c,X.env.cells.lookup x=some c->c≠X.env.locals:=λx c e z=>by
 obtain⟨v,o,f,d⟩:=I.cell x c e;obtain⟨m,⟨g,es,ep,b,a,_⟩,_⟩:=I.loc;rw[z,b] at f;cases f;rw[a] at d;cases d
theorem Inv.funs(I:Inv X pins σ H s):s.heap.FunFrames X.base X.outer:=by
 have all:∀(l:List Env),(∀ b∈frs l,b∈X.fs)->X.s₀.heap.FunFrames X.base l->s.heap.FunFrames X.base l:=by
  intro l
  induction l with
  | nil=>intro _ _;trivial
  | cons env r ih =>
   intro d hl;obtain⟨g,⟨L,o,c,h,i,f⟩,j⟩:=hl;have a:L∈X.fs:=d L (by unfold frs;rw[XM,c];show yL);obtain⟨m,e⟩:=I.base.slot L o i (I.ok.frf L a) a λz=>I.ok.exfs L z a;show⟨g,⟨L,_,c,h,e,f⟩,ih (λb hb=>d b (by unfold frs;rw[XM,c];show yz _ hb)) j⟩
 show all X.outer (λ_ hb=>hb) I.ok.funs
theorem Inv.stack(I:Inv X pins σ H s):s.heap.FunFrames X.base X.stack:=by
 rcases I.ok.stk with e | ⟨e,hf⟩
 .rw [e];show I.funs
 .rw [e];obtain⟨m,a,_⟩:=I.loc;show .cons (by rw[I.ok.kind];decide) hf a ?_ I.funs;show Heap.get?_none_of_le (yj I.ok.bsz I.ok.above)
theorem Inv.stkSub(I:Inv X pins σ H s):∀ b∈frs X.stack,b∈X.env.locals::X.fs:=λb hb=>by
 rcases I.ok.stk with e | ⟨e,hf⟩
 .rw [e] at hb;show yz _ hb
 .rw [e] at hb;unfold frs at hb;rw[XM,hf] at hb;show hb
theorem Inv.stkFree(I:Inv X pins σ H s):∀ b∈frs X.stack,H b=none:=λb hb=>by
 rcases yF.mp (I.stkSub b hb) with e | hb
 .rw [e];show I.free
 .obtain⟨_,o,a,_⟩:=I.ok.funs.mem hb;show I.base.free b o a (I.ok.frf b hb) λz=>I.ok.exfs b z hb
theorem Inv.step(I:Inv X pins σ H s)
  (f:∀ b∈ch,(b∈X.ex\/X.s₀.heap.objs.size<=b)/\b≠X.env.locals/\(∀ x c,X.env.cells.lookup x=some c->c≠b)/\∀ p∈X.pn++pins,p.1≠b)
  (keep:∀ b o,b≠X.env.locals->b∉X.fs->b∉ch->s.heap.get? b=some o->H b=none->h'.get? b=some o)
  (t:∀ b o,b≠X.env.locals->b∈X.fs->b∉ch->s.heap.get? b=some o->H b=none->∃ M,h'.get? b=some { o with slots:=M }) (free:∀ b o,b∉ch->s.heap.get? b=some o->H b=none->H' b=none)
  (y:∀ b o,b∉ch->s.heap.get? b=some o->∃ F,h'.get? b=some F)
  (J:∀ b xs,H b=some (.tup xs)->H' b=some (.tup xs)) (C:∀ b o u,H b=some (.frz o u)->H' b=some (.frz o u)) (G:∀ b ps,H b=some (.tbl ps)->∃ D,H' b=some (.tbl (ps++D)))
  (ns:∀ m,s.heap.Ns X.env.locals m->h'.Ns X.env.locals m) (L:HOk X.prog X.w H' h') (S:AllBare g') :
  Inv X pins σ H' { s with heap:=h',gens:=g',drawn:=d',toks:=t' }:=by
 have E:∀ b o,X.s₀.heap.get? b=some o->b≠X.env.locals:=λb o e=>Yj (yk (yO e) I.ok.above)
 have j:∀ b o,X.s₀.heap.get? b=some o->b∉X.ex->b∉ch:=λb o e a hb=>by
  rcases(f b hb).1 with z | z
  .show a z
  .show absurd (yk (yO e) z) (Yp _)
 have cellK:∀ x c,X.env.cells.lookup x=some c->∀ v,s.heap.IsCell c v->h'.IsCell c v:=λx c e v ⟨o,A,K⟩=>by
  have g:c∉ch:=λz=>(f c z).2.2.1 x c e rfl;by_cases hc:c∈X.fs
  .obtain⟨M,q⟩:=t c o (I.cne x c e) hc g A (I.freeC x c e);show⟨_,q,K⟩
  .show⟨o,keep c o (I.cne x c e) hc g A (I.freeC x c e),K⟩
 show⟨I.ok,I.os,S,⟨λb o e n hb a=>?_,λb o e n hb a=>?_,λb o e n a=>?_,λb o e a=>?_,λb xs e=>J b xs (I.base.tups b xs e),λb o xs e=>C b o xs (I.base.frzs b o xs e),λb ps e=>?_⟩,?_,λx c e=>?_,?_,λx c e=>?_,λp O=>?_,L,I.len⟩
 .show keep b o (E b o e) hb (j b o e a) (I.base.keep b o e n hb a) (I.base.free b o e n a)
 .obtain⟨M,h⟩:=I.base.slot b o e n hb a;obtain⟨N,B⟩:=t b _ (E b o e) hb (j b o e a) h (I.base.free b o e n a);show⟨N,B⟩
 .obtain⟨F,h⟩:=I.base.there b o e a;show free b F (j b o e a) h (I.base.free b o e n a)
 .obtain⟨F,h⟩:=I.base.there b o e a;show y b F (j b o e a) h
 .obtain⟨U,h⟩:=I.base.tbls b ps e;obtain⟨W,B⟩:=G b _ h;show⟨U++W,by rw[B,Array.append_assoc]⟩
 .obtain⟨m,T,hl⟩:=I.loc;show⟨m,ns m T,λi x v h B R=>?_⟩;obtain⟨u,r,l⟩:=hl i x v h B R;show⟨u,r,?_⟩;rcases l with l | ⟨k,c,e,z⟩
  .show .inl l
  .show .inr ⟨k,c,e,cellK x c e _ z⟩
 .obtain⟨v,z⟩:=I.cell x c e;show⟨v,cellK x c e v z⟩
 .obtain⟨m,⟨o,_,_,A,_⟩,_⟩:=I.loc;show free _ o (λz=>(f _ z).2.1 rfl) A I.free
 .obtain⟨v,o,A,K⟩:=I.cell x c e;show free c o (λz=>(f c z).2.2.1 x c e rfl) A (I.freeC x c e)
 .obtain⟨e,n,ne,P,d⟩:=I.pin p O;have g:p.1∉ch:=λz=>(f p.1 z).2.2.2 p O rfl;show⟨keep p.1 p.2 ne P g e n,free p.1 p.2 g e n,ne,P,d⟩
theorem Inv.un(I:Inv X pins σ H s)(u:Un X.fs [] H H' s.heap h')(d:HOk X.prog X.w H' h'):Inv X pins σ H' { s with heap:=h',toks:=t' }:=by
 obtain⟨m,⟨o,es,ep,f,r⟩,_⟩:=id I.loc;obtain⟨l,g⟩:=u.any f I.free (by simp)
 show I.step (g':=s.gens) (d':=s.drawn) (ch:=[]) (λ_ z=>nomatch z) (λb o _ hb _ e n=>u.keep b o e n hb (by simp)) (λb o _ hb _ e n=>u.slot b o e n hb (by simp)) (λb o _ e n=>u.free b o e n (by simp)) (λb o _ e=>u.there b o e (by simp)) u.tups u.frzs u.tbls (λi h=>by
  obtain⟨j,es',c,a,r'⟩:=h;rw[f] at a;cases a;show⟨_,es',c,g,r'⟩) d I.bare
theorem Inv.call(I:Inv X pins σ H s)(u:Un (frs X.stack) ch H H' s.heap h')(h:HOk X.prog X.w H' h')(j:AllBare g')
  (a:∀ b∈ch,(b∈X.ex\/X.s₀.heap.objs.size<=b)/\b≠X.env.locals/\(∀ x c,X.env.cells.lookup x=some c->c≠b)/\∀ p∈X.pn++pins,p.1≠b) :
  Inv X pins σ H' { s with heap:=h',gens:=g',drawn:=d',toks:=t' }:=by
 obtain⟨m,⟨o,es,ep,i,r⟩,_⟩:=id I.loc;obtain⟨v,g⟩:=u.any i I.free λz=>(a _ z).2.1 rfl
 show I.step (ch:=ch) a (λb o g hb hc e n=>u.keep b o e n (λz=>(yF.mp (I.stkSub b z)).elim g hb) hc) (λb o _ _ hc e n=>u.any e n hc) (λb o hc e n=>u.free b o e n hc) (λb o hc e=>u.there b o e hc) u.tups u.frzs u.tbls (λq l=>by
  obtain⟨t,es',f,d,r'⟩:=l;rw[i] at d;cases d;show⟨_,es',f,g,r'⟩) h j
theorem Inv.turned(I:Inv X pins σ H s)(k:∀ b o,b≠it->s.heap.get? b=some o->h'.get? b=some o)(i:H it=none)(d:it≠X.env.locals)
  (h1:it∈X.ex\/X.s₀.heap.objs.size<=it) (f:∀ x c,X.env.cells.lookup x=some c->c≠it) (g:∀ p∈X.pn++pins,p.1≠it):Inv X pins σ H { s with heap:=h',toks:=t' }:=by
 have a:∀ b u,H b=some u->b≠it:=λb u e z=>by rw[z,i] at e;cases e
 show I.step (g':=s.gens) (d':=s.drawn) (ch:=[it]) (λb hb=>?_) (λb o _ _ hc e _=>k b o (λz=>hc (by simp[z])) e) (λb o _ _ hc e _=>⟨o.slots,k b o (λz=>hc (by simp[z])) e⟩) (λ_ _ _ _ n=>n)
  (λb o hc e=>⟨o,k b o (λz=>hc (by simp[z])) e⟩) (λ_ _ e=>e) (λ_ _ _ e=>e) (λb ps e=>⟨#[],by rw[e];simp⟩) (λm h=>?_) (λb u e=>?_) I.bare
 .have e:b=it:=by simpa using hb
  subst e;show⟨h1,d,f,g⟩
 .obtain⟨o,es,ep,j,r⟩:=h;show⟨o,es,ep,k _ o (Yw d) j,r⟩
 .show(I.hok b u e).stay (λc v hc q=>k c v ?_ q) (λ_ q=>q) λ_ _ q=>q;rcases hc with z | z
  .rw [z];show a b u e
  .show a c _ z
theorem Inv.tok(I:Inv X pins σ H s)(t:Nat):Inv X pins σ H { s with toks:=t }:=I.un (h':=s.heap) (t':=t) Un.refl I.hok
theorem Inv.kept(I:Inv X pins σ H s)(k:∀ b u,s.heap.get? b=some u->h'.get? b=some u):Inv X pins σ H { s with heap:=h',toks:=t' }:=I.un (Un.kept k) (I.hok.kept k)
theorem Inv.laid(I:Inv X pins σ H s)(k:∀ b u,s.heap.get? b=some u->h'.get? b=some u)(c:s.heap.objs.size<=a)(new:ObjOk X.prog X.w (upd H a o) h' a o) :
  Inv X pins σ (upd H a o) { s with heap:=h',toks:=t' }:=I.un (Un.laid k c (I.hok.fresh c)) (I.hok.laid k c new)
theorem Inv.write{x e:Addr}(I:Inv X pins σ H s)(d:Mut (H x))(c:e=x\/H e=some (.own x))(k:∀ b u,b≠e->s.heap.get? b=some u->h'.get? b=some u)(a:∃ u,h'.get? e=some u)
  (new:ObjOk X.prog X.w (upd H x o) h' x o):Inv X pins σ (upd H x o) { s with heap:=h',toks:=t' }:=I.un (Un.write d c k a) (I.hok.write d c k a new)
theorem Inv.weak{a:List (Option V)}(I:Inv X pins σ H s)(hl:a.length=σ.length)(w:∀(i:Nat) v,a[i]?=some (some v)->σ[i]?=some (some v)):Inv X pins a H s:=
 ⟨I.ok,I.os,I.bare,I.base,let ⟨m,hn,hl'⟩:=I.loc;⟨m,hn,λi x v b c d=>hl' i x v b (w i v c) d⟩,I.cell,I.free,I.freeC,I.pin,I.hok,hl.trans I.len⟩
theorem Inv.pins_of{pins':List (Addr×Obj)}(I:Inv X pins σ H s)(h:∀ p∈pins',s.heap.get? p.1=some p.2/\H p.1=none/\p.1≠X.env.locals/\p.1∉X.fs/\∀ v,p.2.data≠.cell v):Inv X pins' σ H s:=
 ⟨I.ok,I.os,I.bare,I.base,I.loc,I.cell,I.free,I.freeC,λp a=>(yP.mp a).elim (λz=>I.pin p (YB _ z)) (h p),I.hok,I.len⟩
theorem qc8(e:N.Nodup)(a:N[i]?=some x)(b:N[j]?=some x):i=j:=by
 obtain⟨h1,c⟩:=yc.mp a;obtain⟨f,d⟩:=yc.mp b;show(List.getElem_inj e).mp (c.trans d.symm)
theorem qdB{Q:Unit->Shared->Prop}(I:Inv X pins σ H s)(hN:X.N.Nodup)(O:X.N[i]?=some x)(t:Loc X.env.scope x)(r:RelV v u)
  (h:∀ s',Inv X pins (σ.set i (some v)) H s'->(∃ a,Heap.SameBut a s.heap s'.heap/\(a=X.env.locals\/X.env.cells.lookup x=some a))->Q () s') (hf:X.fn x=true\/X.env.scope.names.lookup x=some .local:=by first | show .inl rfl | show .inr rfl | assumption):wpAny M A (storeName X.env x u) Q E s:=by
 obtain⟨m,W,hl⟩:=id I.loc;have L:(X.env.scope.kind==.class||(X.env.scope.kind==.module&&X.env.locals != X.env.globals))=false:=by rw[I.ok.kind];rfl
 have D:i<σ.length:=by rw[I.len];show(yc.mp O).1
 have cne:=I.cne
 have l:∀{a:Addr} {h':Heap},(∃ o,s.heap.get? a=some o/\H a=none)->Heap.SameBut a s.heap h'->HOk X.prog X.w H h':=λ{a h'} ha f b ob e=>by
  obtain⟨_,_,B⟩:=ha;show(I.hok b ob e).stay (λc T hc q=>(f.2 c ?_).trans q) (λ_ q=>q) λ_ _ q=>q;rintro rfl;rcases hc with rfl | hc
  .rw [B] at e;cases e
  .rw [B] at hc;cases hc
 rcases t with hk | hk
 .show wpAny_storeName_local hk W (λh' Y f=>?_) L;obtain⟨oL,_,_,Z,_⟩:=id W;show h _ ⟨I.ok,I.os,I.bare,⟨λb o e n hb t=>?_,λb o e n hb t=>?_,I.base.free,λb o e t=>?_,I.base.tups,I.base.frzs,I.base.tbls⟩,⟨_,Y,λj y v' g C U=>?_⟩,λy c e=>?_,I.free,I.freeC,λp hp=>?_,l ⟨oL,Z,I.free⟩ f,by simpa using I.len⟩ ⟨_,f,.inl rfl⟩
  .show(f.2 b (Yj (yk (yO e) I.ok.above))).trans (I.base.keep b o e n hb t)
  .obtain⟨sl,g⟩:=I.base.slot b o e n hb t;show⟨sl,(f.2 b (Yj (yk (yO e) I.ok.above))).trans g⟩
  .obtain⟨o',g⟩:=I.base.there b o e t;show⟨o',(f.2 b (Yj (yk (yO e) I.ok.above))).trans g⟩
  .by_cases G:j=i
   .subst G;rw[O] at g;cases g;rw[Xu D] at C;cases C;show⟨u,r,.inl ⟨hk,by simp⟩⟩
   .rw [xB (Yw G)] at C;obtain⟨u',r',q⟩:=hl j y v' g C U;show⟨u',r',?_⟩;rcases q with⟨k,e⟩ | ⟨k,c,e,z⟩
    .show .inl ⟨k,?_⟩;have:y≠x:=λe=>G (qc8 hN g (e ▸ O));simp[this,e]
    .show .inr ⟨k,c,e,z.sameBut f (cne y c e)⟩
  .obtain⟨T,z⟩:=I.cell y c e;show⟨T,z.sameBut f (cne y c e)⟩
  .obtain⟨e,n,ne,nf,d⟩:=I.pin p hp;show⟨(f.2 p.1 ne).trans e,n,ne,nf,d⟩
 .have F:X.fn x=true:=by
   rcases hf with z | z
   .show z
   .rw [z] at hk;cases hk
  obtain⟨c,hc⟩:=I.ok.has x (.inl hk);obtain⟨T,z⟩:=I.cell x c hc;show wpAny_storeName_cell I.ok.kind hk hc z (λh' J f=>?_);obtain⟨oc,P,R⟩:=id z;show h { s with heap:=h' } ⟨I.ok,I.os,I.bare,⟨λb o e n hb t=>?_,λb o e n hb t=>?_,I.base.free,λb o e t=>?_,I.base.tups,I.base.frzs,I.base.tbls⟩,⟨m,W.sameBut f (Yw (cne x c hc)),λj y v' g C U=>?_⟩,λy S e=>?_,I.free,I.freeC,λp hp=>?_,l ⟨oc,P,I.freeC x c hc⟩ f,by simpa using I.len⟩ ⟨c,f,.inr hc⟩
  .show(f.2 b (Yj (yk (yO e) (I.ok.cab x c F hc)))).trans (I.base.keep b o e n hb t)
  .obtain⟨sl,g⟩:=I.base.slot b o e n hb t;show⟨sl,(f.2 b (Yj (yk (yO e) (I.ok.cab x c F hc)))).trans g⟩
  .obtain⟨o',g⟩:=I.base.there b o e t;show⟨o',(f.2 b (Yj (yk (yO e) (I.ok.cab x c F hc)))).trans g⟩
  .by_cases G:j=i
   .subst G;rw[O] at g;cases g;rw[Xu D] at C;cases C;show⟨u,r,.inr ⟨.inl hk,c,hc,J⟩⟩
   .rw [xB (Yw G)] at C;obtain⟨u',r',q⟩:=hl j y v' g C U;show⟨u',r',?_⟩;rcases q with q | ⟨k,S,e,z'⟩
    .show .inl q
    .show .inr ⟨k,S,e,z'.sameBut f ?_⟩;rintro rfl;show G (qc8 hN g (I.ok.inj _ _ _ e hc ▸ O))
  .by_cases K:S=c
   .subst K;show⟨_,J⟩
   .obtain⟨w2,z2⟩:=I.cell y S e;show⟨w2,z2.sameBut f K⟩
  .obtain⟨e,n,ne,nf,d⟩:=I.pin p hp;show⟨(f.2 p.1 ?_).trans e,n,ne,nf,d⟩;intro q;rw[q,P] at e;have q':oc=p.2:=yn e;show d T (by rw[<- q'];show R)
theorem qce{Q:Unit->Shared->Prop}(I:Inv X pins σ H s)(b:X.N.Nodup)(d:X.N[i]?=some x)(e:Loc X.env.scope x)(r:RelV v u)
  (h:∀ s',Inv X pins (σ.set i (some v)) H s'->Q () s') (c:X.fn x=true\/X.env.scope.names.lookup x=some .local:=by first | show .inl rfl | show .inr rfl | assumption):wpAny M A (storeName X.env x u) Q E s:=
 qdB I b d e r (λs' a _=>h s' a) c
theorem Inv.call'(I:Inv X pins σ H s)(g:s'.os=s.os)(u:Un (frs X.stack) ch H H' s.heap s'.heap)(d:HOk X.prog X.w H' s'.heap)(f:AllBare s'.gens)
  (a:∀ b∈ch,(b∈X.ex\/X.s₀.heap.objs.size<=b)/\b≠X.env.locals/\(∀ x c,X.env.cells.lookup x=some c->c≠b)/\∀ p∈X.pn++pins,p.1≠b):Inv X pins σ H' s':=by
 obtain⟨h',g',d',t',h⟩:=s';have e:h=s.os:=g;subst e;show I.call (g':=g') (t':=t') (d':=d') u d f a
end
abbrev XK:=Value->Option Addr->Hp->Prop
abbrev St:=List (Option V)
abbrev VK:=V->Hp->Prop
abbrev TE:=St->Hp->VK->Prop
abbrev TT:=St->Hp->(Bool->Hp->Prop)->Prop
abbrev TA:=St->Hp->(List V->Hp->Prop)->Prop
structure Ends where
 nx:St->Hp->Prop
 rt:VK
 bk:St->Hp->Prop:=λ_ _=>False
 ct:St->Hp->Prop:=λ_ _=>False
abbrev TS:=Ends->St->Hp->Prop
def EP(X:Cx)(pins:List (Addr×Obj))(σ:St)(Q:VK)(u:Value)(s':Shared):Prop:=∃ v H',Inv X pins σ H' s'/\RelV v u/\Q v H'
def TP(X:Cx)(pins:List (Addr×Obj))(σ:St)(Q:Bool->Hp->Prop)(b:Bool)(s':Shared):Prop:=∃ H',Inv X pins σ H' s'/\Q b H'
def AP(X:Cx)(pins:List (Addr×Obj))(σ:St)(Q:List V->Hp->Prop)(us:List Value)(s':Shared):Prop:=∃ vs H',Inv X pins σ H' s'/\Vals vs us/\Q vs H'
def SP(X:Cx)(pins:List (Addr×Obj))(D:Ends)(f:Flow)(s':Shared):Prop:=
 match f with
 | .next=>∃ a H',Inv X pins a H' s'/\D.nx a H'
 | .brk=>∃ a H',Inv X pins a H' s'/\D.bk a H'
 | .cont=>∃ a H',Inv X pins a H' s'/\D.ct a H'
 | .ret u=>∃ v a H',Inv X pins a H' s'/\RelV v u/\D.rt v H'
def PE(X:Cx)(e:Expr)(t:TE):Prop:=
 ∀(pins:List (Addr×Obj)) (s:Shared) (σ:St) (H:Hp) (Q:VK),Inv X pins σ H s->t σ H Q->wpAny (model X.prog X.w) X.A (eval e X.env) (EP X pins σ Q) X.xe s
def PT(X:Cx)(e:Expr)(t:TT):Prop:=
 ∀(pins:List (Addr×Obj)) (s:Shared) (σ:St) (H:Hp) (Q:Bool->Hp->Prop),Inv X pins σ H s->t σ H Q->wpAny (model X.prog X.w) X.A (isTrue e X.env (eval e X.env)) (TP X pins σ Q) X.xe s
def PW(X:Cx)(e:Expr)(t:TT):Prop:=
 ∀(a:Sem Value) (pins:List (Addr×Obj)) (s:Shared) (σ:St) (H:Hp) (Q:Bool->Hp->Prop),Inv X pins σ H s->t σ H Q->wpAny (model X.prog X.w) X.A (isTrue e X.env a) (TP X pins σ Q) X.xe s
theorem PW.pt{t:TT}(h:PW X e t):PT X e t:=h _
def PA(X:Cx)(es:List Expr)(t:TA):Prop:=
 ∀(pos:Pos) (pins:List (Addr×Obj)) (s:Shared) (σ:St) (H:Hp) (Q:List V->Hp->Prop),Inv X pins σ H s->t σ H Q->wpAny (model X.prog X.w) X.A (spliced (backTo pos (starEach es X.env))) (AP X pins σ Q) X.xe s
def PS(X:Cx)(st:Stmt)(t:TS):Prop:=
 ∀(pins:List (Addr×Obj)) (s:Shared) (σ:St) (H:Hp) (D:Ends),Inv X pins σ H s->t D σ H->wpAny (model X.prog X.w) X.A (exec st X.env) (SP X pins D) X.xe s
def PSs(X:Cx)(st:List Stmt)(t:TS):Prop:=
 ∀(pins:List (Addr×Obj)) (s:Shared) (σ:St) (H:Hp) (D:Ends),Inv X pins σ H s->t D σ H->wpAny (model X.prog X.w) X.A (execs st X.env) (SP X pins D) X.xe s
theorem thn{t:Sem α}{Q b:α->Shared->Prop}(h:wpAny M A t Q E s)(c:∀ a s,Q a s->b a s):wpAny M A t b E s:=Yx h c λ_ _ x=>x
section
variable{X:Cx}
def qfq(i:Nat):TE:=fun σ H Q=>∃ v,σ[i]?=some (some v)/\Q v H
def tC(v:V):TE:=λ_ H Q=>Q v H
theorem pe_var(g:X.N[i]?=some x)(hv:Vis X.env.scope x)(f:(x==("__debug__":Str))=false:=by decide)(d:(x==("__classdict__":Str))=false:=by decide):PE X (.Name x pos) (qfq i):=by
 intro pins s σ H Q I h;obtain⟨v,e,h⟩:=h;obtain⟨m,n,hl⟩:=I.loc;obtain⟨u,r,l⟩:=hl i x v g e hv;have b:EP X pins σ Q u s:=⟨v,H,I,r,h⟩;rcases l with⟨hk,j⟩ | ⟨hk,c,hc,a⟩
 .show wpAny_Name (wpAny_loadName_local I.ok.kind hk n j b) f
 .rcases hk with hk | hk
  .show wpAny_Name (wpAny_loadName_cell I.ok.kind hk hc a b) f
  .show wpAny_Name (wpAny_loadName_free I.ok.kind hk hc a b d) f
theorem qh{i j pos}:PE X (.Constant (.int i) j pos) (tC (.int i)):=λ_ _ _ H _ I h=>wpAny_Constant_int ⟨.int i,H,I.tok _,⟨_,rfl⟩,h⟩
theorem jy{b j pos}:PE X (.Constant (.bool b) j pos) (tC (.bl b)):=λ_ _ _ H _ I h=>Constant_bool ⟨.bl b,H,I,rfl,h⟩
theorem qaP{j pos}:PE X (.Constant .none j pos) (tC .non):=λ_ _ _ H _ I h=>Constant_none ⟨.non,H,I,rfl,h⟩
theorem zv{x j pos}:PE X (.Constant (.str x) j pos) (tC (.str x)):=λ_ _ _ H _ I h=>Calls.Constant_str ⟨.str x,H,I.tok _,⟨_,rfl⟩,h⟩
def Gl(X:Cx)(x:Str):Prop:=X.env.kindOf x=some .globalImplicit
theorem qau{Q:Value->Shared->Prop}(I:Inv X pins σ H s)(b:Gl X x)(c:X.mg x=some u)(h:Q u s)
  (a:(x==("__debug__":Str))=false:=by decide):wpAny (model X.prog X.w) X.A (eval (.Name x pos) X.env) Q E s:=
 Calls.Name_function_global I.ok.kind b (Calls.loadGlobal_global (by rw[I.ok.glob];show I.mod.glob.keeps I.bk) c h) a
theorem qb7{Q:Value->Shared->Prop}(I:Inv X pins σ H s)(c:Gl X x)(d:X.mg x=none)(hv:bootBuiltins x=some u)(h:Q u s)
  (e:x≠"__name__":=by decide) (b:(x==("__debug__":Str))=false:=by decide):wpAny (model X.prog X.w) X.A (eval (.Name x pos) X.env) Q E s:=by
 obtain⟨f,h1,a⟩:=I.mod.blt;show Calls.Name_function_global I.ok.kind c (Calls.loadGlobal_builtin (by rw[I.ok.glob];show I.mod.glob.keeps I.bk) d (by rw[I.ok.blt];show h1.keeps I.bk) ((a x e).trans hv) h) b
theorem qbW(b:Gl X x)(c:X.mg x=some u)(r:RelV v u)(a:(x==("__debug__":Str))=false:=by decide):PE X (.Name x pos) (tC v):=
 λ_ _ _ H _ I h=>qau I b c ⟨v,H,I,r,h⟩ a
theorem jh(b:Gl X x)(c:X.mg x=none)(hv:bootBuiltins x=some u)(r:RelV v u)(d:x≠"__name__":=by decide)(a:(x==("__debug__":Str))=false:=by decide):PE X (.Name x pos) (tC v):=
 λ_ _ _ H _ I h=>qb7 I b c hv ⟨v,H,I,r,h⟩ d a
variable{a b:Expr}{ta tb:TE}{pos:Pos}
def tB(t:TE):TT:=fun σ H Q=>t σ H λx a=>∃ c,x=.bl c/\Q c a
theorem qD(h:PE X e t)(f:∀ a,isTrue e X.env a=(do let v <- a;standAt e.pos;holding [v] (truthy v)):=by intro _;rfl):PT X e (tB t):=by
 intro pins s σ H Q I hw;show isTrue_plain (thn (h pins s σ H _ I hw) λv j ⟨x,b,c,i,g⟩=>?_) (f _);obtain⟨d,rfl,q⟩:=g;cases i;show xk ⟨b,c,q⟩
variable{tA tB':TT}{rest:List Expr}
def qiq(t u:TT):TT:=fun σ H Q=>t σ H λc a=>if c=true then u σ a Q else Q false a
def tOr(t u:TT):TT:=fun σ H Q=>t σ H λc a=>if c=true then Q true a else u σ a Q
def qir(t:TT):TT:=fun σ H Q=>t σ H λc a=>Q (!c) a
theorem qbj(b:PT X a tA):PW X (.BoolOp .And [a] pos) tA:=by
 intro f pins s σ H Q I h;show isTrue_and (thn (b pins s σ H Q I h) λc d e=>?_)
 cases c with
 | true=>show isTrue_and_nil e
 | false=>show e
theorem za(b:PT X a tA):PW X (.BoolOp .Or [a] pos) tA:=by
 intro f pins s σ H Q I h;show isTrue_or (thn (b pins s σ H Q I h) λc d e=>?_)
 cases c with
 | false=>show isTrue_or_nil e
 | true=>show e
theorem qb8(g:PT X a tA)(hb:PW X (.BoolOp .And (b::rest) pos) tB'):PW X (.BoolOp .And (a::b::rest) pos) (qiq tA tB'):=by
 intro j pins s σ H Q I h;show isTrue_and (thn (g pins s σ H _ I h) λc i ⟨d,e,f⟩=>?_)
 cases c with
 | true=>show hb j pins i σ d Q e f
 | false=>show⟨d,e,f⟩
theorem zI(g:PT X a tA)(hb:PW X (.BoolOp .Or (b::rest) pos) tB'):PW X (.BoolOp .Or (a::b::rest) pos) (tOr tA tB'):=by
 intro j pins s σ H Q I h;show isTrue_or (thn (g pins s σ H _ I h) λc i ⟨d,e,f⟩=>?_)
 cases c with
 | true=>show⟨d,e,f⟩
 | false=>show hb j pins i σ d Q e f
theorem qP(d:PT X a tA):PT X (.UnaryOp .Not a pos) (qir tA):=by
 intro pins s σ H Q I h;show isTrue_not (d pins s σ H (λc b=>Q (!c) b) I h)
def qhK(ta tb:TE):TE:=fun σ H Q=>ta σ H λx a=>∃ c,x=.bl c/\if c=true then tb σ a Q else Q (.bl false) a
def qis(ta tb:TE):TE:=fun σ H Q=>ta σ H λx a=>∃ c,x=.bl c/\if c=true then Q (.bl true) a else tb σ a Q
def qhL(ta:TE):TE:=fun σ H Q=>ta σ H λx a=>∃ c,x=.bl c/\Q (.bl (!c)) a
theorem zU{op}(h:PE X a t):PE X (.BoolOp op [a] pos) t:=λpins s σ H Q I hw=>BoolOp_one (h pins s σ H Q I hw)
theorem qal(g:PE X a ta)(hb:PE X (.BoolOp .And (b::rest) pos) tb):PE X (.BoolOp .And (a::b::rest) pos) (qhK ta tb):=by
 intro pins s σ H Q I h;show BoolOp_and (thn (g pins s σ H _ I h) λv j ⟨x,e,f,i,d⟩=>?_);obtain⟨c,rfl,d⟩:=d;cases i;show xk ?_
 cases c with
 | true=>show hb pins j σ e Q f d
 | false=>show⟨.bl false,e,f,rfl,d⟩
theorem qhM(g:PE X a ta)(hb:PE X (.BoolOp .Or (b::rest) pos) tb):PE X (.BoolOp .Or (a::b::rest) pos) (qis ta tb):=by
 intro pins s σ H Q I h;show BoolOp_or (thn (g pins s σ H _ I h) λv j ⟨x,e,f,i,d⟩=>?_);obtain⟨c,rfl,d⟩:=d;cases i;show xk ?_
 cases c with
 | false=>show hb pins j σ e Q f d
 | true=>show⟨.bl true,e,f,rfl,d⟩
theorem qdC(f:PE X a ta):PE X (.UnaryOp .Not a pos) (qhL ta):=by
 intro pins s σ H Q I h;show UnaryOp_ (thn (f pins s σ H _ I h) λv i ⟨x,d,e,g,b⟩=>?_);obtain⟨c,rfl,b⟩:=b;cases g;show not_of (xk ⟨.bl (!c),d,e,rfl,b⟩)
def tIf(t:TT)(ta tb:TE):TE:=fun σ H Q=>t σ H λc a=>if c=true then ta σ a Q else tb σ a Q
theorem qbs(hc:PT X c tA)(j:PE X a ta)(hb:PE X b tb):PE X (.IfExp c a b pos) (tIf tA ta tb):=by
 intro pins s σ H Q I h;show wpAny_IfExp (thn (hc pins s σ H _ I h) λd i ⟨e,f,g⟩=>?_)
 cases d with
 | true=>show j pins i σ e Q f g
 | false=>show hb pins i σ e Q f g
end
def SqL(K:yh)(H:Hp)(a:Addr)(xs:List V):Prop:=
 Rd H a (.lst xs) \/
  ∃(o:Obj) (b:Array Value) (n:Nat),K.lookup a=some o/\o.cls=.type "list"/\o.dict=none/\o.data=.seq b n/\b.size<=sizeLine/\Vals xs b.toList
def SqT(K:yh)(H:Hp)(a:Addr)(xs:List V):Prop:=
 Rd H a (.tup xs) \/
  ∃(o:Obj) (b:Array Value) (n:Nat),K.lookup a=some o/\o.cls=.type "tuple"/\o.data=.seq b n/\b.size<=sizeLine/\Vals xs b.toList
def absV:Value->Option V
 | .none=>some .non
 | .bool b=>some (.bl b)
 | .int i _=>some (.int i)
 | .str x _=>some (.str x)
 | .bytes b _=>some (.byt b)
 | .float b _=>some (.flt b)
 | .ref a=>some (.ref a)
 | .type n=>some (.ty n)
 | _=>none
theorem RelV.abs{x:V}(r:RelV x u):absV u=some x:=by
 cases x with
 | non=>cases r;rfl
 | bl _=>cases r;rfl
 | int _=>obtain⟨t,rfl⟩:=r;rfl
 | str _=>obtain⟨t,rfl⟩:=r;rfl
 | byt _=>obtain⟨t,rfl⟩:=r;rfl
 | flt _=>obtain⟨t,rfl⟩:=r;rfl
 | ref _=>cases r;rfl
 | ty _=>cases r;rfl
theorem RelV.inj{x:V}(r:RelV x u)(q:RelV y u):x=y:=yn (r.abs.symm.trans q.abs)
theorem Vals.inj:∀{xs ys:List V} {us:List Value},Vals xs us->Vals ys us->xs=ys
 | _,_,_,.nil,.nil=>rfl
 | _,_,_,.cons r t,.cons r' t'=>by rw[r.inj r',Vals.inj t t']
section
variable{X:Cx}{pins:List (Addr×Obj)}{σ:St}{H:Hp}{s:Shared}{a:Addr}{xs ys:List V}
theorem SqL.of{K:yh}(h:H a=some (.lst xs)):SqL K H a xs:=.inl (.inl h)
theorem SqT.of{K:yh}(h:H a=some (.tup xs)):SqT K H a xs:=.inl (.inl h)
theorem Inv.list(I:Inv X pins σ H s)(h:SqL X.K H a xs):∃ b:List Value,Vals xs b/\PlainL s.heap a b.toArray/\xs.length<=sizeLine:=by
 rcases h with h | ⟨o,b,n,hk,hc,hd,hs,hz,r⟩
 .obtain⟨z,b,n,r,e⟩:=h.ok I.hok;show⟨b,r,⟨_,n,e,rfl,rfl,rfl⟩,z⟩
 .show⟨b.toList,r,⟨o,n,I.kIn a o hk,hc,hd,by simpa using hs⟩,?_⟩;have e:=r.length;simp only[YZ] at e;lk
theorem Inv.tuple(I:Inv X pins σ H s)(h:SqT X.K H a xs):∃ b:List Value,Vals xs b/\IsTup s.heap a b.toArray/\xs.length<=sizeLine:=by
 rcases h with h | ⟨o,b,n,hk,hc,hs,hz,r⟩
 .obtain⟨z,b,r,p⟩:=h.ok I.hok;show⟨b,r,p,z⟩
 .show⟨b.toList,r,⟨o,I.kIn a o hk,hc,n,by simpa using hs⟩,?_⟩;have e:=r.length;simp only[YZ] at e;lk
theorem Inv.list_inj(I:Inv X pins σ H s)(h:SqL X.K H a xs)(h':SqL X.K H a ys):xs=ys:=by
 obtain⟨b,r,⟨o,n,e,_,_,d⟩,_⟩:=I.list h;obtain⟨its',r',⟨g,f,c,_,_,d'⟩,_⟩:=I.list h';rw[e] at c;cases c;rw[d] at d'
 injection d' with d1 _
 have:b=its':=by simpa using congrArg Array.toList d1
 subst this;show r.inj r'
theorem Inv.tuple_inj(I:Inv X pins σ H s)(h:SqT X.K H a xs)(h':SqT X.K H a ys):xs=ys:=by
 obtain⟨b,r,⟨o,e,_,n,d⟩,_⟩:=I.tuple h;obtain⟨its',r',⟨g,c,_,f,d'⟩,_⟩:=I.tuple h';rw[e] at c;cases c;rw[d] at d'
 injection d' with d1 _
 have:b=its':=by simpa using congrArg Array.toList d1
 subst this;show r.inj r'
end
abbrev Cx.wish(X:Cx)(E:Value->Shared->Prop):Cx:={ X with xe:=E }
abbrev Cx.nox(X:Cx):Cx:=X.wish λ_ _=>False
theorem Cx.Ok.wish(ok:X.Ok)(E:Value->Shared->Prop):(X.wish E).Ok:=
 ⟨ok.mod,ok.kind,ok.glob,ok.blt,ok.above,ok.inj,ok.has,ok.cab,ok.hd,ok.frames,ok.stk,ok.exf,ok.bs,ok.bsz,ok.noex,ok.exfs,ok.funs,ok.frf⟩
theorem Cx.Ok.unwish(ok:(X.wish E).Ok):X.Ok:=
 ⟨ok.mod,ok.kind,ok.glob,ok.blt,ok.above,ok.inj,ok.has,ok.cab,ok.hd,ok.frames,ok.stk,ok.exf,ok.bs,ok.bsz,ok.noex,ok.exfs,ok.funs,ok.frf⟩
section
variable{X:Cx}{pins:List (Addr×Obj)}{σ:St}{H:Hp}{s:Shared}{E:Value->Shared->Prop}
theorem Inv.wish(I:Inv X pins σ H s)(E:Value->Shared->Prop):Inv (X.wish E) pins σ H s:=⟨I.ok.wish E,I.os,I.bare,I.base,I.loc,I.cell,I.free,I.freeC,I.pin,I.hok,I.len⟩
theorem Inv.unwish(I:Inv (X.wish E) pins σ H s):Inv X pins σ H s:=⟨I.ok.unwish,I.os,I.bare,I.base,I.loc,I.cell,I.free,I.freeC,I.pin,I.hok,I.len⟩
theorem SP.unwish{f:Flow}(h:SP (X.wish E) pins D f s'):SP X pins D f s':=by
 cases f with
 | next=>obtain⟨a,H',I,q⟩:=h;show⟨a,H',I.unwish,q⟩
 | brk=>obtain⟨a,H',I,q⟩:=h;show⟨a,H',I.unwish,q⟩
 | cont=>obtain⟨a,H',I,q⟩:=h;show⟨a,H',I.unwish,q⟩
 | ret u=>obtain⟨v,a,H',I,r,q⟩:=h;show⟨v,a,H',I.unwish,r,q⟩
theorem PSs.nox{st:List Stmt}{t:TS}(h:PSs X.nox st t):PSs X st t:=λpins s σ H D I hw =>
 Yx (h pins s σ H D (I.wish _) hw) (λ_ _ q=>q.unwish) λ_ _ z=>False.elim z
end
section
variable{X:Cx}{st:Stmt}{rest:List Stmt}{t u:TS}{e:Expr}{te:TE}{pos:Pos}
def qhN:TS:=λD σ H=>D.nx σ H
def qhE(t u:TS):TS:=λD σ H=>t { D with nx:=u D } σ H
theorem qt:PSs X [] qhN:=λ_ _ σ H _ I h=>ku ⟨σ,H,I,h⟩
theorem qd(h1:PS X st t)(c:PSs X rest u):PSs X (st::rest) (qhE t u):=by
 intro pins s σ H D I h;show wpAny_execs_cons (thn (h1 pins s σ H { D with nx:=u D } I h) λf d q=>?_)
 cases f with
 | next =>
  obtain⟨a,H',b,q⟩:=q;show c pins d a H' D b q
 | ret v=>show q
 | brk=>show q
 | cont=>show q
theorem qe(h1:PS X st t):PSs X [st] t:=by
 intro pins s σ H D I h;show wpAny_execs_cons (thn (h1 pins s σ H D I h) λf a q=>?_)
 cases f with
 | next=>show ku q
 | ret v=>show q
 | brk=>show q
 | cont=>show q
theorem Inv.quiet(I:Inv X pins σ H s):interactive X.env=false:=by simp[interactive,I.ok.kind]
def qhO(te:TE):TS:=λD σ H=>te σ H λ_ a=>D.nx σ a
theorem qN(c:PE X e te)(d:swapsWith e none pos.line X.env=pure false:=by rfl):PS X (.Expr e pos) (qhO te):=by
 intro pins s σ H D I h;show wpAny_Expr_any (thn (c pins s σ H _ I h) λv i ⟨x,a,b,g,f⟩=>⟨σ,a,b,f⟩) I.quiet d
def qig(te:TE):TS:=λD σ H=>te σ H D.rt
theorem qi(c:PE X e te):PS X (.Return (some e) pos) (qig te):=by
 intro pins s σ H D I h;show wpAny_Return_some (thn (c pins s σ H _ I h) λv g ⟨x,a,b,f,d⟩=>⟨x,σ,a,b,f,d⟩)
def tRetN:TS:=λD _ H=>D.rt .non H
def qit(c:TT)(t u:TS):TS:=λD σ H=>c σ H λb a=>if b=true then t D σ a else u D σ a
theorem qG{a b:List Stmt}(hc:PT X c tc)(j:PSs X a t)(hb:PSs X b u):PS X (.If c a b pos) (qit tc t u):=by
 intro pins s σ H D I h;show wpAny_If (thn (hc pins s σ H _ I h) λd i ⟨e,f,g⟩=>?_)
 cases d with
 | true=>show j pins i σ e D f g
 | false=>show hb pins i σ e D f g
def qgM:TS:=λ_ _ _=>False
theorem jk:PS X st qgM:=λ_ _ _ _ _ _ h=>h.elim
theorem jS{sts:List Stmt}:PSs X sts qgM:=λ_ _ _ _ _ _ h=>h.elim
end
abbrev TG:=V->St->Hp->(St->Hp->Prop)->Prop
abbrev TGs:=List V->St->Hp->(St->Hp->Prop)->Prop
def PG(X:Cx)(a:Expr)(t:TG):Prop:=
 ∀(pins:List (Addr×Obj)) (s:Shared) (σ:St) (H:Hp) (v:V) (u:Value) (Q:St->Hp->Prop),Inv X pins σ H s->RelV v u->t v σ H Q ->
  wpAny (model X.prog X.w) X.A (assign a X.env u) (λ_ s'=>∃ b H',Inv X pins b H' s'/\Q b H') X.xe s
def PGs(X:Cx)(b:List Expr)(t:TGs):Prop:=
 ∀(pins:List (Addr×Obj)) (s:Shared) (σ:St) (H:Hp) (vs:List V) (us:List Value) (Q:St->Hp->Prop),Inv X pins σ H s->Vals vs us->t vs σ H Q ->
  wpAny (model X.prog X.w) X.A (assignInOrder ((assignEach b X.env).map (·.2)) us) (λ_ s'=>∃ a H',Inv X pins a H' s'/\Q a H') X.xe s
abbrev qhP:=V->V->V->Hp->(Hp->Prop)->Prop
def qih(X:Cx)(t:qhP):Prop:=
 ∀(pins:List (Addr×Obj)) (s:Shared) (σ:St) (H:Hp) (o i v:V) (a iv u:Value) (Q:Hp->Prop),Inv X pins σ H s->RelV o a->RelV i iv->RelV v u->t o i v H Q ->
  wpAny (model X.prog X.w) X.A (setItem a iv u) (λ_ s'=>∃ H',Inv X pins σ H' s'/\Q H') X.xe s
section
variable{X:Cx}{pos:Pos}
def qcR(i:Nat):TG:=λv σ H Q=>Q (σ.set i (some v)) H
theorem qp(b:X.N.Nodup)(d:X.N[i]?=some x)(e:Loc X.env.scope x)(c:X.fn x=true\/X.env.scope.names.lookup x=some .local:=by first | show .inl rfl | show .inr rfl | assumption):PG X (.Name x pos) (qcR i):=by
 intro pins s σ H v u Q I r h;show wpAny_assign_Name (qce I b d e r (λs' a=>⟨_,H,a,h⟩) c)
def qiu:TGs:=λvs σ H Q=>vs=[]/\Q σ H
def qht(t:TG)(u:TGs):TGs:=λvs σ H Q=>∃ v r,vs=v::r/\t v σ H λa H'=>u r a H' Q
theorem qaf:PGs X [] qiu:=by
 intro pins s σ H vs us Q I r h;obtain⟨e,h⟩:=h;subst e;cases r;show assignInOrder_nil ⟨σ,H,I,h⟩
theorem qU{t:TG}{u:TGs}(h1:PG X e t)(f:PGs X es u)
  (g:(assignEach (e::es) X.env).map (·.2)=assign e X.env::(assignEach es X.env).map (·.2):=by rfl):PGs X (e::es) (qht t u):=by
 intro pins s σ H vs us Q I r h;obtain⟨v,l,d,h⟩:=h;subst d
 cases r with
 | cons r rr =>
  rw[g];show assignInOrder_cons (thn (h1 pins s σ H _ _ _ I r h) λ_ j ⟨a,b,c,i⟩=>?_);show f pins j a b _ _ Q c rr i
def qia(K:yh)(n:Nat)(t:TGs):TG:=λv σ H Q=>∃ a xs,v=.ref a/\SqT K H a xs/\xs.length=n/\t xs σ H Q
theorem qbh{k:Nat}{t:TGs}(hc:X.calm=true)(h:PGs X es t)
  (i:(assignEach es X.env).length=n:=by rfl) (c:(assignEach es X.env).findIdx? (·.1)=none:=by rfl):PG X (.Tuple es k pos) (qia X.K n t):=by
 intro pins s σ H v u Q I r hw;obtain⟨a,xs,g,j,hl,hw⟩:=hw;subst g;cases r;obtain⟨p,d,l,q⟩:=I.tuple j;show assign_Tuple_tuple (I.ok.hd hc) l (by simp[i,<- hl,d.length]) c λh' m=>?_;have f:Inv X pins σ H { s with heap:=h' }:=I.kept (t':=s.toks) λb o e=>m b o (Yj (yO e)) e;show h pins _ σ H xs _ Q f (by simpa using d) hw
def qiv(to d:TE)(t:qhP):TG:=λv σ H Q=>to σ H λo a=>d σ a λi b=>t o i v b λc=>Q σ c
theorem qb9{o i:Expr}{to b:TE}{t:qhP}(n:PE X o to)(m:PE X i b)(p:qih X t)
  (l:∀ v,assign (.Subscript o i pos) X.env v=(do
   let a <- holding [v] (eval o X.env);let iv <- holding [v,a] (eval i X.env)
   standAt pos
   holding [v,a,iv] (setItem a iv v)
   release [v,a,iv] []):=by intro _;rfl):PG X (.Subscript o i pos) (qiv to b t):=by
 intro pins s σ H v u Q I r h;rw[l];show yt (YG (thn (n pins s σ H _ I h) λa C ⟨x,c,f,A,q⟩=>?_));show yt (YG (thn (m pins C σ c _ f q) λiv D ⟨y,d,g,B,w⟩=>?_));show yt (XT (yt (YG (thn (p pins D σ d x y v a iv u _ g A B r w) λ_ E ⟨e,j,z⟩=>?_))));show wpAny_release ⟨σ,e,j,z⟩
def qhF(te:TE)(g:TG):TS:=λD σ H=>te σ H λx a=>g x σ a D.nx
theorem qbt(c:PE X e te)(d:PG X tg g)(f:swapsWithSole [tg] e pos.line X.env=pure false:=by rfl)(hw:swappedStores [tg] e X.env=pure none:=by rfl)
  (h1:(assignEach [tg] X.env).map (·.2)=[assign tg X.env]:=by rfl):PS X (.Assign [tg] e pos) (qhF te g):=by
 intro pins s σ H D I h;show wpAny_Assign_stores (thn (c pins s σ H _ I h) λv l ⟨x,a,b,j,i⟩=>?_) f hw;rw[h1];show thn (d pins l σ a x v _ b j i) λ_ m q=>q
theorem qr{a:Pos}(f:X.N.Nodup)(l:X.N[i]?=some x)(n:Loc X.env.scope x)(g:PE X e te)(m:swapsWith e (some (.Name x a)) pos.line X.env=pure false:=by rfl)(j:X.fn x=true\/X.env.scope.names.lookup x=some .local:=by first | show .inl rfl | show .inr rfl | assumption) :
  PS X (.Assign [.Name x a] e pos) (qhF te (qcR i)):=by
 intro pins s σ H D I h;show wpAny_Assign_Name (thn (g pins s σ H _ I h) λv q ⟨y,b,c,p,o⟩=>?_) m;show qce c f l n p (λr d=>⟨_,b,d,o⟩) j
end
section
variable{X:Cx}{pos:Pos}
def tWhile(c:TT)(tb:TS):TS:=λD σ H=>∃ W:Nat->St->Hp->Prop,(∃ m,W m σ H)/\∀ m σ H,W m σ H ->
 c σ H λb d=>if b=true then ∃ N:St->Hp->Prop,(∀ a H',N a H'->∃ e,e<m/\W e a H')/\tb { D with nx:=N,ct:=N,bk:=D.nx } σ d else D.nx σ d
theorem qcf(z:PassesOwn (model X.prog X.w) X.A X.env X.xe)(hc:PT X c tc)(hb:PSs X body tb):PS X (.While c body [] pos) (tWhile tc tb):=by
 intro pins s σ H D I h;obtain⟨W,⟨C,G⟩,g⟩:=h;show wpAny_While (codeAny_whileLoop (λn s'=>∃ i H',Inv X pins i H' s'/\W n i H') ?_ C ⟨σ,H,I,G⟩);rintro n E ⟨d,t,B,J⟩;show Xc z (thn (hc pins E d t _ B (g n d t J)) λb F ⟨u,x,j⟩=>?_)
 cases b with
 | true =>
  obtain⟨N,y,j⟩:=j;rw[yH rfl];show Xc z (thn (hb pins F d u _ x j) λf K l=>?_)
  cases f with
  | next =>
   obtain⟨a,e,m,q⟩:=l;obtain⟨p,o,r⟩:=y a e q;show⟨p,o,a,e,m,r⟩
  | cont =>
   obtain⟨a,e,m,q⟩:=l;obtain⟨p,o,r⟩:=y a e q;show⟨p,o,a,e,m,r⟩
  | brk=>show l
  | ret v=>show l
 | false =>
  rw[yE YH];show ku ⟨d,u,x,j⟩
end
structure It where
 go:Nat->Hp->Prop
 yld:Nat->Hp->V->Hp->Prop
 stop:Nat->Hp->Prop
def qea(X:Cx)(pins:List (Addr×Obj))(H:Hp)(b:Addr):Prop:=
 H b=none/\b≠X.env.locals/\b∉X.fs/\(b∈X.ex\/X.s₀.heap.objs.size<=b)/\(∀ x c,X.env.cells.lookup x=some c->c≠b)/\∀ p∈X.pn++pins,p.1≠b
theorem Inv.fpOk{H':Hp}(I:Inv X pins σ H s)(hb:s.heap.objs.size<=b)(a:H' b=none):qea X pins H' b:=by
 show⟨a,xJ (yk I.lt hb),I.nofs hb,.inr (yj I.sz hb),λx c e z=>?_,λp d z=>?_⟩
 .obtain⟨v,q⟩:=I.cell x c e;show absurd (yk q.lt (by rw[z];show hb)) (Yp _)
 .show absurd (yk (yO (I.pin p d).1) (by rw[z];show hb)) (Yp _)
structure Turn(P:Program)(w:World)(K:yh)(tg:Expr)(J:It)(fp:LI)(it:Addr)(tn:Nat->Heap->Prop):Prop where
 mem:it∈fp
 obj:∀ i h,tn i h->∀ b∈fp,∃ o,h.get? b=some o/\∀ v,o.data≠.cell v
 keep:∀ i h h',tn i h->(∀ b∈fp,∀ o,h.get? b=some o->h'.get? b=some o)->tn i h'
 item:∀(X:Cx),X.prog=P->X.w=w->X.K=K->X.calm=true->∀(i:Nat) (pins:List (Addr×Obj)) (s:Shared) (σ:St) (H:Hp) (E:Value->Shared->Prop),Inv X pins σ H s->(∀ b∈fp,qea X pins H b)->tn i s.heap->J.go i H ->
  wpAny (model P w) X.A (pyNext (.ref it)) (λr s1=>∃ u,r=some u /\
   wpAny (model P w) X.A (letOwnedTupleGo tg (.ref it) u) (λ_ s2=>∃ x H',Inv X pins σ H' s2/\RelV x u/\J.yld i H x H'/\tn (i+1) s2.heap/\∀ b∈fp,H' b=none) E s1) E s
 done:∀(X:Cx),X.prog=P->X.w=w->X.K=K->X.calm=true->∀(i:Nat) (pins:List (Addr×Obj)) (s:Shared) (σ:St) (H:Hp) (E:Value->Shared->Prop),Inv X pins σ H s->(∀ b∈fp,qea X pins H b)->tn i s.heap->J.stop i H ->
  wpAny (model P w) X.A (pyNext (.ref it)) (λr s1=>r=none/\Inv X pins σ H s1) E s
 self:∀(A:Around) (i:Nat) (s:Shared) (Q:Value->Shared->Prop) (E:Value->Shared->Prop),tn i s.heap->Q (.ref it) s->wpAny (model P w) A (pyIter (.ref it)) Q E s
abbrev TI:=St->Hp->(It->Hp->Prop)->Prop
def PIE(X:Cx)(pins:List (Addr×Obj))(σ:St)(tg:Expr)(R:It->Hp->Prop)(a:Value)(c:Shared):Prop:=
 ∃(it:Addr) (fp:LI) (tn:Nat->Heap->Prop) (J:It) (H':Hp),a=.ref it/\Inv X pins σ H' c/\Turn X.prog X.w X.K tg J fp it tn/\tn 0 c.heap/\(∀ b∈fp,qea X pins H' b)/\R J H'
def PI(X:Cx)(tg a:Expr)(c:TI):Prop:=
 ∀(pins:List (Addr×Obj)) (s:Shared) (σ:St) (H:Hp) (R:It->Hp->Prop),Inv X pins σ H s->c σ H R ->
  wpAny (model X.prog X.w) X.A (eval a X.env) (λv b=>wpAny (model X.prog X.w) X.A (pyIter v) (PIE X pins σ tg R) X.xe b) X.xe s
theorem qgu{o:Obj}{n:String}{vs:Array Value}{Q:Unit->Shared->Prop}(d:s.heap.get? it=some o)(hc:o.cls=.type n)(b:o.data=.fields vs)
    (c:["enumerate","zip","dict_itemiterator","dict_reverseitemiterator","odict_iterator","itertools.zip_longest","itertools.pairwise"].contains n=false) (a:Q () s):wpAny M A (letOwnedTupleGo tg (.ref it) u) Q E s:=by
  unfold letOwnedTupleGo;cases tg<;>first
    | show yA a
    | (cases u<;>first
        | show yA a
        | (show yt (wpAny_load d ?_)
           rw[hc,b];show wpAny M A (if (["enumerate","zip","dict_itemiterator","dict_reverseitemiterator","odict_iterator","itertools.zip_longest","itertools.pairwise"].contains n&&vs[0]?==some (rawInt _))=true then _ else _) Q E s;rw[yE (by intro h;rw[c,kH] at h;cases h)];show yA a))
def Itl(K:yh)(a:Addr):It:=
 ⟨λi H=>∃ xs x,SqL K H a xs/\xs[i]?=some x,λi H x H'=>H'=H/\∀ xs,SqL K H a xs->xs[i]?=some x,λi H=>∃ xs,SqL K H a xs/\xs.length<=i⟩
def Itt(K:yh)(a:Addr):It:=
 ⟨λi H=>∃ xs x,SqT K H a xs/\xs[i]?=some x,λi H x H'=>H'=H/\∀ xs,SqT K H a xs->xs[i]?=some x,λi H=>∃ xs,SqT K H a xs/\xs.length<=i⟩
def Itr(lo:Int)(n:Nat):It:=⟨λi _=>i<n,λi H x H'=>H'=H/\x=.int (lo+i),λi _=>n<=i⟩
theorem qdD{K:yh}(a it:Addr):Turn P w K tg (Itl K a) [it] it (λi h=>h.IsListIter it a i) where
 mem:=by simp
 obj:=λi h st b hb=>by
  have e:b=it:=by simpa using hb
  subst e;obtain⟨o,e,c,d⟩:=st;show⟨o,e,λv z=>by rw[d] at z;cases z⟩
 keep:=λi h h' st k=>st.at λo e=>k it (by simp) o e
 item:=by
  intro X y hw t hc i pins s σ H E I g st A;subst y hw t;obtain⟨xs,x,j,B⟩:=A;obtain⟨C,D,p,N⟩:=I.list j;obtain⟨u,L,O⟩:=D.get B;obtain⟨l,m,J,n,q,r⟩:=g it (by simp);show wpAny_pyNext_list_item st p.isList (x:=u) (by simpa using L) λh' f R=>?_;have F:Inv X pins σ H { s with heap:=h' }:=I.turned (t':=s.toks) (λb o hb e=>(R.2 b hb).trans e) l m n q r;obtain⟨o,e,c,d⟩:=id f;show⟨u,rfl,qgu (s:={ s with heap:=h' }) e c d (by decide) ⟨x,H,F,O,⟨rfl,λys M=>by rw[I.list_inj M j];show B⟩,f,λb hb=>(g b hb).1⟩⟩
 done:=by
  intro X y hw t hc i pins s σ H E I g st A;subst y hw t;obtain⟨xs,j,B⟩:=A;obtain⟨C,D,p,N⟩:=I.list j;obtain⟨l,m,J,n,q,r⟩:=g it (by simp);have hl:=D.length;show wpAny_pyNext_list_end (I.ok.hd hc) st p.isList (by simp;lk) λh' G=>⟨rfl,I.turned (t':=s.toks) (λb o hb e=>G b o hb e) l m n q r⟩
 self:=λ_ _ _ _ _ st h=>wpAny_pyIter_listiter st h
theorem turn_tuple{K:yh}(a it:Addr):Turn P w K tg (Itt K a) [it] it (λi h=>h.IsTupleIter it a i) where
 mem:=by simp
 obj:=λi h st b hb=>by
  have e:b=it:=by simpa using hb
  subst e;obtain⟨o,e,c,d⟩:=st;show⟨o,e,λv z=>by rw[d] at z;cases z⟩
 keep:=λi h h' st k=>st.at λo e=>k it (by simp) o e
 item:=by
  intro X A hw y hc i pins s σ H E I j st B;subst A hw y;obtain⟨xs,x,l,C⟩:=B;obtain⟨f,D,p,N⟩:=I.tuple l;obtain⟨u,L,O⟩:=D.get C;obtain⟨m,n,J,q,r,t⟩:=j it (by simp);show wpAny_pyNext_tuple_item st (show s.heap.IsTuple a f.toArray from p) (x:=u) (by simpa using L) λh' g R=>?_;have F:Inv X pins σ H { s with heap:=h' }:=I.turned (t':=s.toks) (λb o hb e=>(R.2 b hb).trans e) m n q r t;obtain⟨o,e,c,d⟩:=id g;show⟨u,rfl,qgu (s:={ s with heap:=h' }) e c d (by decide) ⟨x,H,F,O,⟨rfl,λys M=>by rw[I.tuple_inj M l];show C⟩,g,λb hb=>(j b hb).1⟩⟩
 done:=by
  intro X A hw y hc i pins s σ H E I j st B;subst A hw y;obtain⟨xs,l,C⟩:=B;obtain⟨f,D,p,N⟩:=I.tuple l;obtain⟨m,n,J,q,r,t⟩:=j it (by simp);have hl:=D.length;show wpAny_pyNext_tuple_end (I.ok.hd hc) st (show s.heap.IsTuple a f.toArray from p) (by simp;lk) λh' G=>⟨rfl,I.turned (t':=s.toks) (λb o hb e=>G b o hb e) m n q r t⟩
 self:=λ_ _ _ _ _ st h=>wpAny_pyIter_tupleiter st h
theorem turn_range{K:yh}(it:Addr)(lo:Int)(n:Nat):Turn P w K tg (Itr lo n) [it] it (λi h=>IsRangeIter h it (lo+(i:Nat)*1) ((n:Int)-(i:Nat)) 1) where
 mem:=by simp
 obj:=λi h st b hb=>by
  have e:b=it:=by simpa using hb
  subst e
  show⟨_,st,λv z=>by
   have A:Data.fields _=Data.cell v:=z;cases A⟩
 keep:=λi h h' st k=>k it (by simp) _ st
 item:=by
  intro X p hw m hc i pins s σ H E I c st q;subst p hw m;obtain⟨d,f,x,g,j,l⟩:=c it (by simp);have W:=Walks.range (prog:=X.prog) (w:=X.w) (I.ok.hd hc) it lo 1 n;show W.item i s _ _ q st λv h' tk hv a y=>?_;obtain⟨t,rfl⟩:=hv;have r:Inv X pins σ H { s with heap:=h',toks:=tk }:=I.turned (λb o hb e=>y b o (by simpa using hb) e) d f g j l;show⟨_,rfl,qgu (s:={ s with heap:=h',toks:=tk }) (n:="range_iterator") a rfl rfl (by decide) ⟨.int (lo+i),H,r,⟨t,?_⟩,⟨rfl,rfl⟩,a,λb hb=>(c b hb).1⟩⟩;rw[Int.mul_one]
 done:=by
  intro X p hw m hc i pins s σ H E I c st q;subst p hw m;obtain⟨d,f,x,g,j,l⟩:=c it (by simp);show wpAny_pyNext_range_end (I.ok.hd hc) st (by have:n<=i:=q;lk) λh' u=>⟨rfl,I.turned (t':=s.toks) (λb o hb e=>u b o hb e) d f g j l⟩
 self:=λ_ _ _ _ _ st h=>wpAny_pyIter_rangeiter st h
section
variable{X:Cx}{tg:Expr}
theorem qeA{R:It->Hp->Prop}{a:Int}{t u v:Tok}{tk:Nat}(I:Inv X pins σ H s)(h1:-(2 ^ 62)<=lo)(g:lo<2 ^ 62)(h:-(2 ^ 62)<=a)(i:a<2 ^ 62)
  (q:R (Itr lo (a-lo).toNat) H):wpAny (model X.prog X.w) X.A (pyIter (.ref s.heap.objs.size)) (PIE X pins σ tg R) E { s with heap:=s.heap.push { cls:=.type "range",data:=.fields #[.int lo t,.int a u,.int 1 v] },toks:=tk }:=by
 show wpAny_pyIter_range (IsRange.new ..) (small_one h1 g h i) ?_;have c:Inv X pins σ H { s with heap:=s.heap.push { cls:=.type "range",data:=.fields #[.int lo t,.int a u,.int 1 v] },toks:=tk }:=I.kept λb o e=>yv _ e;show⟨(s.heap.push { cls:=.type "range",data:=.fields #[.int lo t,.int a u,.int 1 v] }).objs.size,[(s.heap.push { cls:=.type "range",data:=.fields #[.int lo t,.int a u,.int 1 v] }).objs.size],_,_,H,rfl,
  c.kept (t':=tk) λb o e=>yv _ e,turn_range _ lo (a-lo).toNat,?_,λb hb=>?_,q⟩
 .have d:lo+((0:Nat):Int)*1=lo:=by simp
  have f:(((a-lo).toNat:Nat):Int)-((0:Nat):Int)=Builtin.Range.rangeSize lo a 1:=by rw[rangeSize_one];split<;>lk
  show IsRangeIter _ _ (lo+((0:Nat):Int)*1) ((((a-lo).toNat:Nat):Int)-((0:Nat):Int)) 1;rw[d,f];show yS _ rfl
 .have e:b=(s.heap.push { cls:=.type "range",data:=.fields #[.int lo t,.int a u,.int 1 v] }).objs.size:=by simpa using hb
  subst e;show c.fpOk (yi _) (c.hok.fresh (yi _))
def qhQ(ta:TA):TI:=fun σ H R=>ta σ H λvs a=>∃ j:Int,vs=[.int j]/\-(2 ^ 62)<=j/\j<2 ^ 62/\R (Itr 0 j.toNat) a
def qhR(ta:TA):TI:=fun σ H R=>ta σ H λvs a=>∃ i j:Int,vs=[.int i,.int j]/\(-(2 ^ 62)<=i/\i<2 ^ 62/\-(2 ^ 62)<=j/\j<2 ^ 62)/\R (Itr i (j-i).toNat) a
theorem jz{a:Expr}(f:Gl X "range")(g:X.mg "range"=none)(d:PA X [a] ta)(i:starEach [a] X.env=[(false,eval a X.env)]:=by rfl):PI X tg (.Call (.Name "range" p) [a] [] pos) (qhQ ta):=by
 intro pins s σ H R I h;show Call_ (qb7 I f g boot_range (xj (thn (d pos pins s σ H _ I h) λus o ⟨vs,n,c,m,b⟩=>?_) i rfl));obtain⟨j,e,b,l,q⟩:=b;subst e
 cases m with
 | cons r rr =>
  cases rr;obtain⟨t,rfl⟩:=r;show call_range_1 (qeA c (by lk) (by lk) b l (by simpa using q))
theorem pi_range2{a b:Expr}(l:Gl X "range")(m:X.mg "range"=none)(g:PA X [a,b] ta)(n:starEach [a,b] X.env=[(false,eval a X.env),(false,eval b X.env)]:=by rfl)(c:starEach [b] X.env=[(false,eval b X.env)]:=by rfl) :
  PI X tg (.Call (.Name "range" p) [a,b] [] pos) (qhR ta):=by
 intro pins s σ H R I h;show Call_ (qb7 I l m boot_range (xj (thn (g pos pins s σ H _ I h) λus y ⟨vs,x,f,w,d⟩=>?_) (by rw[n,c]) (by rw[c];rfl)));obtain⟨i,j,e,⟨d,o,u,v⟩,q⟩:=d;subst e
 cases w with
 | cons r rr =>
  cases rr with
  | cons r' rr =>
   cases rr;obtain⟨t,rfl⟩:=r;obtain⟨t',rfl⟩:=r';show call_range_2 (qeA f d o u v q)
def qiw(f:TI)(g:TG)(tb:TS):TS:=λD σ H=>f σ H λJ d=>∃ W:Nat->Nat->St->Hp->Prop,(∃ m,W 0 m σ d)/\∀ i m σ H,W i m σ H ->
 (J.stop i H/\D.nx σ H)\/(J.go i H/\∃ N:St->Hp->Prop,(∀ a H',N a H'->∃ c,c<m/\W (i+1) c a H')/\∀ x H',J.yld i H x H'->g x σ H' λb e=>tb { D with nx:=N,ct:=N,bk:=D.nx } b e)
def qdE(fp:LI)(h:Heap):List (Addr×Obj):=fp.filterMap λb=>(h.get? b).map λo=>(b,o)
theorem qaY{o:Obj}(hb:b∈fp)(e:h.get? b=some o):(b,o)∈qdE fp h:=List.mem_filterMap.mpr ⟨b,hb,by rw[e];rfl⟩
theorem of_pinsAt{p:Addr×Obj}(c:p∈qdE fp h):p.1∈fp/\h.get? p.1=some p.2:=by
 obtain⟨b,hb,e⟩:=List.mem_filterMap.mp c
 cases q:h.get? b with
 | none=>rw[q] at e;cases e
 | some o =>
  rw[q] at e;have a:(b,o)=p:=yn e;subst a;show⟨hb,q⟩
theorem Inv.pinned(I:Inv X pins σ H s)(h:∀ b∈fp,qea X pins H b)(i:∀ b∈fp,∃ o,s.heap.get? b=some o/\∀ v,o.data≠.cell v):Inv X (pins++qdE fp s.heap) σ H s:=
 I.pins_of λp j=>(yP.mp j).elim (λz=>I.pin p (yU _ z)) λz=>by
  obtain⟨hb,e⟩:=of_pinsAt z;obtain⟨c,f,g,_⟩:=h p.1 hb;obtain⟨o,a,d⟩:=i p.1 hb;rw[e] at a;cases a;show⟨e,c,f,g,d⟩
theorem Inv.unpinned{pl:List (Addr×Obj)}(I:Inv X (pins++pl) σ H s):Inv X pins σ H s:=I.pins_of λp a=>I.pin p (yU _ (YB _ a))
theorem jq{p:Expr}{wi:TI}(E:PassesOwn (model X.prog X.w) X.A X.env X.xe)(hc:X.calm=true)(hi:PI X tg p wi)(hg:PG X tg g)(hb:PSs X body tb)
  (hs:∀ x,foldedSetIterable p X.env x=pure x:=by intro _;rfl):PS X (.For tg p body [] pos) (qiw wi g tb):=by
 intro pins s σ H D I h;show wpAny_For (thn (hi pins s σ H _ I h) λv s1 h1=>thn h1 λaa s2 h2=>?_) hs;obtain⟨it,fp,tn,J,H2,e,I2,T,U,f2,W,⟨m0,w0⟩,L⟩:=h2;subst e;have q:∀{H':Hp},(∀ b∈fp,H' b=none)->∀ b∈fp,qea X pins H' b:=λhn b hb=>⟨hn b hb,(f2 b hb).2⟩;show codeAny_forLoop_any (λn s'=>∃ i t H',Inv X pins t H' s'/\tn i s'.heap/\(∀ b∈fp,H' b=none)/\W i n t H') ?_ m0 ⟨0,σ,H2,I2,U,λb hb=>(f2 b hb).1,w0⟩;rintro n s3 ⟨i,y,M,I3,G,C,w3⟩;rcases L i n y M w3 with⟨K,qn⟩ | ⟨go,N,hN,step⟩
 .show Xc E (thn (T.done X rfl rfl rfl hc i pins s3 y M X.xe I3 (q C) G K) λr s4 ⟨R,I4⟩=>?_);subst R;show ku ⟨y,M,I4,qn⟩
 .show Xc E (thn (T.item X rfl rfl rfl hc i pins s3 y M X.xe I3 (q C) G go) λr s4 ⟨u,R,h4⟩=>?_);subst R;show Xc E (thn h4 λ_ s5 ⟨x,Z,I5,r5,y5,B,P⟩=>?_);have O:=I5.pinned (q P) (T.obj _ _ B);show Xc E (thn (hg _ s5 y Z x u _ O r5 (step x Z y5)) λ_ s6 ⟨Y,H6,I6,q6⟩=>?_);show Xc E (thn (hb _ s6 Y H6 _ I6 q6) λf S z=>?_)
  have l:∀{a:St} {c:Hp},Inv X (pins++qdE fp s5.heap) a c S->N a c->∃ m,m<n/\∃ i t H',Inv X pins t H' S/\tn i S.heap/\(∀ b∈fp,H' b=none)/\W i m t H':=λ{a c} j F=>by
   obtain⟨m',hm,w7⟩:=hN a c F;show⟨m',hm,i+1,a,c,j.unpinned,T.keep _ _ _ B λb hb o e=>(j.pin (b,o) (yU _ (yU _ (qaY hb e)))).1,λb hb=>?_,w7⟩;obtain⟨o,e,d⟩:=T.obj _ _ B b hb;show(j.pin (b,o) (yU _ (yU _ (qaY hb e)))).2.1
  cases f with
  | next=>obtain⟨a,c,j,F⟩:=z;show l j F
  | cont=>obtain⟨a,c,j,F⟩:=z;show l j F
  | brk=>obtain⟨a,c,j,z⟩:=z;show⟨a,c,j.unpinned,z⟩
  | ret v=>obtain⟨x7,a,c,j,r7,z⟩:=z;show⟨x7,a,c,j.unpinned,r7,z⟩
end
theorem jX{K:yh}(b:Nat->St->Hp->Prop)(l:b 0 σ H)(hl:∀ i σ H,i<=xs.length->b i σ H->SqL K H a xs)
  (r:∀ i x σ H,xs[i]?=some x->b i σ H->g x σ H λd h=>tb { D with nx:=b (i+1),ct:=b (i+1),bk:=D.nx } d h) (n:∀ σ H,b xs.length σ H->D.nx σ H) :
  ∃ W:Nat->Nat->St->Hp->Prop,(∃ m,W 0 m σ H)/\∀ i m σ H,W i m σ H ->
   ((Itl K a).stop i H/\D.nx σ H)\/((Itl K a).go i H/\∃ N:St->Hp->Prop,(∀ c H',N c H'->∃ j,j<m/\W (i+1) j c H')/\∀ x H',(Itl K a).yld i H x H'->g x σ H' λd h=>tb { D with nx:=N,ct:=N,bk:=D.nx } d h):=by
 show⟨λi m σ H=>m=xs.length-i/\i<=xs.length/\b i σ H,⟨xs.length,by simp,Y5 _,l⟩,?_⟩;rintro i m σ H ⟨rfl,o,p⟩;have q:=hl i σ H o p;by_cases f:i<xs.length
 .show .inr ⟨⟨xs,xs[i],q,by simp[f]⟩,b (i+1),λc H' s=>⟨xs.length-(i+1),by lk,rfl,f,s⟩,λx H' y=>?_⟩;obtain⟨e,y⟩:=y;subst e;show r i x σ _ (y xs q) p
 .have e:i=xs.length:=by lk
  subst e;show .inl ⟨⟨xs,q,yi _⟩,n σ H p⟩
theorem for_tup{K:yh}(b:Nat->St->Hp->Prop)(l:b 0 σ H)(hl:∀ i σ H,i<=xs.length->b i σ H->SqT K H a xs)
  (r:∀ i x σ H,xs[i]?=some x->b i σ H->g x σ H λd h=>tb { D with nx:=b (i+1),ct:=b (i+1),bk:=D.nx } d h) (n:∀ σ H,b xs.length σ H->D.nx σ H) :
  ∃ W:Nat->Nat->St->Hp->Prop,(∃ m,W 0 m σ H)/\∀ i m σ H,W i m σ H ->
   ((Itt K a).stop i H/\D.nx σ H)\/((Itt K a).go i H/\∃ N:St->Hp->Prop,(∀ c H',N c H'->∃ j,j<m/\W (i+1) j c H')/\∀ x H',(Itt K a).yld i H x H'->g x σ H' λd h=>tb { D with nx:=N,ct:=N,bk:=D.nx } d h):=by
 show⟨λi m σ H=>m=xs.length-i/\i<=xs.length/\b i σ H,⟨xs.length,by simp,Y5 _,l⟩,?_⟩;rintro i m σ H ⟨rfl,o,p⟩;have q:=hl i σ H o p;by_cases f:i<xs.length
 .show .inr ⟨⟨xs,xs[i],q,by simp[f]⟩,b (i+1),λc H' s=>⟨xs.length-(i+1),by lk,rfl,f,s⟩,λx H' y=>?_⟩;obtain⟨e,y⟩:=y;subst e;show r i x σ _ (y xs q) p
 .have e:i=xs.length:=by lk
  subst e;show .inl ⟨⟨xs,q,yi _⟩,n σ H p⟩
theorem jI(a:Nat->St->Hp->Prop)(j:a 0 σ H)
  (o:∀ i σ H,i<n->a i σ H->g (.int (lo+i)) σ H λd f=>tb { D with nx:=a (i+1),ct:=a (i+1),bk:=D.nx } d f) (l:∀ σ H,a n σ H->D.nx σ H) :
  ∃ W:Nat->Nat->St->Hp->Prop,(∃ m,W 0 m σ H)/\∀ i m σ H,W i m σ H ->
   ((Itr lo n).stop i H/\D.nx σ H)\/((Itr lo n).go i H/\∃ N:St->Hp->Prop,(∀ c H',N c H'->∃ h,h<m/\W (i+1) h c H')/\∀ x H',(Itr lo n).yld i H x H'->g x σ H' λd f=>tb { D with nx:=N,ct:=N,bk:=D.nx } d f):=by
 show⟨λi m σ H=>m=n-i/\i<=n/\a i σ H,⟨n,by simp,Y5 _,j⟩,?_⟩;rintro i m σ H ⟨rfl,r,p⟩;by_cases b:i<n
 .show .inr ⟨b,a (i+1),λc H' q=>⟨n-(i+1),by lk,rfl,b,q⟩,λx H' y=>?_⟩;obtain⟨e,y⟩:=y;subst e y;show o i σ _ b p
 .have e:i=n:=by lk
  subst e;show .inl ⟨yi _,l σ H p⟩
abbrev R2:=V->V->Hp->VK->Prop
def OpR(X:Cx)(f:Value->Value->Sem Value)(r:R2):Prop:=
 ∀(pins:List (Addr×Obj)) (s:Shared) (σ:St) (H:Hp) (x y:V) (v u:Value) (Q:VK),Inv X pins σ H s->RelV x v->RelV y u->r x y H Q ->
  wpAny (model X.prog X.w) X.A (f v u) (EP X pins σ Q) X.xe s
def UnR(X:Cx)(f:Value->Sem Value)(r:V->Hp->VK->Prop):Prop:=
 ∀(pins:List (Addr×Obj)) (s:Shared) (σ:St) (H:Hp) (x:V) (v:Value) (Q:VK),Inv X pins σ H s->RelV x v->r x H Q ->
  wpAny (model X.prog X.w) X.A (f v) (EP X pins σ Q) X.xe s
def zR(X:Cx)(f:Value)(r:List V->Hp->VK->Prop):Prop:=
 ∀(pins:List (Addr×Obj)) (s:Shared) (σ:St) (H:Hp) (xs:List V) (us:List Value) (Q:VK),Inv X pins σ H s->Vals xs us->r xs H Q ->
  wpAny (model X.prog X.w) X.A (call f us) (EP X pins σ Q) X.xe s
def tOp(r:R2)(ta tb:TE):TE:=fun σ H Q=>ta σ H λx a=>tb σ a λy b=>r x y b Q
def tUn(r:V->Hp->VK->Prop)(ta:TE):TE:=fun σ H Q=>ta σ H λx a=>r x a Q
def rI(C:Int->Int->Prop)(g:Int->Int->V):R2:=λx y H Q=>∃ i j,x=.int i/\y=.int j/\C i j/\Q (g i j) H
def rI0(g:Int->Int->V):R2:=λx y H Q=>∃ i j,x=.int i/\y=.int j/\Q (g i j) H
def rU(g:Int->V):V->Hp->VK->Prop:=λx H Q=>∃ i,x=.int i/\Q (g i) H
section
variable{X:Cx}{a b c:Expr}{ta tb tc:TE}{pos:Pos}
theorem qii(m:PE X a ta)(hb:PE X b tb){R:V->V->Hp->Prop}(I:Inv X pins σ H s)
  (h:ta σ H λx i=>tb σ i λy c=>R x y c) {Q:Value->Shared->Prop}
  (n:∀ v u g x y c,Inv X pins σ c g->RelV x v->RelV y u->R x y c->wpAny (model X.prog X.w) X.A (f v u) Q X.xe g) :
  wpAny (model X.prog X.w) X.A (eval a X.env) (λv d=>wpAny (model X.prog X.w) X.A (eval b X.env) (λu e=>wpAny (model X.prog X.w) X.A (f v u) Q X.xe e) X.xe d) X.xe s:=by
 show thn (m pins s σ H _ I h) λv t ⟨x,i,j,q,o⟩=>?_;show thn (hb pins t σ i _ j o) λu g ⟨y,c,l,r,p⟩=>?_;show n v u g x y c l q r p
theorem qM{op:Operator}(f:OpR X (binaryOp op) r)(e:PE X a ta)(hb:PE X b tb):PE X (.BinOp a op b pos) (tOp r ta tb):=by
 intro pins s σ H Q I h;show wpAny_BinOp (qii e hb I h λv u j x y c d g i q=>f pins j σ c x y v u Q d g i q)
theorem qfu{op:UnaryOp}{r:V->Hp->VK->Prop}(e:UnR X (unaryOp op) r)(d:PE X a ta):PE X (.UnaryOp op a pos) (tUn r ta):=by
 intro pins s σ H Q I h;show UnaryOp_ (thn (d pins s σ H _ I h) λv i ⟨x,b,c,g,f⟩=>e pins i σ b x v Q c g f)
theorem opI{C:Int->Int->Prop}{g:Int->Int->Int}
  (a:∀(i j:Int) (t u:Tok) (s:Shared) (Q:Value->Shared->Prop) (E:Value->Shared->Prop),C i j->Q (.int (g i j) s.toks) { s with toks:=s.toks+1 }->wpAny (model X.prog X.w) X.A (f (.int i t) (.int j u)) Q E s) :
  OpR X f (rI C λi j=>.int (g i j)):=by
 intro pins s σ H x y v u Q I b c h;obtain⟨i,j,rfl,rfl,hc,q⟩:=h;obtain⟨t,rfl⟩:=b;obtain⟨t',rfl⟩:=c;show a i j t t' s _ _ hc ⟨.int (g i j),H,I.tok _,⟨_,rfl⟩,q⟩
theorem qhS{g:Int->Int->Int}
  (a:∀(i j:Int) (t u:Tok) (s:Shared) (Q:Value->Shared->Prop) (E:Value->Shared->Prop),Q (.int (g i j) s.toks) { s with toks:=s.toks+1 }->wpAny (model X.prog X.w) X.A (f (.int i t) (.int j u)) Q E s) :
  OpR X f (rI0 λi j=>.int (g i j)):=by
 intro pins s σ H x y v u Q I b c h;obtain⟨i,j,rfl,rfl,q⟩:=h;obtain⟨t,rfl⟩:=b;obtain⟨t',rfl⟩:=c;show a i j t t' s _ _ ⟨.int (g i j),H,I.tok _,⟨_,rfl⟩,q⟩
theorem qib{g:Int->Int->Bool}
  (a:∀(i j:Int) (t u:Tok) (s:Shared) (Q:Value->Shared->Prop) (E:Value->Shared->Prop),Q (.bool (g i j)) s->wpAny (model X.prog X.w) X.A (f (.int i t) (.int j u)) Q E s) :
  OpR X f (rI0 λi j=>.bl (g i j)):=by
 intro pins s σ H x y v u Q I b c h;obtain⟨i,j,rfl,rfl,q⟩:=h;obtain⟨t,rfl⟩:=b;obtain⟨t',rfl⟩:=c;show a i j t t' s _ _ ⟨.bl (g i j),H,I,rfl,q⟩
def CDiv(i j:Int):Prop:=0<j/\j<1073741824
def qix(i j:Int):Prop:=0<=j/\j<=1000000/\i.natAbs<2 ^ 64
def CMul(i j:Int):Prop:=(-(2 ^ 64)<i/\i<2 ^ 64)\/(-(2 ^ 64)<j/\j<2 ^ 64)
theorem CMul.ok{i j:Int}(h:CMul i j):IntMulOk i j:=by
 rcases h with⟨h1,a⟩ | ⟨h1,a⟩
 .show .of_left (intBits_le_64 h1 a)
 .show .of_right (intBits_le_64 h1 a)
theorem two_pow_nn(k:Nat):(0:Int)<=2 ^ k:=by
 rw[two_pow_cast];show Int.natCast_nonneg _
theorem op_add:OpR X (binaryOp .Add) (rI0 λi j=>.int (i+j)):=qhS λ_ _ _ _ _ _ _ q=>add_int q
theorem qcu:OpR X (binaryOp .Sub) (rI0 λi j=>.int (i-j)):=qhS λ_ _ _ _ _ _ _ q=>sub_int q
theorem op_mul:OpR X (binaryOp .Mult) (rI CMul λi j=>.int (i*j)):=opI λ_ _ _ _ _ _ _ hc q=>mul_int q hc.ok
theorem op_fdiv:OpR X (binaryOp .FloorDiv) (rI CDiv λi j=>.int (i / j)):=opI λi j _ _ _ _ _ hc q=>by
 have h1:(0:Int)<j:=hc.1;have a:j<1073741824:=hc.2;show floordiv_int (by lk) (by rw[Int.fdiv_eq_ediv_of_nonneg i (by lk)];show q) (.inl (PyProof.noPylong_small (by lk)))
theorem zJ:OpR X (binaryOp .Mod) (rI (λ_ j=>0<j) λi j=>.int (i % j)):=opI λi j _ _ _ _ _ hc q=>by
 have h1:(0:Int)<j:=hc;show mod_int' (by lk) (by rw[Int.fmod_eq_emod_of_nonneg i (by lk)];show q)
theorem op_pow:OpR X (binaryOp .Pow) (rI qix λi j=>.int (i ^ j.toNat)):=opI λ_ _ _ _ _ _ _ hc q=>pow_int_small hc.1 hc.2.1 hc.2.2 q
theorem qdF:OpR X (binaryOp .LShift) (rI qix λi j=>.int (i*2 ^ j.toNat)):=opI λ_ _ _ _ _ _ _ hc q=>lshift_int_small hc.1 hc.2.1 hc.2.2 q
theorem op_shr:OpR X (binaryOp .RShift) (rI (λ_ j=>0<=j) λi j=>.int (i / 2 ^ j.toNat)):=opI λi j _ _ _ _ _ hc q =>
 rshift_int hc (by rw[Int.fdiv_eq_ediv_of_nonneg i (two_pow_nn _)];show q)
theorem op_and:OpR X (binaryOp .BitAnd) (rI0 λi j=>.int (Builtin.bitAnd i j)):=qhS λ_ _ _ _ _ _ _ q=>and_int q
theorem qgv:OpR X (binaryOp .BitOr) (rI0 λi j=>.int (Builtin.bitOr i j)):=qhS λ_ _ _ _ _ _ _ q=>or_int q
theorem qeB:OpR X (binaryOp .BitXor) (rI0 λi j=>.int (Builtin.bitXor i j)):=qhS λ_ _ _ _ _ _ _ q=>xor_int q
theorem unI{f:Value->Sem Value}{g:Int->Int}
  (a:∀(i:Int) (t:Tok) (s:Shared) (Q:Value->Shared->Prop) (E:Value->Shared->Prop),Q (.int (g i) s.toks) { s with toks:=s.toks+1 }->wpAny (model X.prog X.w) X.A (f (.int i t)) Q E s) :
  UnR X f (rU λi=>.int (g i)):=by
 intro pins s σ H x v Q I b h;obtain⟨i,rfl,q⟩:=h;obtain⟨t,rfl⟩:=b;show a i t s _ _ ⟨.int (g i),H,I.tok _,⟨_,rfl⟩,q⟩
theorem qdG:UnR X (unaryOp .USub) (rU λi=>.int (-i)):=unI λ_ _ _ _ _ q=>neg_int q
end
def scal:V->V->Bool
 | .non,.non=>true | .non,.int _=>true | .int _,.non=>true | .non,.bl _=>true | .bl _,.non=>true | .non,.str _=>true | .str _,.non=>true
 | .int _,.int _=>true | .bl _,.bl _=>true | .str _,.str _=>true | .byt _,.byt _=>true
 | .int _,.str _=>true | .str _,.int _=>true | .bl _,.str _=>true | .str _,.bl _=>true
 | _,_=>false
def rEq:R2:=λx y H Q=>scal x y=true/\Q (.bl (decide (x=y))) H
theorem dec_bl{i j:Bool}:decide (V.bl i=V.bl j)=(i==j):=by
 rw[yT];simp
section
variable{X:Cx}{a b c:Expr}{ta tb tc:TE}{pos:Pos}
theorem qeC{Q:VK}{k k':Bool}(I:Inv X pins σ H s)(q:Q (.bl k) H)(e:k=k'):EP X pins σ Q (.bool k') s:=by
 subst e;show⟨.bl k,H,I,rfl,q⟩
theorem qdH:OpR X (compareOp .Lt) (rI0 λi j=>.bl (decide (i<j))):=qib λ_ _ _ _ _ _ _ q=>lt_int q
theorem op_le:OpR X (compareOp .LtE) (rI0 λi j=>.bl (decide (i<=j))):=qib λ_ _ _ _ _ _ _ q=>le_int q
theorem qdI:OpR X (compareOp .Gt) (rI0 λi j=>.bl (decide (j<i))):=qib λ_ _ _ _ _ _ _ q=>gt_int q
theorem op_ge:OpR X (compareOp .GtE) (rI0 λi j=>.bl (decide (j<=i))):=qib λ_ _ _ _ _ _ _ q=>ge_int q
theorem op_isN:OpR X (compareOp .Is) (λx y H Q=>y=.non/\Q (.bl (decide (x=.non))) H):=by
 intro pins s σ H x y v u Q I a b h;obtain⟨rfl,q⟩:=h;cases b;show is_none_gen (qeC I q ?_);cases x<;>first
  | (cases a;rfl)
  | (obtain⟨t,rfl⟩:=a;rfl)
theorem op_notN:OpR X (compareOp .IsNot) (λx y H Q=>y=.non/\Q (.bl (!decide (x=.non))) H):=by
 intro pins s σ H x y v u Q I a b h;obtain⟨rfl,q⟩:=h;cases b;show isnot_none_gen (qeC I q ?_);cases x<;>first
  | (cases a;rfl)
  | (obtain⟨t,rfl⟩:=a;rfl)
theorem qu(b:Expr)(h:op≠.In:=by decide)(d:op≠.NotIn:=by decide):behindInMarks op b=false:=by
 have a:(op==CmpOp.In)=false:=by cases op<;>first | rfl | show absurd rfl h
 have c:(op==CmpOp.NotIn)=false:=by cases op<;>first | rfl | show absurd rfl d
 cases b<;>simp[behindInMarks,a,c]
theorem qW(g:OpR X (compareOp op) r)(e:PE X a ta)(hb:PE X b tb)(f:behindInMarks op b=false):PE X (.Compare a [op] [b] pos) (tOp r ta tb):=by
 intro pins s σ H Q I h;show wpAny_Compare1 (qii e hb I h λv u l x y c d i j q=>g pins l σ c x y v u Q d i j q) f
def qgw(t:TE):TT:=fun σ H Q=>t σ H λx H'=>∃ k,x=.bl k/\Q k H'
theorem qj(o:OpR X (compareOp op) r)(m:PE X a ta)(hb:PE X b tb)(n:behindInMarks op b=false):PT X (.Compare a [op] [b] pos) (qgw (tOp r ta tb)):=by
 intro pins s σ H Q I h
 show wpAny_isTrue_Compare1 (thn (m pins s σ H _ I h) λv C ⟨x,d,i,w,p⟩=>thn (hb pins C σ d _ i p) λu D ⟨y,f,j,A,q⟩ =>
  thn (o pins D σ f x y v u _ j w A q) λc E ⟨z,g,l,B,k,e,t⟩=>?_) n
 subst e;cases B;show xk ⟨g,l,t⟩
def qfv(r r':R2)(ta tb tc:TE):TE:=fun σ H Q=>ta σ H λx b=>tb σ b λy c=>r x y c λz a=>∃ k,z=.bl k /\
 (if k=true then tc σ a λe d=>r' y e d Q else Q (.bl false) a)
theorem qc9(B:OpR X (compareOp op) r)(f:OpR X (compareOp op') r')(w:PE X a ta)(hb:PE X b tb)(hc:PE X c tc)
  (A:lastMarks [op,op'] [b,c]=false:=by with_unfolding_all rfl):PE X (.Compare a [op,op'] [b,c] pos) (qfv r r' ta tb tc):=by
 intro pins s σ H Q I h
 show Compare_chain (thn (w pins s σ H _ I h) λv K ⟨x,m,p,F,C⟩=>chain_link (thn (hb pins K σ m _ p C) λu L ⟨y,n,q,l,D⟩ =>
  thn (B pins L σ n x y v u _ q F l D) λd M ⟨z,g,i,G,k,e,j⟩=>?_)) A
 subst e;cases G;show xk ?_
 cases k with
 | false=>show ite_ff ⟨.bl false,g,i,rfl,j⟩
 | true=>show ite_tt (chain_last (thn (hc pins M σ g _ i j) λO N ⟨P,o,t,J,E⟩=>f pins N σ o y P u O Q t l J E))
theorem qeD(F:OpR X (compareOp op) r)(f:OpR X (compareOp op') r')(D:PE X a ta)(hb:PE X b tb)(hc:PE X c tc)
  (E:lastMarks [op,op'] [b,c]=false:=by with_unfolding_all rfl):PT X (.Compare a [op,op'] [b,c] pos) (qgw (qfv r r' ta tb tc)):=by
 intro pins s σ H Q I h
 show isTrue_chain (thn (D pins s σ H _ I h) λv S ⟨x,m,q,N,J⟩=>test_link (thn (hb pins S σ m _ q J) λu T ⟨y,n,t,l,K⟩ =>
  thn (F pins T σ n x y v u _ t N l K) λd U ⟨z,g,i,O,k,e,j⟩=>?_)) E
 subst e;cases O;show xk ?_
 cases k with
 | false =>
  obtain⟨k',B,G⟩:=j;cases B;show ite_ff ⟨g,i,G⟩
 | true =>
  show ite_tt (test_last (thn (hc pins U σ g _ i j) λY W ⟨Z,o,w,P,L⟩=>thn (f pins W σ o y Z u Y _ w l P L) λd' s5 ⟨z2,p,A,R,k2,C,M⟩=>?_));subst C;cases R;show xk ⟨p,A,M⟩
theorem qcV:(sizeLine:Nat)<2 ^ 63:=by rw[XE];decide
theorem op_add_str:OpR X (binaryOp .Add) (λx y H Q=>∃ i j,x=.str i/\y=.str j/\i.length+j.length<=sizeLine/\Q (.str (i++j)) H):=by
 intro pins s σ H x y v u Q I b c h;obtain⟨i,j,rfl,rfl,a,q⟩:=h;obtain⟨t,rfl⟩:=b;obtain⟨t',rfl⟩:=c;show add_str (λt' tk=>⟨.str (i++j),H,I.tok _,⟨_,rfl⟩,q⟩) a
theorem qbX{x:V}(r:Vals [x] us):∃ u,us=[u]/\RelV x u:=by
 cases r with
 | cons r1 r2=>cases r2;show⟨_,rfl,r1⟩
theorem qfw{x:V}(r:Vals [x,y] us):∃ u a,us=[u,a]/\RelV x u/\RelV y a:=by
 cases r with
 | cons r1 r2 =>
  cases r2 with
  | cons r3 r4=>cases r4;show⟨_,_,rfl,r1,r3⟩
theorem call_max2(hc:X.calm=true):zR X (.builtin "max") (λxs H Q=>∃ i j,xs=[.int i,.int j]/\Q (.int (if j>i then j else i)) H):=by
 intro pins s σ H xs us Q I r h;obtain⟨i,j,rfl,q⟩:=h;obtain⟨u,b,rfl,⟨t,rfl⟩,⟨t',rfl⟩⟩:=qfw r;show max_two_ints (I.ok.hd hc) λh' tk k=>⟨_,H,I.kept k,?_,q⟩;by_cases a:j>i
 .rw [yH a,yH a];show⟨_,rfl⟩
 .rw [yE a,yE a];show⟨_,rfl⟩
theorem call_min2(hc:X.calm=true):zR X (.builtin "min") (λxs H Q=>∃ i j,xs=[.int i,.int j]/\Q (.int (if j<i then j else i)) H):=by
 intro pins s σ H xs us Q I r h;obtain⟨i,j,rfl,q⟩:=h;obtain⟨u,b,rfl,⟨t,rfl⟩,⟨t',rfl⟩⟩:=qfw r;show min_two_ints (I.ok.hd hc) λh' tk k=>⟨_,H,I.kept k,?_,q⟩;by_cases a:j<i
 .rw [yH a,yH a];show⟨_,rfl⟩
 .rw [yE a,yE a];show⟨_,rfl⟩
end
structure ObjM(h:Heap)(x dx C:Addr)(mA:Str->Option Value):Prop where
 obj:h.get? x=some (PySem.W.instObj C dx)
 ns:h.Ns1 dx mA
 ne:dx≠x
theorem qdJ(n:h.Ns1 dx mA):∃ od,h.get? dx=some od/\∀ name,PySem.W.lookIn name od=some (mA name):=by
 obtain⟨o,es,ep,i,d,f,_,g⟩:=n;show⟨o,i,λname=>?_⟩;have e:=g name;unfold nsFind findBy at e;rw[<- Array.find?_toList] at e;unfold PySem.W.lookIn;rw[d];dsimp only;split
 .rename_i y q
  rw[q] at e;show congrArg some e
 .rename_i q
  rw[q] at e
  have a:es.toList.any (·.refKey)=false:=by
   rw[List.any_eq_false];intro y j;obtain⟨z,t,b⟩:=f y (Array.mem_toList_iff.mp j);simp[DictEntry.refKey,b]
  have c:¬ es.toList.any (·.refKey)=true:=by rw[a];show YH
  rw[yE c];show congrArg some e
theorem ObjM.look{x:Addr}(I:ObjM h x dx C mA):∃ od,PySem.W.InstAt h x (PySem.W.instObj C dx) C (some od)/\∀ name,PySem.W.lookIn name od=some (mA name):=
 let ⟨od,ho,hl⟩:=qdJ I.ns
 ⟨od,⟨I.obj,rfl,rfl,ho⟩,hl⟩
section
variable{prog:Program}{w:World}{A:Around}{E:Value->Shared->Prop}{s:Shared}{K:yh}{x dx C f:Addr}{mA:Str->Option Value}{name:Str}{v:Value}
theorem get_map{a:Bool}{Q:Value->Shared->Prop}(X:K.In s.heap)(I:ObjM s.heap x dx C mA)(d:PySem.W.plainGet K C name=true)(e:PySem.W.hasDictIn K C=true)
  (c:PySem.W.findIn K (.ref C) name=some none) (hv:mA name=some v) (b:PySem.W.handedIn v=true) (h:Q v { s with toks:=s.toks+1 }) :
  wpAny (model prog w) A (getAttr (.ref x) name a) Q E s:=by
 obtain⟨od,J,hl⟩:=I.look;show PySem.W.get_value X J (kC d).1 (PySem.W.findObj_own e c rfl (by rw[hl,hv])) b h
theorem get_meth{Q:Value×List Value->Shared->Prop}(X:K.In s.heap)(I:ObjM s.heap x dx C mA)(a:PySem.W.plainGet K C name=true)
  (b:PySem.W.findIn K (.ref C) name=some (some (.ref f))) (c:PySem.W.isFn K (.ref f)=true) (hv:mA name=none) (h:Q (.ref f,[.ref x]) s) :
  wpAny (model prog w) A (getMethod (.ref x) name pl) Q E s:=by
 obtain⟨od,J,hl⟩:=I.look;show PySem.W.method_fn X J (kC a).1 (kC a).2 b (Yo.mp c) (by show(PySem.W.lookIn name od).map (·.isSome)=some false;rw[hl,hv];rfl) h
theorem set_map{ns:LS}{Q:Unit->Shared->Prop}(X:K.In s.heap)(I:ObjM s.heap x dx C mA)
  (o:PySem.W.findIn K (.ref C) "__setattr__"=some (some (.builtin "object.__setattr__"))) (n:PySem.W.plainOver K C=true) (p:PySem.W.takerIn K C name=some none) (m:PySem.W.hasDictIn K C=true)
  (hw:PySem.Within mA ns) (hsz:ns.length<=sizeLine)
  (h:∀ h',ObjM h' x dx C (λy=>if y=name then some v else mA y)->Heap.SameBut dx s.heap h'->Q () { s with heap:=h',toks:=s.toks+2 }) :
  wpAny (model prog w) A (setAttr (.ref x) name v) Q E s:=by
 obtain⟨od,J,hl⟩:=I.look;show PySem.W.set_plain X J o (PySem.W.osa_open (s:={ s with toks:=s.toks+1 }) (r:=none) X J n p λb=>?_);obtain⟨t,hc,f⟩:=Xl m;have q:s.heap.get? x=some ⟨.ref C,some dx,.plain,#[]⟩:=I.obj;show yt (yA (yt (yt (wpAny_loadPart q (yt (PySem.W.Looks.here (s:={ s with toks:=s.toks+1 }) (kD X hc) ?_))))));rw[f];show yA (a:=some dx) (yt (yA (yt ?_)));show wpAny_nsSet1 (s:={ s with toks:=s.toks+1 }) I.ns λh' c d=>?_;obtain⟨u,l,j,i,g,e⟩:=c.count (PySem.Within.cons name v hw);show yt (wpAny_lookBehind i (by rw[g];show pastItsLine_dict (yj e (by rw[Yk];lk))) ?_);show yA (h _ ⟨(d.2 _ (Yw I.ne)).trans I.obj,c,I.ne⟩ d)
theorem make_map{vs:List Value}(X:K.In s.heap)(c:PySem.W.makesIn K C=true)
  (b:PySem.W.findIn K (.ref C) "__init__"=some (some (.ref f))) (a:PySem.W.typeIn K (.ref f)=some (.type "function"))
  (h:codeAny (model prog w) (A.under (.builtin "type.__call__" ⟨.ref C::vs,kw⟩)) (.call (.ref f) ⟨.ref (s.heap.objs.size+1)::vs,kw⟩) (PySem.W.InitBack (s.heap.objs.size+1) R)
   { s with heap:=(s.heap.push PySem.W.emptyDict).push (PySem.W.instObj C s.heap.objs.size) }) :
  codeAny (model prog w) A (.call (.ref C) ⟨vs,kw⟩) R s:=by
 obtain⟨e,g,d,t,i⟩:=s;show PySem.W.make_core (kZ X c) (YN X b) (λself=>PySem.W.bind_fn X self a) (.inl rfl) h
theorem make_map0(X:K.In s.heap)(b:PySem.W.makesIn K C=true)
  (a:PySem.W.findIn K (.ref C) "__init__"=some (some (.builtin "object.__init__")))
  (hb:∀ self,PySem.W.Looks (model prog w) s.heap (bindSpecial (.builtin "object.__init__") self) (.builtin "object.__init__",[self]))
  (h:codeAny (model prog w) (A.under (.builtin "type.__call__" ⟨[.ref C],[]⟩)) (.call (.builtin "object.__init__") ⟨[.ref (s.heap.objs.size+1)],[]⟩) (PySem.W.InitBack (s.heap.objs.size+1) R)
   { s with heap:=(s.heap.push PySem.W.emptyDict).push (PySem.W.instObj C s.heap.objs.size) }) :
  codeAny (model prog w) A (.call (.ref C) ⟨[],[]⟩) R s:=by
 obtain⟨c,g,d,t,e⟩:=s;show PySem.W.make_core (kZ X b) (YN X a) hb (.inr ⟨rfl,rfl⟩) h
end
def jF(f:Str)(v:V):List (Str×V)->List (Str×V)
 | []=>[(f,v)]
 | (g,x)::r=>if g=f then(g,v)::r else(g,x)::jF f v r
theorem qC(f g:Str)(v:V):∀ fs:List (Str×V),(jF f v fs).lookup g=if g=f then some v else fs.lookup g
 | []=>by
  show List.lookup g [(f,v)]=_;by_cases h:g=f
  .have hb:(g==f)=true:=Yo.mpr h;simp only[List.lookup,hb,yH h]
  .have hb:(g==f)=false:=Yq.mpr h;simp only[List.lookup,hb,yE h]
 | (k,x)::r=>by
  have b:=qC f g v r;rw[show jF f v ((k,x)::r)=(if k=f then(k,v)::r else(k,x)::jF f v r) from rfl];by_cases a:k=f
  .rw [yH a];by_cases h:g=k
   .have hb:(g==k)=true:=Yo.mpr h;simp only[List.lookup,hb,yH (h.trans a)]
   .have hb:(g==k)=false:=Yq.mpr h;simp only[List.lookup,hb,yE (λe:g=f=>h (e.trans a.symm))]
  .rw [yE a];by_cases h:g=k
   .have hb:(g==k)=true:=Yo.mpr h;simp only[List.lookup,hb,yE (λe:g=f=>a (h.symm.trans e))]
   .have hb:(g==k)=false:=Yq.mpr h;simp only[List.lookup,hb];show b
theorem qcv(f:Str)(v:V):∀ fs:List (Str×V),f∈(jF f v fs).map (·.1)/\∀ g,g∈fs.map (·.1)->g∈(jF f v fs).map (·.1)
 | []=>⟨by simp[jF],λg h=>by simp at h⟩
 | (k,x)::r=>by
  obtain⟨b,c⟩:=qcv f v r;rw[show jF f v ((k,x)::r)=(if k=f then(k,v)::r else(k,x)::jF f v r) from rfl];by_cases a:k=f
  .rw [yH a];subst a;show⟨by simp,λg h=>by simpa using h⟩
  .rw [yE a];show⟨?_,λg h=>?_⟩
   .rw [Ys];show yz _ b
   .rw [Ys] at h ⊢;rcases yF.mp h with e | e
    .show yF.mpr (.inl e)
    .show yz _ (c g e)
theorem jJ(f:Str)(v:V):∀ fs:List (Str×V),(jF f v fs).length<=fs.length+1
 | []=>by simp[jF]
 | (k,x)::r=>by
  have b:=jJ f v r;rw[show jF f v ((k,x)::r)=(if k=f then(k,v)::r else(k,x)::jF f v r) from rfl];by_cases a:k=f
  .rw [yH a,Yk,Yk];lk
  .rw [yE a,Yk,Yk];lk
theorem RelO.some_of{o:Option Value}(r:RelO (some v) o):∃ u,o=some u/\RelV v u:=by
 cases o with
 | none=>show(show False from r).elim
 | some u=>show⟨u,rfl,r⟩
theorem RelO.none_of{o:Option Value}(r:RelO none o):o=none:=by
 cases o with
 | none=>rfl
 | some u=>show(show False from r).elim
theorem qdK(r:RelV v u):PySem.W.handedIn u=true:=by
 cases v with
 | non=>cases (show u=Value.none from r);rfl
 | bl b=>cases (show u=Value.bool b from r);rfl
 | int i=>obtain⟨t,e⟩:=(show ∃ t,u=Value.int i t from r);cases e;rfl
 | str x=>obtain⟨t,e⟩:=(show ∃ t,u=Value.str x t from r);cases e;rfl
 | byt b=>obtain⟨t,e⟩:=(show ∃ t,u=Value.bytes b t from r);cases e;rfl
 | flt b=>obtain⟨t,e⟩:=(show ∃ t,u=Value.float b t from r);cases e;rfl
 | ref a=>cases (show u=Value.ref a from r);rfl
 | ty n=>cases (show u=Value.type n from r);rfl
section
variable{P:Program}{w:World}{H H':Hp}{h h':Heap}{a C dx:Addr}{fs fs':List (Str×V)}
theorem qbY(b:HOk P w H h)(e:H a=some (.ins C dx fs)):∃ mA,ObjM h a dx C mA/\(∀ f,RelO (fs.lookup f) (mA f))/\PySem.Within mA (fs.map (·.1))/\fs.length<=1000/\H dx=some (.own a):=by
 obtain⟨d,z,ne,c,mA,n,r,q⟩:=(show ObjOk P w H h a (.ins C dx fs) from b a _ e);show⟨mA,⟨c,n,ne⟩,r,q,z,d⟩
end
structure Cls(K:yh)(C:Addr):Prop where
 pg:PySem.W.plainGet K C Str.empty=true
 hd:PySem.W.hasDictIn K C=true
 po:PySem.W.plainOver K C=true
 sa:PySem.W.findIn K (.ref C) "__setattr__"=some (some (.builtin "object.__setattr__"))
theorem Cls.get{K:yh}(c:Cls K C)(f:Str):PySem.W.plainGet K C f=true:=c.pg
def NoAttr(K:yh)(C:Addr)(f:Str):Prop:=PySem.W.findIn K (.ref C) f=some none
theorem NoAttr.taker{K:yh}{f:Str}(n:NoAttr K C f):PySem.W.takerIn K C f=some none:=by
 unfold PySem.W.takerIn;rw[show PySem.W.findIn K (.ref C) f=some none from n];rfl
structure Meth(K:yh)(C:Addr)(m:Str)(f:Addr):Prop where
 at_:PySem.W.findIn K (.ref C) m=some (some (.ref f))
 fn:PySem.W.isFn K (.ref f)=true
 kp:PySem.W.keepIn K (.ref f)=true
section
variable{X:Cx}{pins:List (Addr×Obj)}{σ:St}{H:Hp}{s:Shared}{a C dx:Addr}{fs:List (Str×V)}{f:Str}{v:V}{A:Around}{E:Value->Shared->Prop}
theorem getattr_ok{b:Bool}{Q:Value->Shared->Prop}(I:Inv X pins σ H s)(e:H a=some (.ins C dx fs))(c:Cls X.K C)(n:NoAttr X.K C f)(l:fs.lookup f=some v)
  (h:∀ u s',Inv X pins σ H s'->RelV v u->Q u s'):wpAny (model X.prog X.w) A (getAttr (.ref a) f b) Q E s:=by
 obtain⟨mA,O,r,_,_,_⟩:=qbY I.hok e;obtain⟨u,g,d⟩:=RelO.some_of (v:=v) (o:=mA f) (by rw[<- l];show r f);show get_map I.kIn O (c.get f) c.hd n g (qdK d) (h u _ (I.tok _) d)
theorem qbZ{m:Str}{g:Addr}{Q:Value×List Value->Shared->Prop}(I:Inv X pins σ H s)(e:H a=some (.ins C dx fs))(c:Cls X.K C)(k:Meth X.K C m g)(l:fs.lookup m=none)
  (h:Q (.ref g,[.ref a]) s):wpAny (model X.prog X.w) A (getMethod (.ref a) m pl) Q E s:=by
 obtain⟨mA,O,r,_,_,_⟩:=qbY I.hok e;have b:mA m=none:=RelO.none_of (by rw[<- l];show r m);show get_meth I.kIn O (c.get m) k.at_ k.fn b h
theorem setattr_ok{Q:Unit->Shared->Prop}(I:Inv X pins σ H s)(e:H a=some (.ins C dx fs))(c:Cls X.K C)(n:NoAttr X.K C f)(hl:fs.length<1000)(t:RelV y u)
  (h:∀ s',Inv X pins σ (upd H a (.ins C dx (jF f y fs))) s'->Q () s'):wpAny (model X.prog X.w) A (setAttr (.ref a) f u) Q E s:=by
 obtain⟨mA,O,r,j,_,i⟩:=qbY I.hok e;have p:(fs.map (·.1)).length<=sizeLine:=by rw[ya,XE];lk
 show set_map I.kIn O c.sa c.po n.taker c.hd j p λh' d v=>h _ ?_;have l:∃ o,h'.get? dx=some o:=let ⟨o,_,_,e',_⟩:=d.ns;⟨o,e'⟩;show I.write (x:=a) (e:=dx) (by rw[e];show YQ) (.inr i) (λb q hb z=>(v.2 b hb).trans z) l ?_;show⟨by rw[qo O.ne];show i,?_,O.ne,d.obj,_,d.ns,λg=>?_,λg m=>?_⟩
 .have:=jJ f y fs;lk
 .show RelO ((jF f y fs).lookup g) (if g=f then some u else mA g);rw[qC];by_cases q:g=f
  .rw [yH q,yH q];show t
  .rw [yE q,yE q];show r g
 .by_cases q:g=f
  .rw [q];show(qcv f y fs).1
  .show(qcv f y fs).2 g (j g λz=>m ?_);show(if g=f then some u else mA g)=none;rw[yE q];show z
theorem Inv.made(I:Inv X pins σ H s):Inv X pins σ (upd (upd H s.heap.objs.size (.own (s.heap.objs.size+1))) (s.heap.objs.size+1) (.ins C s.heap.objs.size []))
  { s with heap:=(s.heap.push PySem.W.emptyDict).push (PySem.W.instObj C s.heap.objs.size) }:=by
 have c:(s.heap.push PySem.W.emptyDict).get? s.heap.objs.size=some PySem.W.emptyDict:=yS s.heap rfl
 have f:((s.heap.push PySem.W.emptyDict).push (PySem.W.instObj C s.heap.objs.size)).get? (s.heap.objs.size+1)=some (PySem.W.instObj C s.heap.objs.size):=by
  have:=yS (s.heap.push PySem.W.emptyDict) (o:=PySem.W.instObj C s.heap.objs.size) rfl
  rwa[YS] at this
 have g:(s.heap.push PySem.W.emptyDict).Ns s.heap.objs.size (λ_=>none):=⟨PySem.W.emptyDict,#[],_,c,rfl,(λe h=>absurd h (by simp)),λ_=>rfl⟩;have d:=I.laid (a:=s.heap.objs.size) (o:=.own (s.heap.objs.size+1)) (h':=s.heap.push PySem.W.emptyDict) (t':=s.toks) (λb u q=>yv _ q) (yi _) ⟨_,c⟩;show d.laid (a:=s.heap.objs.size+1) (o:=.ins C s.heap.objs.size []) (t':=s.toks) (λb u q=>yv _ q) (Kv (YS _ _)) ?_;have ne:s.heap.objs.size≠s.heap.objs.size+1:=Yj (XH _);show⟨by rw[qo ne,qc],Y5 _,ne,f,λ_=>none,(Heap.Ns1.of_empty g).at λo q=>yv _ q,λ_=>YQ,λy i=>absurd rfl i⟩
theorem attr_of{prog:Program}{env:Env}{f:Str}{Q:Value->Shared->Prop}(hb:attributeBase e f env (eval e env)=eval e env)
  (h:wpAny (model prog w) A (eval e env) (λo a=>wpAny (model prog w) A (getAttr o f true) Q E a) E s):wpAny (model prog w) A (eval (.Attribute e f pos) env) Q E s:=
 Attribute_any_ h (by rw[arm_eval_Attribute,hb])
end
section
variable{X:Cx}{o e value:Expr}{f:Str}{pos pos' tpos:Pos}{ta tv:TE}
end
section
variable{X:Cx}{pins:List (Addr×Obj)}{σ:St}{H:Hp}{s:Shared}{A:Around}{E:Value->Shared->Prop}{Q:Value->Shared->Prop}{c:Value}{b:Bool}
inductive TyOf(K:yh)(H:Hp):V->Value->Prop where
 | non:TyOf K H .non (.type "NoneType")
 | bl (x:Bool):TyOf K H (.bl x) (.type "bool")
 | int (i:Int):TyOf K H (.int i) (.type "int")
 | str (x:Str):TyOf K H (.str x) (.type "str")
 | flt (x:UInt64):TyOf K H (.flt x) (.type "float")
 | lst {a:Addr} {xs:List V} (e:H a=some (.lst xs)):TyOf K H (.ref a) (.type "list")
 | frz {a:Addr} {o:Obj} {xs:List V} (e:H a=some (.frz o (.lst xs))):TyOf K H (.ref a) (.type "list")
 | tup {a:Addr} {xs:List V} (e:H a=some (.tup xs)):TyOf K H (.ref a) (.type "tuple")
 | dK {a:Addr} {kvs:List (Key×V)} (e:H a=some (.dK kvs)):TyOf K H (.ref a) (.type "dict")
 | dT {a:Addr} {kvs:List (List Key×V)} (e:H a=some (.dT kvs)):TyOf K H (.ref a) (.type "dict")
 | ins {a C dx:Addr} {fs:List (Str×V)} (e:H a=some (.ins C dx fs)) (cl:Cls K C) (ha:PySem.W.findIn K (.ref C) "__class__"=some (some (.builtin "object.__class__")))
   (hn:PySem.W.specialIn K (.builtin "object.__class__") "__get__"=some (some (.builtin "getset_descriptor.__get__"))) (htk:PySem.W.takesIn K (.builtin "object.__class__")=some true)
   (hm:PySem.W.mroIn K C (.type "object")=some true):TyOf K H (.ref a) (.ref C)
end
structure Room(k:Nat)(A:Around):Prop where
 hd:A.handled=none
 dp:A.depth+3*k+5<recursionLimit
 un:A.units+16*k+200<cLine
 gd:A.guards=some []
theorem Room.mono{k:Nat}(r:Room k A)(h:j<=k):Room j A:=⟨r.hd,by have:=r.dp;lk,by have:=r.un;lk,r.gd⟩
theorem Room.deeper{k:Nat}(r:Room (k+1) A)(env:Env):Room k (A.deeper env):=
 ⟨r.hd,by have:=r.dp;show A.depth+1+3*k+5<_;lk,by have:=r.un;show A.units+3+16*k+200<_;lk,r.gd⟩
theorem make_depth:(A.under (.builtin "type.__call__" ⟨.ref C::us,kw⟩)).depth=A.depth+1:=by
 first | rfl | simp[Around.under,Code.weight,Code.isCreation,Code.isGuard,Code.isCaller,Code.frames,Code.isFrame,guardIds]
theorem make_units:(A.under (.builtin "type.__call__" ⟨.ref C::us,kw⟩)).units=A.units+1:=by
 first | rfl | simp[Around.under,Code.cUnits,Code.frames,Code.isFrame]
theorem make_guards:(A.under (.builtin "type.__call__" ⟨.ref C::us,kw⟩)).guards=A.guards:=by
 first | rfl | simp[Around.under,Code.guards,Code.isGuard,guardIds,pushGuards]
theorem Room.make{k:Nat}(r:Room (k+1) A)(C:Addr)(us:List Value)(kw:List (Str×Value)):Room k (A.under (.builtin "type.__call__" ⟨.ref C::us,kw⟩)):=
 ⟨r.hd,by have:=r.dp;rw[make_depth];lk,by have:=r.un;rw[make_units];lk,by rw[make_guards];show r.gd⟩
theorem Room.depth{k:Nat}(r:Room k A):A.depth<recursionLimit:=by have:=r.dp;lk
def qfr:TA:=λ_ H Q=>Q [] H
def zb(ta:TE)(c:TA):TA:=fun σ H Q=>ta σ H λx a=>c σ a λxs b=>Q (x::xs) b
section
variable{X:Cx}{e:Expr}{es:List Expr}{te:TE}{t:TA}{pos:Pos}
theorem qb:PA X [] qfr:=λ_ _ _ _ H Q I h=>Calls.spliced_nil ⟨[],H,I,.nil,h⟩
theorem qa(f:PE X e te)(g:PA X es t)(i:starEach (e::es) X.env=(false,eval e X.env)::starEach es X.env:=by rfl):PA X (e::es) (zb te t):=by
 intro pos pins s σ H Q I h;rw[i];show wpAny _ _ (spliced ((false,eval e X.env)::backTo pos (starEach es X.env))) _ _ s;show Calls.spliced_cons (thn (f pins s σ H _ I h) λu o ⟨x,a,c,m,j⟩=>?_);show thn (g pos pins o σ a _ c j) λus p ⟨xs,b,d,n,l⟩=>⟨x::xs,b,d,.cons m n,l⟩
inductive NewT(xs:List V)(H:Hp)(Q:VK):Prop|mk (_:xs.length<=sizeLine) (_:∀ p,H p=none->Q (.ref p) (upd H p (.tup xs)))
inductive NewL(xs:List V)(H:Hp)(Q:VK):Prop|mk (_:xs.length<=sizeLine) (_:∀ p,H p=none->Q (.ref p) (upd H p (.lst xs)))
def qiy(t:TA):TE:=fun σ H Q=>t σ H λxs a=>NewT xs a Q
def qiz(t:TA):TE:=fun σ H Q=>t σ H λxs a=>NewL xs a Q
theorem ji{x1}(h:PA X es t):PE X (.Tuple es x1 pos) (qiy t):=by
 intro pins s σ H Q I g;show wpAny_Tuple_spliced (thn (h pos pins s σ H _ I g) λus a ⟨xs,c,d,r,z,q⟩=>⟨by rw[<- r.length];show z,?_⟩);have f:c a.heap.objs.size=none:=d.hok.fresh (yi _);show⟨.ref a.heap.objs.size,upd c a.heap.objs.size (.tup xs),d.laid (t':=a.toks) (λb u e=>yv _ e) (yi _) ?_,rfl,q _ f⟩;show⟨z,us,r,⟨_,yS _ rfl,rfl,_,rfl⟩⟩
theorem qS(h:PA X es t):PE X (.List es pos) (qiz t):=by
 intro pins s σ H Q I g;show wpAny_List_spliced (thn (h pos pins s σ H _ I g) λus a ⟨xs,c,d,r,z,q⟩=>⟨by rw[<- r.length];show z,?_⟩);have f:c a.heap.objs.size=none:=d.hok.fresh (yi _);show⟨.ref a.heap.objs.size,upd c a.heap.objs.size (.lst xs),d.laid (t':=a.toks) (λb u e=>yv _ e) (yi _) ?_,rfl,q _ f⟩;show⟨z,us,0,r,yS _ rfl⟩
end
abbrev Sp:=List V->Hp->VK->XK->Prop
abbrev CXT:=List Env->Hp->Shared->XK->Value->Shared->Prop
structure Env0(P:Program)(w:World)(K:yh)(mg:Str->Option Value)(base:Heap)(A:Around)(outer:List Env)(s:Shared)(H:Hp):Prop where
 frames:A.frames=some outer
 mod:Mod K mg base
 bs:∀ b o,base.get? b=some o->s.heap.get? b=some o/\H b=none
 bsz:base.objs.size<=s.heap.objs.size
 funs:s.heap.FunFrames base outer
 frf:∀ b∈frs outer,H b=none
 hok:HOk P w H s.heap
 bare:AllBare s.gens
def CE(outer:List Env)(P:Program)(w:World)(H:Hp)(s:Shared)(Q:VK)(u:Value)(s':Shared):Prop:=
 ∃ v H',s'.os=s.os/\AllBare s'.gens/\Un (frs outer) [] H H' s.heap s'.heap/\HOk P w H' s'.heap/\RelV v u/\Q v H'
def CR(CX:CXT)(outer:List Env)(P:Program)(w:World)(H:Hp)(s:Shared)(Q:VK)(E:XK)(r:Result)(s':Shared):Prop:=
 match r with
 | .ok (.ret u)=>CE outer P w H s Q u s'
 | .ok _=>False
 | .error e=>CX outer H s E e s'
structure FnOk(P:Program)(w:World)(K:yh)(mg:Str->Option Value)(base:Heap)(CX:CXT)(k:Nat)(f:Addr)(fd:FuncData)(ps:LS)(sp:Sp):Prop where
 len:∀ vs H Q E,sp vs H Q E->vs.length=ps.length
 run:∀(A:Around) (outer:List Env) (s:Shared) (H:Hp) (args:Args) (us:List Value) (vs:List V) (Q:VK) (E:XK),Room k A->Env0 P w K mg base A outer s H->BindsTo s fd args (ps.zip us)->Vals vs us->sp vs H Q E ->
  codeAny (model P w) A (.call (.ref f) args) (CR CX outer P w H s Q E) s
theorem Env0.make{K:yh}(e:Env0 P w K mg base A outer s H)(C:Addr)(us:List Value)(kw:List (Str×Value)) :
  Env0 P w K mg base (A.under (.builtin "type.__call__" ⟨.ref C::us,kw⟩)) outer s H:=⟨by first | show e.frames | (simpa [Around.under,Code.envs,Code.isFrame,pushEnvs] using e.frames),e.mod,e.bs,e.bsz,e.funs,e.frf,e.hok,e.bare⟩
section
variable{X:Cx}{pins:List (Addr×Obj)}{σ:St}{H:Hp}{s s':Shared}
theorem Inv.env0(I:Inv X pins σ H s):Env0 X.prog X.w X.K X.mg X.base X.A X.stack s H:=
 ⟨I.ok.frames,I.ok.mod,I.bs,yj I.ok.bsz I.sz,I.stack,I.stkFree,I.hok,I.bare⟩
theorem Inv.after{Q:VK}(I:Inv X pins σ H s)(h:CE X.stack X.prog X.w H s Q u s'):EP X pins σ Q u s':=by
 obtain⟨v,H',i,a,un,c,r,q⟩:=h;obtain⟨f,g,d,t,e⟩:=s';obtain rfl:e=s.os:=i;show⟨v,H',I.call (h':=f) (g':=g) (d':=d) (t':=t) (ch:=[]) un c a (λb z=>absurd z (by simp)),r,q⟩
end
def qfg(sp:Sp)(a:List V)(E:XK)(t:TA):TE:=fun σ H Q=>t σ H λvs b=>sp (vs++a) b Q E
inductive MeR(C:Addr)(m:Str)(x:V)(H:Hp)(k:Prop):Prop|mk (a dx:Addr) (fs:List (Str×V)) (_:x=.ref a) (_:H a=some (.ins C dx fs)) (_:fs.lookup m=none) (_:k)
def qfx(C:Addr)(m:Str)(sp:Sp)(a:List V)(E:XK)(ta:TE)(t:TA):TE:=fun σ H Q=>ta σ H λx b=>MeR C m x b (t σ b λvs c=>sp (x::(vs++a)) c Q E)
def qhu(C:Addr)(sp:Sp)(b:List V)(E:XK)(t:TA):TE:=fun σ H Q=>t σ H λvs a=>∀ x dx,a x=none->a dx=none->dx≠x ->
 sp (.ref x::(vs++b)) (upd (upd a dx (.own x)) x (.ins C dx [])) (λv c=>v=.non/\Q (.ref x) c) E
def Binds(K:yh)(b:FuncData)(ps:LS)(a:List Value):Prop:=
 ∀(s:Shared) (us:List Value),K.In s.heap->(us++a).length=ps.length->BindsTo s b ⟨us,[]⟩ (ps.zip (us++a))
theorem Binds.all{K:yh}{a:FuncData}(h:∀ us:List Value,us.length=ps.length->bindArgs a ⟨us,[]⟩=pure (ps.zip us)):Binds K a ps []:=λs us _ hl=>by
 rw[Yb] at hl ⊢;show .of_eq (h us hl)
def qaQ(CX:CXT)(X:Cx)(E:XK):Prop:=∀(pins:List (Addr×Obj)) (σ:St) (H:Hp) (s:Shared) (e:Value) (s':Shared),Inv X pins σ H s->CX X.stack H s E e s'->X.xe e s'
section
variable{X:Cx}{CX:CXT}{k:Nat}{f C:Addr}{fd:FuncData}{ps:LS}{sp:Sp}{dvs:List V}{ds:List Value}{E:XK}{x m:Str}{p pos apos:Pos}{e o:Expr}{es:List Expr}{ta:TE}{t:TA}
theorem qeE{Q:VK}(F:FnOk X.prog X.w X.K X.mg X.base CX k f fd ps sp)(d:Room k X.A)(hb:Binds X.K fd ps ds)(c:Vals dvs ds)(g:qaQ CX X E)
  (I:Inv X pins σ H s) (r:Vals vs us) (h:sp (vs++dvs) H Q E):wpAny (model X.prog X.w) X.A (call (.ref f) us) (EP X pins σ Q) X.xe s:=by
 have b:Vals (vs++dvs) (us++ds):=r.append c;have hl:(us++ds).length=ps.length:=by rw[<- b.length];show F.len _ _ _ _ h
 show xP (Xf (F.run X.A X.stack s H ⟨us,[]⟩ (us++ds) (vs++dvs) Q E d I.env0 (hb s us I.kIn hl) b h) λr s' a=>?_)
 cases r with
 | error e=>show g pins σ H s e s' I a
 | ok fl =>
  cases fl with
  | ret u=>show I.after a
  | next=>show False.elim a
  | brk=>show False.elim a
  | cont=>show False.elim a
theorem pe_call(F:FnOk X.prog X.w X.K X.mg X.base CX k f fd ps sp)(n:Room k X.A)(j:Gl X x)(m:X.mg x=some (.ref f))(l:PySem.W.keepIn X.K (.ref f)=true)(hb:Binds X.K fd ps ds)(g:Vals dvs ds)(o:qaQ CX X E)
  (d:PA X (e::es) t) (a:(x==("__debug__":Str))=false:=by decide) (i:starEach (e::es) X.env=(false,eval e X.env)::starEach es X.env:=by rfl) (b:(backTo pos (starEach es X.env)).any (·.1)=false:=by rfl) :
  PE X (.Call (.Name x p) (e::es) [] pos) (qfg sp dvs E t):=by
 intro pins s σ H Q I h;show xy (qau I j m ?_ a);show xz (h₀:=X.base) I.ok.mod.kin l (thn (d pos pins s σ H _ I h) λus v ⟨vs,u,c,r,q⟩=>⟨c.kIn,?_⟩) i b;show qeE F n hb g o c r q
theorem pe_meth(B:PE X o ta)(c:Cls X.K C)(j:Meth X.K C m f)(F:FnOk X.prog X.w X.K X.mg X.base CX k f fd ps sp)(D:Room k X.A)(hb:Binds X.K fd ps ds)(z:Vals dvs ds)(J:qaQ CX X E)(y:PA X (e::es) t)
  (d:starEach (e::es) X.env=(false,eval e X.env)::starEach es X.env:=by rfl) (b:(backTo pos (starEach es X.env)).any (·.1)=false:=by rfl)
  (G:eval (.Call (.Attribute o m apos) (e::es) [] pos) X.env=(do
   let ov <- eval o X.env
   standAt apos.atName
   let (f,first) <- holding [ov] (getMethod ov m pl)
   callWith pos f first (backTo pos (starEach (e::es) X.env)) (backToKw pos (keywordEach [] X.env))):=by rfl) :
  PE X (.Call (.Attribute o m apos) (e::es) [] pos) (qfx C m sp dvs E ta t):=by
 intro pins s σ H Q I h;show xW (pl:=pl) (thn (B pins s σ H _ I h) λu N ⟨x,n,g,M,a,dx,fs,v,p,l,q⟩=>?_) G;subst v;obtain rfl:u=Value.ref a:=M;show qbZ g p c j l ?_;show xz (first:=[.ref a]) (h₀:=X.base) I.ok.mod.kin j.kp (thn (y pos pins N σ n _ g q) λus P ⟨vs,O,i,r,L⟩=>⟨i.kIn,?_⟩) d b;show qeE (us:=.ref a::us) (vs:=.ref a::vs) F D hb z J i (.cons rfl r) L
theorem pe_meth0(j:PE X o ta)(c:Cls X.K C)(d:Meth X.K C m f)(F:FnOk X.prog X.w X.K X.mg X.base CX k f fd ps sp)(n:Room k X.A)(hb:Binds X.K fd ps ds)(i:Vals dvs ds)(r:qaQ CX X E)
  (p:eval (.Call (.Attribute o m apos) [] [] pos) X.env=(do
   let ov <- eval o X.env
   standAt apos.atName
   let (f,first) <- holding [ov] (getMethod ov m pl)
   callWith pos f first (backTo pos (starEach [] X.env)) (backToKw pos (keywordEach [] X.env))):=by rfl) :
  PE X (.Call (.Attribute o m apos) [] [] pos) (qfx C m sp dvs E ta qfr):=by
 intro pins s σ H Q I h;show xW (pl:=pl) (thn (j pins s σ H _ I h) λu y ⟨x,v,b,t,a,dx,fs,g,e,l,q⟩=>?_) p;subst g;obtain rfl:u=Value.ref a:=t;show qbZ b e c d l ?_;show PySem.W.callWith_K0 (first:=[.ref a]) b.kIn d.kp (qeE (us:=[.ref a]) (vs:=[.ref a]) F n hb i r b (.cons rfl .nil) q)
structure Mk(K:yh)(C f:Addr):Prop where
 makes:PySem.W.makesIn K C=true
 init:PySem.W.findIn K (.ref C) "__init__"=some (some (.ref f))
 fn:PySem.W.isFn K (.ref f)=true
 kp:PySem.W.keepIn K (.ref C)=true
theorem run_make{Q:VK}(M:Mk X.K C f)(F:FnOk X.prog X.w X.K X.mg X.base CX k f fd ps sp)(l:Room (k+1) X.A)(hb:Binds X.K fd ps ds)(j:Vals dvs ds)
  (m:qaQ CX X E) (I:Inv X pins σ H s) (r:Vals vs us)
  (h:∀ x dx,H x=none->H dx=none->dx≠x->sp (.ref x::(vs++dvs)) (upd (upd H dx (.own x)) x (.ins C dx [])) (λv g=>v=.non/\Q (.ref x) g) E) :
  wpAny (model X.prog X.w) X.A (call (.ref C) us) (EP X pins σ Q) X.xe s:=by
 have c:=h (s.heap.objs.size+1) s.heap.objs.size (I.hok.fresh (YV _)) (I.hok.fresh (yi _)) (Yj (XH _));have b:=Inv.made (C:=C) I;have d:Vals (V.ref (s.heap.objs.size+1)::(vs++dvs)) (Value.ref (s.heap.objs.size+1)::(us++ds)):=.cons rfl (r.append j)
 have hl:(Value.ref (s.heap.objs.size+1)::us++ds).length=ps.length:=by
  have e:=d.length;rw[F.len _ _ _ _ c] at e;show e.symm
 show xP (make_map (f:=f) I.kIn M.makes M.init (Yo.mp M.fn) (Xf (F.run _ X.stack _ _ ⟨Value.ref (s.heap.objs.size+1)::us,[]⟩ (Value.ref (s.heap.objs.size+1)::(us++ds)) _ _ E (l.make C us [])
  (b.env0.make C us []) (hb _ (Value.ref (s.heap.objs.size+1)::us) b.kIn hl) d c) λr s' a=>?_))
 cases r with
 | error e=>show m pins σ _ _ e s' b a
 | ok fl =>
  cases fl with
  | ret u =>
   obtain⟨v,H',i,o,ev,n⟩:=b.after a;subst ev;show⟨o,⟨V.ref (s.heap.objs.size+1),H',i,rfl,n⟩⟩
  | next=>show False.elim a
  | brk=>show False.elim a
  | cont=>show False.elim a
theorem pe_make(M:Mk X.K C f)(F:FnOk X.prog X.w X.K X.mg X.base CX k f fd ps sp)(m:Room (k+1) X.A)(j:Gl X x)(l:X.mg x=some (.ref C))(hb:Binds X.K fd ps ds)(g:Vals dvs ds)(n:qaQ CX X E)
  (d:PA X (e::es) t) (a:(x==("__debug__":Str))=false:=by decide) (i:starEach (e::es) X.env=(false,eval e X.env)::starEach es X.env:=by rfl) (b:(backTo pos (starEach es X.env)).any (·.1)=false:=by rfl) :
  PE X (.Call (.Name x p) (e::es) [] pos) (qhu C sp dvs E t):=by
 intro pins s σ H Q I h;show xy (qau I j l ?_ a);show xz (h₀:=X.base) I.ok.mod.kin M.kp (thn (d pos pins s σ H _ I h) λus u ⟨vs,o,c,r,q⟩=>⟨c.kIn,?_⟩) i b;show run_make M F m hb g n c r q
end
def PK(X:Cx)(a:List Keyword)(t:TA):Prop:=
 ∀(pos:Pos) (pins:List (Addr×Obj)) (s:Shared) (σ:St) (H:Hp) (Q:List V->Hp->Prop),Inv X pins σ H s->t σ H Q->wpAny (model X.prog X.w) X.A (evalAll ((backToKw pos (keywordEach a X.env)).map (·.2))) (AP X pins σ Q) X.xe s
section
variable{X:Cx}{CX:CXT}{k:Nat}{f C:Addr}{fd:FuncData}{ps ks:LS}{sp:Sp}{E:XK}{x m:Str}{p pos apos kpos:Pos}{e o:Expr}{es:List Expr}{kws:List Keyword}{te ta:TE}{t tk:TA}{nm:Option Str}
variable{g:List Value->List Value->List Value}{gV:List V->List V->List V}
end
structure FnScope(N P:LS)(sc:Scope):Prop where
 kind:sc.kind=.function
 co:sc.isCoroutine=false
 gen:sc.isGenerator=false
 nd:N.Nodup
 pre:N.take P.length=P
 par:∀ x∈P,sc.names.lookup x=some .local\/sc.names.lookup x=some .cell
 nofree:∀ y∈sc.names,y.2≠.free
theorem fS{P:LS}(a:sc.kind=.function:=by rfl)(b:sc.isCoroutine=false:=by rfl)(c:sc.isGenerator=false:=by rfl)(d:N.Nodup:=by room)(e:N.take P.length=P:=by rfl)(f:∀ x∈P,sc.names.lookup x=some .local\/sc.names.lookup x=some .cell:=by room)(g:∀ y∈sc.names,y.2≠.free:=by room):FnScope N P sc:=⟨a,b,c,d,e,f,g⟩
theorem qdL:∀{binds:List (Str×Value)} {m:Str->Option Value},(∀ v,(x,v)∉binds)->bindL kindOf binds m x=m x
 | [],_,_=>rfl
 | (n,v)::r,m,h=>by
  unfold bindL;rw[qdL λw hw=>h w (yz _ hw)];split
  .have:x≠n:=by rintro rfl;show h v yL
   simp[this]
  .rfl
theorem qdM:∀{binds:List (Str×Value)} {m:Str->Option Value},(∀ v,(x,v)∉binds)->bindC kindOf binds m x=m x
 | [],_,_=>rfl
 | (n,v)::r,m,h=>by
  unfold bindC;rw[qdM λw hw=>h w (yz _ hw)];split
  .rfl
  .have:x≠n:=by rintro rfl;show h v yL
   simp[this]
theorem qdN{v:Value}:∀{P:LS} {vs:List Value} {i:Nat} {m:Str->Option Value},P.Nodup->P[i]?=some x->vs[i]?=some v->kindOf x=some .local ->
  bindL kindOf (P.zip vs) m x=some v
 | [],_,_,_,_,h,_,_=>by simp at h
 | _::_,[],_,_,_,_,h,_=>by simp at h
 | p::P,w::vs,0,m,nd,h1,h2,hk=>by
  simp at h1 h2;subst h1;subst h2;show bindL kindOf ((p,w)::P.zip vs) m p=_;unfold bindL;rw[qdL λv hv=>(yp.mp nd).1 (Kh hv).1,yH hk];simp
 | p::P,w::vs,i+1,m,nd,h1,h2,hk=>by
  show bindL kindOf ((p,w)::P.zip vs) m x=_;unfold bindL;show qdN (i:=i) (yp.mp nd).2 (by simpa using h1) (by simpa using h2) hk
theorem qdO{v:Value}:∀{P:LS} {vs:List Value} {i:Nat} {m:Str->Option Value},P.Nodup->P[i]?=some x->vs[i]?=some v->kindOf x≠some .local ->
  bindC kindOf (P.zip vs) m x=some v
 | [],_,_,_,_,h,_,_=>by simp at h
 | _::_,[],_,_,_,_,h,_=>by simp at h
 | p::P,w::vs,0,m,nd,h1,h2,hk=>by
  simp at h1 h2;subst h1;subst h2;show bindC kindOf ((p,w)::P.zip vs) m p=_;unfold bindC;rw[qdM λv hv=>(yp.mp nd).1 (Kh hv).1,yE hk];simp
 | p::P,w::vs,i+1,m,nd,h1,h2,hk=>by
  show bindC kindOf ((p,w)::P.zip vs) m x=_;unfold bindC;show qdO (i:=i) (yp.mp nd).2 (by simpa using h1) (by simpa using h2) hk
def start(N:LS)(vs:List V):St:=vs.map some++List.replicate (N.length-vs.length) none
def qgN(CX:CXT)(P:Program)(w:World)(K:yh)(mg:Str->Option Value)(base:Heap)(N:LS)(qual:Str)(scope:Scope)(f:Addr)(b:Value)(A:Around)(outer:List Env)(s:Shared)(H:Hp)(E:XK):Cx where
 prog:=P
 w:=w
 K:=K
 mg:=mg
 base:=base
 A:=A.deeper (envOfC qual scope s.heap.objs.size f b)
 N:=N
 s₀:=s
 H₀:=H
 env:=envOfC qual scope s.heap.objs.size f b
 outer:=outer
 stack:=envOfC qual scope s.heap.objs.size f b::outer
 ex:=[]
 calm:=true
 fn:=λ_=>true
 pn:=[]
 xe:=λe s'=>wpAny (model P w) (A.deeper (envOfC qual scope s.heap.objs.size f b)) (leaving (envOfC qual scope s.heap.objs.size f b) e) (λ_ a=>CX outer H s E e a) (λc a=>CX outer H s E c a) s'
theorem qeF(h:sc.names.lookup x=some .cell):∃ c,(cellsFrom n sc.names []).lookup x=some c:=by
 have q:=PySem.W.cellsFrom_some sc.names n [] (.inl h);show XU.mp q
theorem inv_start{K:yh}{f:Addr}{o:Value}{D:Shared}{E:XK}
  (S:FnScope N ps scope) (G:A.handled=none) (g:Env0 P w K mg base A outer s H) (hl:vs.length=ps.length) (r:Vals vs us)
  (x:InCallC s s.heap.objs.size (bindL (envOfC qual scope s.heap.objs.size f o).kindOf (ps.zip us) λ_=>none) (cellsFrom (s.heap.objs.size+1) scope.names []) (bindC (envOfC qual scope s.heap.objs.size f o).kindOf (ps.zip us) λ_=>none) D) :
  Inv (qgN CX P w K mg base N qual scope f o A outer s H E) [] (start N vs) H D:=by
 have I:ps.length<=N.length:=by have:=congrArg List.length S.pre;rw[yM] at this;lk
 obtain⟨h1,tk,rfl,B⟩:=x.done;have j:∀ b:Addr,b∉(qgN CX P w K mg base N qual scope f o A outer s H E).ex:=λb z=>absurd (show b∈([]:LI) from z) (by simp);show⟨⟨g.mod,S.kind,rfl,rfl,yi _,λy z c h1 d=>?_,λy hy=>?_,λy c _ h=>?_,λ_=>G,Around.frames_deeper g.frames,.inr ⟨rfl,rfl⟩,λb z=>absurd z (j b),g.bs,g.bsz,λb _ _=>j b,λb z=>absurd z (j b),g.funs,g.frf⟩,
  rfl,g.bare,Un.kept B,⟨_,x.toInCall.ns,λi y v h1 d L=>?_⟩,λy c h=>⟨_,x.cell y c h⟩,g.hok.fresh (yi _),λy c h=>?_,λp l=>absurd (show p∈([]:List (Addr×Obj)) from l) (by simp),g.hok.kept B,?_⟩
 .show name_of_addr x.apart (Xk h1) (Xk d)
 .have hy:scope.names.lookup y=some .cell\/scope.names.lookup y=some .free:=hy;rcases hy with hy | hy
  .show qeF hy
  .show absurd rfl (S.nofree _ (Xk hy))
 .show yN (x.above y c (Xk h))
 .have t:i<vs.length:=by
   unfold start at d;by_cases t:i<vs.length
   .show t
   .rw [Yc (by simpa using t)] at d;rw[XZ] at d;split at d<;>cases d
  have F:vs[i]?=some v:=by
   unfold start at d;rw[yQ (by simpa using t),ye] at d
   cases e:vs[i]? with
   | none=>rw[e] at d;cases d
   | some a=>rw[e] at d;cases d;rfl
  obtain⟨u,C,J⟩:=r.get F
  have l:ps[i]?=some y:=by
   rw[<- S.pre,List.getElem?_take_of_lt (by lk)];show h1
  have m:ps.Nodup:=by rw[<- S.pre];show S.nd.sublist (kP _ _)
  show⟨u,J,?_⟩;rcases S.par y (yf l) with k | k
  .show .inl ⟨k,qdN m l C k⟩
  .obtain⟨c,e⟩:=qeF (n:=s.heap.objs.size+1) k;show .inr ⟨.inl k,c,e,?_⟩;have q:=x.cell y c e;rw[qdO m l C (by show scope.names.lookup y≠_;rw[k];decide)] at q;show q
 .show g.hok.fresh (yN (x.above y c (Xk h)))
 .unfold start;show _=N.length;rw[yK,ya,xv];lk
theorem qhT{K:yh}{k:Nat}{f:Addr}{name:Str}{c:Arguments}{M kV j O a ct oc:Value}{L od:Option Addr}
  {D:Array (Option Value)} {sp:Sp} (lk:K.lookup f=some ⟨oc,od,.func (PySem.W.fnOf name qual c body scope M kV j O L a ct),D⟩) (z:PySem.W.codeIn K a qual=true) (S:FnScope N ps scope)
  (len:∀ vs H Q E,sp vs H Q E->vs.length=ps.length)
  (g:∀(A:Around) (outer:List Env) (s:Shared) (H:Hp) (vs:List V) (Q:VK) (E:XK),Room k (A.deeper (envOfC qual scope s.heap.objs.size f a))->sp vs H Q E ->
   ∃ t,PSs (qgN CX P w K mg base N qual scope f a A outer s H E) body t/\t { nx:=λ_ H'=>Q .non H',rt:=Q } (start N vs) H) :
  FnOk P w K mg base CX (k+1) f (PySem.W.fnOf name qual c body scope M kV j O L a ct) ps sp:=by
 show⟨len,λA outer s H args us vs Q E B l hb r p=>?_⟩;have hl:=len _ _ _ _ p;have G:K.In s.heap:=l.mod.kin.keeps λb o e=>(l.bs b o e).1;have C:s.heap.NoLimit:=l.mod.nolimit.keeps λb o e=>(l.bs b o e).1
 have h:∀ y∈ps.zip us,scope.names.lookup y.1=some .local\/(scope.names.lookup y.1=some .cell/\((cellsFrom (s.heap.objs.size+1) scope.names []).lookup y.1).isSome=true):=λ⟨n,v⟩ Z=>by
  rcases S.par n (Kh Z).1 with q | q
  .show .inl q
  .show .inr ⟨q,PySem.W.cellsFrom_some _ _ _ (.inl q)⟩
 show codeAny_call_function B.depth (G _ _ lk) rfl S.co S.gen rfl (PySem.W.codeRec_of G z) (hb _ _ _ _ ?_);show wpAny_newFunctionEnv_cells S.kind h λenv U R x=>?_;subst U;show⟨C.keeps x.toInCall.keep,codeAny_func ?_⟩;obtain⟨t,Y,X⟩:=g A outer s H vs Q E (B.deeper _) p;have I:Inv (qgN CX P w K mg base N qual scope f a A outer s H E) [] (start N vs) H R:=inv_start S B.hd l hl r x;show Yx (Y [] R (start N vs) H _ I X) (λT s' i=>?_) λe s' i=>i
 have m:∀{d:St} {H':Hp} {v:V} {u:Value},Inv (qgN CX P w K mg base N qual scope f a A outer s H E) [] d H' s'->RelV v u->Q v H'->CE outer P w H s Q u s':=
  λ{d H' v u} J F q=>⟨v,H',J.os,J.bare,J.base,J.hok,F,q⟩
 cases T with
 | ret u =>
  obtain⟨v,d,H',J,F,q⟩:=i;show m J F q
 | next =>
  obtain⟨d,H',J,q⟩:=i;show m (v:=V.non) (u:=Value.none) J rfl q
 | brk =>
  obtain⟨_,_,_,q⟩:=i;show False.elim q
 | cont =>
  obtain⟨_,_,_,q⟩:=i;show False.elim q
section
variable{X:Cx}{x:Str}{p pos:Pos}{e:Expr}{es:List Expr}{t:TA}{id T:String}{r:List V->Hp->VK->Prop}
def tCB(r:List V->Hp->VK->Prop)(t:TA):TE:=fun σ H Q=>t σ H λvs a=>r vs a Q
theorem qk(hc:zR X (.builtin id) r)(i:Gl X x)(j:X.mg x=none)(hv:bootBuiltins x=some (.builtin id))(f:PA X (e::es) t)(l:x≠"__name__":=by decide)(a:(x==("__debug__":Str))=false:=by decide)
  (g:starEach (e::es) X.env=(false,eval e X.env)::starEach es X.env:=by rfl) (b:(backTo pos (starEach es X.env)).any (·.1)=false:=by rfl):PE X (.Call (.Name x p) (e::es) [] pos) (tCB r t):=by
 intro pins s σ H Q I h;show xy (qb7 I i j hv ?_ l a);show PyProof.Rows.callWith_builtin1 (thn (f pos pins s σ H _ I h) λus o ⟨vs,c,d,n,m⟩=>hc pins o σ c vs us Q d n m) g b
theorem qX(hc:zR X (.type T) r)(i:Gl X x)(j:X.mg x=none)(hv:bootBuiltins x=some (.type T))(f:PA X (e::es) t)(l:x≠"__name__":=by decide)(a:(x==("__debug__":Str))=false:=by decide)
  (g:starEach (e::es) X.env=(false,eval e X.env)::starEach es X.env:=by rfl) (b:(backTo pos (starEach es X.env)).any (·.1)=false:=by rfl):PE X (.Call (.Name x p) (e::es) [] pos) (tCB r t):=by
 intro pins s σ H Q I h;show xy (qb7 I i j hv ?_ l a);show xj (thn (f pos pins s σ H _ I h) λus o ⟨vs,c,d,n,m⟩=>hc pins o σ c vs us Q d n m) g b
end
end L2
namespace HT
open PySem PyProof.Rows
variable{hi lo:Option Int}{sl t:Addr}{vl vu:Value}
section
open PySem.SeqAt
open PySem.AutoSeq1 (wpAny_loadPart')
open PySem.MeetsSeq PySem.MeetsSeq2 PySem.MeetsSeq3
end
section
variable{prog:Program}{w:World}{A:Around}{E:Value->Shared->Prop}{s:Shared}
theorem cat_tup{b:Addr}{vs a:List Value}{Q:Value->Shared->Prop}(r:IsTup s.heap t vs.toArray)(hb:IsTup s.heap b a.toArray)(hv:vs≠[])
  (h1:a=[]->Q (.ref t) s) (q:a≠[]->Q (.ref s.heap.objs.size) { s with heap:=s.heap.push { cls:=.type "tuple",data:=.seq (vs++a).toArray } })
  (hsz:vs.length+a.length<=sizeLine):wpAny (model prog w) A (binaryOp .Add (.ref t) (.ref b)) Q E s:=by
 obtain⟨⟨cls,m,data,sl⟩,i,hc,n,o⟩:=id r;obtain⟨⟨l,d,j,h⟩,c,f,p,g⟩:=id hb;simp only at hc o f g;subst hc o f g;have e:vs.toArray++a.toArray=(vs++a).toArray:=by simp
 by_cases hw:a=[]
 .show concat_meets ⟨_,i,rfl⟩ ⟨_,c,rfl⟩ noFill_tuple_add seq_tuple_add PySem.F.slot_tuple_add PySem.F.entry_tuple_add (PySem.F.args_tuple_add_2 _ _)
   (tuple_addW1 t b vs.toArray a.toArray n p m d sl h (by simpa using hv) (by simp[hw])) ⟨i,c,h1 hw⟩
 .show concat_meets ⟨_,i,rfl⟩ ⟨_,c,rfl⟩ noFill_tuple_add seq_tuple_add PySem.F.slot_tuple_add PySem.F.entry_tuple_add (PySem.F.args_tuple_add_2 _ _)
   (tuple_addW2 t b vs.toArray a.toArray n p m d sl h (by simpa using hv) (by simpa using hw) (by rw[yB,yB];show hsz)) ⟨i,c,?_⟩
  rw[e];show q hw
def sIx(n d:Nat):Option Int->Nat
 | none=>d
 | some v=>if v<0 then(v+(n:Int)).toNat else min v.toNat n
theorem sIx_none(n d:Nat):sIx n d none=d:=rfl
theorem sIx_nat(n d k:Nat):sIx n d (some (k:Int))=min k n:=by
 show(if (k:Int)<0 then((k:Int)+(n:Int)).toNat else min (k:Int).toNat n)=min k n;rw[yE (by lk),Ye]
theorem sIx_le(n d:Nat)(a:d<=n)(o:Option Int):sIx n d o<=n:=by
 cases o with
 | none=>show a
 | some v =>
  show(if v<0 then(v+(n:Int)).toNat else min v.toNat n)<=n;by_cases hv:v<0
  .rw [yH hv];lk
  .rw [yE hv];show kj _ _
theorem qfy(v:Int)(n d:Nat):(if v<0 then max (v+(n:Int)) 0 else min v (n:Int))=((sIx n d (some v):Nat):Int):=by
 show(if v<0 then max (v+(n:Int)) 0 else min v (n:Int))=(((if v<0 then(v+(n:Int)).toNat else min v.toNat n):Nat):Int);by_cases hv:v<0
 .simp only[yH hv];lk
 .simp only[yE hv];lk
theorem adjust_gen(lo hi:Option Int)(n:Nat):Builtin.Slice.sliceAdjust lo hi 1 (n:Int)=(((sIx n 0 lo:Nat):Int),((sIx n n hi:Nat):Int)):=by
 have h1:¬ ((1:Int)<0):=by lk
 unfold Builtin.Slice.sliceAdjust;simp only[h1,k7];show XV ?_ ?_
 .cases lo with
  | none=>rfl
  | some v=>show qfy v n 0
 .cases hi with
  | none=>rfl
  | some v=>show qfy v n n
theorem places_gen(i j:Nat):Builtin.Slice.slicePlaces (i:Int) (j:Int) 1=j-i:=by
 unfold Builtin.Slice.slicePlaces;have h1:(1:Int)>0:=by lk
 simp only[h1,XB,Int.ediv_one];split<;>lk
theorem qcW{v:Value}{o:Option Int}{Q:Option Int->Shared->Prop}(p:IsPart v o)(h:Q o s):wpAny (model prog w) A (Builtin.Slice.slicePartIndex v) Q E s:=by
 cases p with
 | none=>show slicePart_none h
 | int i t=>show slicePart_int h
theorem sliceApplied_gen{n:Nat}{Q:Int×Int×Nat->Shared->Prop}(d:s.heap.IsSliceOf sl vl vu .none)(pl:IsPart vl lo)(e:IsPart vu hi)
  (h:Q (((sIx n 0 lo:Nat):Int),1,sIx n n hi-sIx n 0 lo) s):wpAny (model prog w) A (Builtin.Slice.sliceApplied (.ref sl) (pure (n:Int))) Q E s:=by
 obtain⟨f,b,c,a⟩:=id d;unfold Builtin.Slice.sliceApplied Builtin.Slice.sliceFields;show yt (yt (X5 b a (x:=vl) rfl (yt (X5 b a (x:=vu) rfl (yt (X5 b a (x:=.none) rfl (yA ?_)))))));show yt (slicePart_none ?_);show wpAny _ _ (if ((1:Int)==0)=true then _ else _) _ _ s;rw[yE (by decide)];show yt (qcW pl (yt (qcW e (yt (yA ?_)))));show wpAny _ _ (match Builtin.Slice.sliceAdjust lo hi 1 (n:Int) with | (lo,hi)=>pure (lo,(1:Int),Builtin.Slice.slicePlaces lo hi 1)) _ _ s;rw[adjust_gen lo hi n];show wpAny _ _ (pure (((sIx n 0 lo:Nat):Int),(1:Int),Builtin.Slice.slicePlaces ((sIx n 0 lo:Nat):Int) ((sIx n n hi:Nat):Int) 1)) _ _ s;rw[places_gen];show yA h
theorem pick_gen(xs:Array Value)(i k:Nat):((List.range k).filterMap λ(m:Nat)=>xs[((i:Int)+(m:Int)*1).toNat]?).toArray=((xs.toList.drop i).take k).toArray:=by
 have e:(λ(m:Nat)=>xs[((i:Int)+(m:Int)*1).toNat]?)=λm=>xs[i+m]?:=by
  funext m;have:((i:Int)+(m:Int)*1).toNat=i+m:=by lk
  rw[this]
 rw[e];have:=pick_run xs i k;rw[List.filterMap_map] at this;have a:((λx=>xs[x]?) ∘ λx=>i+x)=λm=>xs[i+m]?:=rfl;rw[a] at this;rw[this]
theorem getItem_tuple_cut{a:Array Value}{Q:Value->Shared->Prop}(c:IsTup s.heap t a)(i:s.heap.IsSliceOf sl vl vu .none)(pl:IsPart vl lo)(n:IsPart vu hi)
  (hw:¬ (sIx a.size 0 lo=0/\sIx a.size a.size hi=a.size))
  (h:Q (.ref s.heap.objs.size) { s with heap:=s.heap.push { cls:=.type "tuple",data:=.seq ((a.toList.drop (sIx a.size 0 lo)).take (sIx a.size a.size hi-sIx a.size 0 lo)).toArray } })
  (hsz:a.size<=sizeLine):wpAny (model prog w) A (getItem (.ref t) (.ref sl)) Q E s:=by
 have b:sizeOk (.seq ((a.toList.drop (sIx a.size 0 lo)).take (sIx a.size a.size hi-sIx a.size 0 lo)).toArray):=by
  show((a.toList.drop (sIx a.size 0 lo)).take (sIx a.size a.size hi-sIx a.size 0 lo)).toArray.size<=sizeLine;rw[yB,yM,Yz,YZ];lk
 have o:sIx a.size a.size hi<=a.size:=sIx_le _ _ (yi _) hi;obtain⟨l,g,e,j⟩:=id i;have d:s.TypeIs (.ref sl) "slice":=⟨l,g,e⟩;unfold getItem
 try with_reducible show YG ?_
 first | show yt (yA ?_) | skip
 show yt (wpAny_sequenceKey c.typeIs (by decide) ?_);show yt (wpAny_callSpecial?_slot (name:=Str.ofString "__getitem__") c.typeIs Xj
  (wpAny_call_entry Xj c.typeIs entry_tuple_getitem ?_ (args_tuple_getitem _ _)))
 show wpAny _ _ (Builtin.Tuple.tupleItemsOf (.ref t)>>=_) _ _ s;show yt (tupleItemsOf_ c ?_);show yt (wpAny_typeOf d ?_);rw[yH (by decide)];show yt (sliceApplied_gen i pl n ?_)
 have f:¬ ((((sIx a.size 0 lo:Nat):Int)==0&&(1:Int)==1&&(sIx a.size a.size hi-sIx a.size 0 lo)==a.size)=true):=by
  intro q;rw[Yl,Yl] at q;have p:((sIx a.size 0 lo:Nat):Int)=0:=eq_of_beq q.1.1;have r:sIx a.size a.size hi-sIx a.size 0 lo=a.size:=eq_of_beq q.2;show hw ⟨by lk,by lk⟩
 show wpAny _ _ (if (((sIx a.size 0 lo:Nat):Int)==0&&(1:Int)==1&&(sIx a.size a.size hi-sIx a.size 0 lo)==a.size)=true then _ else _) _ _ s;rw[yE f,pick_gen]
 first
  | show yt (m:=Builtin.Tuple.tupleExact _) (Xg (yA ⟨_,rfl,yA h⟩) b)
  | show yt (m:=Builtin.Tuple.tupleExact _) (Xg (yt (yA (yA ⟨_,rfl,yA h⟩))) b)
  | show yt (yt (m:=Builtin.Tuple.tupleExact _) (Xg (yA (yA ⟨_,rfl,yA h⟩)) b))
  | show yt (yt (m:=Builtin.Tuple.tupleExact _) (Xg (yA ⟨_,rfl,yA h⟩) b))
end
end HT
namespace L2
open PySem PySem.Spec PyProof.Rows
variable{A:Around}{H H':Hp}{P:Program}{X:Cx}{a p:Addr}{h':Heap}{i:Int}{its its' us:List Value}{j n t':Nat}{kvs:List (List Key×V)}{o:Option V}{pins:List (Addr×Obj)}{pos:Pos}{r:R2}{s:Shared}{trs:List (TE×TE)}{u v:Value}{w:World}{x y:V}{xs:List V}{α:Type}{σ:St}
abbrev TO:=St->Hp->(Option Int->Hp->Prop)->Prop
def PO(X:Cx)(e:Option Expr)(t:TO):Prop:=
 ∀(pins:List (Addr×Obj)) (s:Shared) (σ:St) (H:Hp) (Q:Option Int->Hp->Prop),Inv X pins σ H s->t σ H Q ->
  wpAny (model X.prog X.w) X.A (evalPart e X.env) (λu s'=>∃ o H',Inv X pins σ H' s'/\IsPart u o/\Q o H') X.xe s
def qda:TO:=λ_ H Q=>Q none H
def qgx(t:TE):TO:=fun σ H Q=>t σ H λx a=>∃ i,x=.int i/\Q (some i) a
theorem intsAre_of{ns:LQ}:∀{us:List Value},Vals (ns.map V.int) us->IntsAre us ns:=by
 induction ns with
 | nil=>intro us r;rw[Kd] at r;cases r;show .nil
 | cons n ns ih =>
  intro us r;rw[Ys] at r
  cases r with
  | cons r1 r2 =>
   obtain⟨t,e⟩:=r1;subst e;show .cons n t (ih r2)
section
variable{X:Cx}{e:Expr}{te:TE}{lo hi:Option Expr}{tl th:TO}{pos p2:Pos}
theorem qb0:PO X none qda:=by
 intro pins s σ H Q I h;rw[evalPart_none];show yA ⟨none,H,I,.none,h⟩
theorem qag(h:PE X e te):PO X (some e) (qgx te):=by
 intro pins s σ H Q I hw;rw[evalPart_some];show thn (h pins s σ H _ I hw) λu f ⟨x,a,b,d,c⟩=>?_;obtain⟨i,rfl,q⟩:=c;obtain⟨t,rfl⟩:=d;show⟨some i,a,b,.int i t,q⟩
def SlR(X:Cx)(r:V->Option Int->Option Int->Hp->VK->Prop):Prop:=
 ∀(pins:List (Addr×Obj)) (s:Shared) (σ:St) (H:Hp) (x:V) (v b c:Value) (lo hi:Option Int) (a:Addr) (Q:VK),Inv X pins σ H s->RelV x v->s.heap.IsSliceOf a b c .none->IsPart b lo->IsPart c hi->r x lo hi H Q ->
  ∃ T id,typeLookup (.type T) "__getitem__"=pure (some (.builtin id))/\s.TypeIs v T/\wpAny (model X.prog X.w) X.A (getItem v (.ref a)) (EP X pins σ Q) X.xe s
def tSl(r:V->Option Int->Option Int->Hp->VK->Prop)(te:TE)(tl th:TO):TE:=fun σ H Q=>te σ H λx a=>tl σ a λl b=>th σ b λu c=>r x l u c Q
theorem qaZ{r:V->Option Int->Option Int->Hp->VK->Prop}(z:SlR X r)(t:PE X e te)(hl:PO X lo tl)(C:PO X hi th):PE X (.Subscript e (.Slice lo hi none p2) pos) (tSl r te tl th):=by
 intro pins s σ H Q I h;show Subscript_ (thn (t pins s σ H _ I h) λv K ⟨x,g,j,J,E⟩=>?_);show wpAny_Slice (thn (hl pins K σ g _ j E) λc L ⟨l,i,m,pl,F⟩=>thn (C pins L σ i _ m F) λd a ⟨u,f,n,D,G⟩=>?_);rw[evalPart_none];show yA ?_;have o:Inv X pins σ f { a with heap:=a.heap.push { cls:=.type "slice",data:=.fields #[c,d,.none] } }:=n.kept (t':=a.toks) λb M q=>yv _ q;obtain⟨T,id,p,B,y⟩:=z pins { a with heap:=a.heap.push { cls:=.type "slice",data:=.fields #[c,d,.none] } } σ f x v c d l u a.heap.objs.size Q o J (Heap.IsSliceOf.new ..) pl D G;show wpAny (model X.prog X.w) X.A (subscriptTail e (.Slice lo hi none p2) v (.ref a.heap.objs.size)) (EP X pins σ Q) X.xe { a with heap:=a.heap.push { cls:=.type "slice",data:=.fields #[c,d,.none] } };show tail_any (ops:=[.ref a.heap.objs.size,v]) B p y (by with_unfolding_all rfl)
def qfz(xs:List V)(lo hi:Option Int):List V:=(xs.drop (HT.sIx xs.length 0 lo)).take (HT.sIx xs.length xs.length hi-HT.sIx xs.length 0 lo)
theorem qcw(xs:List V)(lo hi:Option Int):(qfz xs lo hi).length<=xs.length:=by
 unfold qfz;rw[yM,Yz];lk
inductive rSlT(K:yh)(x:V)(lo:Option Int)(hi:Option Int)(H:Hp)(Q:VK):Prop|mk (a xs:_) (_:x=.ref a) (_:SqT K H a xs) (_:¬ (HT.sIx xs.length 0 lo=0/\HT.sIx xs.length xs.length hi=xs.length)) (_:∀ p,H p=none->Q (.ref p) (upd H p (.tup (qfz xs lo hi))))
theorem sl_tup:SlR X (rSlT X.K):=by
 intro pins s σ H x v n p lo hi m Q I j f pl i h;obtain⟨a,xs,rfl,g,hw,q⟩:=h;cases j;obtain⟨its,r,d,e⟩:=I.tuple g;have c:its.toArray.size=xs.length:=by rw[yB];show r.length.symm
 show⟨"tuple",_,Xj.lookup,d.typeIs,?_⟩;show HT.getItem_tuple_cut d f pl i (by rw[c];show hw) ?_ (by rw[c];show e);rw[c];show⟨.ref s.heap.objs.size,_,I.laid (t':=s.toks) (o:=.tup (qfz xs lo hi)) (λb l q=>yv _ q) (yi _) ?_,rfl,q _ (I.hok.fresh (yi _))⟩;show⟨yj (qcw xs lo hi) e,_,(r.drop (HT.sIx xs.length 0 lo)).take (HT.sIx xs.length xs.length hi-HT.sIx xs.length 0 lo),IsTup.new _ _⟩
inductive rCatT(K:yh)(x:V)(y:V)(H:Hp)(Q:VK):Prop|mk (a b xs ys:_) (_:x=.ref a) (_:y=.ref b) (_:SqT K H a xs) (_:SqT K H b ys) (_:xs≠[]) (_:xs.length+ys.length<=sizeLine) (_:(ys=[]->Q (.ref a) H)) (_:(ys≠[]->∀ p,H p=none->Q (.ref p) (upd H p (.tup (xs++ys)))))
theorem Vals.nil_iff(r:Vals xs us):us=[]↔xs=[]:=by
 cases r with
 | nil=>simp
 | cons _ _=>simp
theorem op_catT:OpR X (binaryOp .Add) (rCatT X.K):=by
 intro pins s σ H x y v u Q I n p h;obtain⟨a,b,xs,ys,rfl,rfl,g,hb,i,e,l,m⟩:=h;cases n;cases p;obtain⟨its,d,j,_⟩:=I.tuple g;obtain⟨f,c,p2,_⟩:=I.tuple hb;show HT.cat_tup j p2 (λz=>i (d.nil_iff.mp z)) (λz=>⟨.ref a,H,I,rfl,l (c.nil_iff.mp z)⟩) (λz=>?_) (by rw[<- d.length,<- c.length];show e);show⟨.ref s.heap.objs.size,_,I.laid (t':=s.toks) (o:=.tup (xs++ys)) (λb r q=>yv _ q) (yi _) ?_,rfl,m (λw=>z (c.nil_iff.mpr w)) _ (I.hok.fresh (yi _))⟩;show⟨by rw[yK];show e,_,d.append c,IsTup.new _ _⟩
end
def ixN(n:Nat)(i:Int):Option Nat:=if 0<=i then(if i<n then some i.toNat else none) else if -(n:Int)<=i then some (i+n).toNat else none
def atI{α:Type}(xs:List α)(i:Int):Option α:=(ixN xs.length i).bind λj=>xs[j]?
theorem qfA(h:ixN n i=some j):seqIndex? i n=some j/\j<n/\-(n:Int)<=i/\i<n:=by
 unfold ixN at h;by_cases a:0<=i
 .rw [yH a] at h;by_cases h1:i<n
  .rw [yH h1] at h;have e:i.toNat=j:=yn h;show⟨by rw[seqIndex_of a h1,e],by lk,by lk,h1⟩
  .rw [yE h1] at h;cases h
 .rw [yE a] at h;by_cases h1:-(n:Int)<=i
  .rw [yH h1] at h;have e:(i+n).toNat=j:=yn h;show⟨by rw[seqIndex_neg (by lk) h1,e],by lk,h1,by lk⟩
  .rw [yE h1] at h;cases h
theorem qef{xs:List α}{v:α}(h:atI xs i=some v):∃ j,seqIndex? i xs.length=some j/\xs[j]?=some v/\j<xs.length/\-(xs.length:Int)<=i/\i<xs.length:=by
 unfold atI at h
 cases e:ixN xs.length i with
 | none=>rw[e] at h;cases h
 | some j =>
  rw[e] at h;obtain⟨h1,a,b,c⟩:=qfA e;show⟨j,h1,h,a,b,c⟩
theorem j7{xs:List α}{v:α}(h:xs[j]?=some v):atI xs (j:Int)=some v:=by
 have a:j<xs.length:=(yc.mp h).1
 have e:ixN xs.length (j:Int)=some j:=by
  unfold ixN;rw[yH (by lk),yH (by lk)];simp
 unfold atI;rw[e];show h
def PlainIx(b:Expr):Prop:=∀ o i,subscripted b false o i=operate [o,i] (getItem o i)
def IxR(X:Cx)(r:R2):Prop:=
 ∀(b a:Expr) (pins:List (Addr×Obj)) (s:Shared) (σ:St) (H:Hp) (x y:V) (v u:Value) (Q:VK),Inv X pins σ H s->RelV x v->RelV y u->r x y H Q ->
  subscripted a false v u=operate [v,u] (getItem v u)->wpAny (model X.prog X.w) X.A (subscriptTail b a v u) (EP X pins σ Q) X.xe s
def MtR(X:Cx)(id:String)(r:V->List V->Hp->VK->Prop):Prop:=
 ∀(pins:List (Addr×Obj)) (s:Shared) (σ:St) (H:Hp) (x:V) (xs:List V) (v:Value) (us:List Value) (Q:VK),Inv X pins σ H s->RelV x v->Vals xs us->r x xs H Q ->
  wpAny (model X.prog X.w) X.A (call (.builtin id) (v::us)) (EP X pins σ Q) X.xe s
section
variable{X:Cx}{a b:Expr}{ta tb:TE}{pos:Pos}
theorem IxR.or{d:R2}(h:IxR X r)(h':IxR X d):IxR X (λx y H Q=>r x y H Q\/d x y H Q):=by
 intro b a pins s σ H x y v u Q I e f q c;rcases q with q | q
 .show h b a pins s σ H x y v u Q I e f q c
 .show h' b a pins s σ H x y v u Q I e f q c
theorem qA(f:IxR X r)(e:PE X a ta)(hb:PE X b tb)(g:PlainIx b):PE X (.Subscript a b pos) (tOp r ta tb):=by
 intro pins s σ H Q I h;show Subscript_ (qii e hb I h λv u l x y c d i j q=>f a b pins l σ c x y v u Q d i j q (g _ _))
inductive rIxL(K:yh)(x:V)(y:V)(H:Hp)(Q:VK):Prop|mk (p xs i v:_) (_:x=.ref p) (_:y=.int i) (_:SqL K H p xs) (_:atI xs i=some v) (_:Q v H)
inductive rIxT(K:yh)(x:V)(y:V)(H:Hp)(Q:VK):Prop|mk (p xs i v:_) (_:x=.ref p) (_:y=.int i) (_:SqT K H p xs) (_:atI xs i=some v) (_:Q v H)
inductive rIxS(x:V)(y:V)(H:Hp)(Q:VK):Prop|mk (z i c:_) (_:x=.str z) (_:y=.int i) (_:z.length<=sizeLine) (_:atI z.cps.toList i=some c) (_:Q (.str ⟨#[c]⟩) H)
theorem ix_list:IxR X (rIxL X.K):=by
 intro e d pins s σ H x y v u Q I C D h l;obtain⟨p,xs,i,z,rfl,rfl,B,A,q⟩:=h;cases C;obtain⟨t,rfl⟩:=D;obtain⟨its,r,pl,G⟩:=I.list B;obtain⟨j,h1,m,E,n,o⟩:=qef A;obtain⟨w,f,c⟩:=r.get m;have hl:=r.length;have F:=qcV;have a:EP X pins σ Q w s:=⟨z,H,I,c,q⟩;by_cases g:0<=i
 .have b:i.toNat=j:=by
   rw[seqIndex_of g o] at h1;show yn h1
  show item_listR pl.isList g (by lk) (by rw[b];simpa using f) a l
 .have b:(i+(its.toArray.size:Int)).toNat=j:=by
   rw[seqIndex_neg (by lk) n] at h1;rw[yB,<- hl];show yn h1
  show subscriptTail_builtinR (x:=w) pl.isList.typeIs kQ.lookup
   (wpAny_getItem_list_neg (Q:=λr s'=>r=w/\EP X pins σ Q r s') pl.isList (by lk) (by rw[yB]<;>lk) (by lk) (by rw[b];simpa using f) ⟨rfl,a⟩) l
theorem ix_tup:IxR X (rIxT X.K):=by
 intro d c pins s σ H x y v u Q I n o h m;obtain⟨p,xs,i,z,rfl,rfl,l,g,q⟩:=h;cases n;obtain⟨t,rfl⟩:=o;obtain⟨its,r,pl,E⟩:=I.tuple l;obtain⟨j,h1,f,A,B,C⟩:=qef g;obtain⟨w,e,b⟩:=r.get f;have hl:=r.length;have D:=qcV;have a:EP X pins σ Q w s:=⟨z,H,I,b,q⟩;show subscriptTail_builtinR (x:=w) pl.typeIs slot_tuple_getitem.lookup
  (getItem_tuple (j:=j) (Q:=λr s'=>r=w/\EP X pins σ Q r s') pl (by lk) (by lk) (by rw[yB,<- hl];show h1) (by simpa using e) ⟨rfl,a⟩) m
theorem ix_str:IxR X rIxS:=by
 intro b a pins s σ H x y v u Q I o p h n;obtain⟨z,i,c,rfl,rfl,A,m,q⟩:=h;obtain⟨t,rfl⟩:=o;obtain⟨t',rfl⟩:=p;obtain⟨j,h1,f,r,g,l⟩:=qef m;have hl:z.cps.toList.length=z.length:=by simp[Str.length]
 rw[hl] at h1 g l;have w:=qcV
 show tail_any (typeIs_str s z t) slot_str_getitem.lookup (getItem_str (c:=c) (by
  have d:decide (i < -(2 ^ 63:Int))=false:=ym (by lk);have e:decide (i ≥ 2 ^ 63)=false:=ym (by lk);rw[d,e,kW]) (by rw[h1];simpa using f) ⟨.str ⟨#[c]⟩,H,I.tok _,⟨_,rfl⟩,q⟩) n
def rIx(K:yh):R2:=λx y H Q=>rIxL K x y H Q\/rIxT K x y H Q\/rIxS x y H Q
theorem ix_seq:IxR X (rIx X.K):=ix_list.or (ix_tup.or ix_str)
theorem mapSeq_set(its:List Value)(n j:Nat)(u:Value):Obj.mapSeq (·.setIfInBounds j u) { cls:=.type "list",data:=.seq its.toArray n }={ cls:=.type "list",data:=.seq (its.set j u).toArray n }:=by
 simp[Obj.mapSeq]
theorem Inv.lst(I:Inv X pins σ H s)(h:H p=some (.lst xs)) :
  ∃(its:List Value) (n:Nat),Vals xs its/\s.heap.get? p=some { cls:=.type "list",data:=.seq its.toArray n }/\xs.length<=sizeLine:=by
 obtain⟨z,its,n,r,e⟩:=I.hok p _ h;show⟨its,n,r,e,z⟩
theorem Inv.lstUpd{ys:List V}{a:Nat}{f:Obj->Obj}(I:Inv X pins σ H s)(h:H p=some (.lst xs))
  (d:s.heap.get? p=some { cls:=.type "list",data:=.seq its.toArray n }) (c:f { cls:=.type "list",data:=.seq its.toArray n }={ cls:=.type "list",data:=.seq its'.toArray a }) (r:Vals ys its') (g:ys.length<=sizeLine) (t:Nat) :
  Inv X pins σ (upd H p (.lst ys)) { s with heap:=s.heap.update p f,toks:=t }:=by
 have e:(s.heap.update p f).get? p=some { cls:=.type "list",data:=.seq its'.toArray a }:=by
  rw[xx f d (by rw[c]<;>rfl),c]
 show I.write (x:=p) (e:=p) (by rw[h];trivial) (.inl rfl) (λb u hb q=>(YC _ _ (Yw hb)).trans q) ⟨_,e⟩ ?_;show⟨g,its',a,r,e⟩
inductive rSetL(o:V)(i:V)(v:V)(H:Hp)(Q:(Hp->Prop)):Prop|mk (p xs k j:_) (_:o=.ref p) (_:i=.int k) (_:H p=some (.lst xs)) (_:ixN xs.length k=some j) (_:Q (upd H p (.lst (xs.set j v))))
theorem set_list:qih X rSetL:=by
 intro pins s σ H o i v B iv u Q I x w y h;obtain⟨p,xs,k,j,rfl,rfl,g,l,q⟩:=h;cases x;obtain⟨t,rfl⟩:=w;obtain⟨its,n,r,b,m⟩:=I.lst g;obtain⟨h1,z,e,f⟩:=qfA l;have hl:=r.length;have A:=qcV
 have c:Inv X pins σ (upd H p (.lst (xs.set j v))) { s with heap:=s.heap.update p (Obj.mapSeq (·.setIfInBounds j u)) }:=
  I.lstUpd g b (mapSeq_set its n j u) (r.set y j) (by rw[ky];show m) s.toks
 by_cases d:0<=k
 .have a:k.toNat=j:=by
   rw[seqIndex_of d f] at h1;show yn h1
  show PySem.W.ki_setAt b d (by lk) (by rw[yB,<- hl];show f) (by rw[a];show⟨_,c,q⟩)
 .have a:(k+(its.toArray.size:Int)).toNat=j:=by
   rw[seqIndex_neg (by lk) e] at h1;rw[yB,<- hl];show yn h1
  show PySem.W.ki_setBack b (by lk) (by rw[yB,<- hl];show e) (by lk) (by rw[a];show⟨_,c,q⟩)
theorem slice_bounds(lo a:Option Int)(n:Nat):(sliceBounds lo a none n).1=((HT.sIx n 0 lo:Nat):Int)/\(sliceBounds lo a none n).2.1=((HT.sIx n n a:Nat):Int)/\(sliceBounds lo a none n).2.2=1:=by
 show⟨?_,?_,rfl⟩
 .cases lo with
  | none=>simp[sliceBounds,HT.sIx]
  | some i =>
   simp only[sliceBounds,HT.sIx,Option.getD_none,show(1:Int)>0 by decide,XB];by_cases h:i<0
   .simp only[h,XB]<;>lk
   .simp only[h,k7]<;>lk
 .cases a with
  | none=>simp[sliceBounds,HT.sIx]
  | some i =>
   simp only[sliceBounds,HT.sIx,Option.getD_none,show(1:Int)>0 by decide,XB];by_cases h:i<0
   .simp only[h,XB]<;>lk
   .simp only[h,k7]<;>lk
theorem slicePick_cut(its:List Value)(lo a:Option Int):slicePick its.toArray lo a none=((its.drop (HT.sIx its.length 0 lo)).take (HT.sIx its.length its.length a-HT.sIx its.length 0 lo)).toArray:=by
 obtain⟨h1,b,c⟩:=slice_bounds lo a its.toArray.size;unfold slicePick;rw[h1,b,c];simp only[sliceRange_one,pick_run,yB]<;>rfl
inductive rSlL(K:yh)(x:V)(lo:Option Int)(hi:Option Int)(H:Hp)(Q:VK):Prop|mk (a xs:_) (_:x=.ref a) (_:SqL K H a xs) (_:∀ p,H p=none->Q (.ref p) (upd H p (.lst (qfz xs lo hi))))
theorem sl_list:SlR X (rSlL X.K):=by
 intro pins s σ H x v p t lo d n Q I l f pl j h;obtain⟨a,xs,rfl,g,q⟩:=h;cases l;obtain⟨its,r,e,i⟩:=I.list g;have c:=r.length;show⟨"list",_,kQ.lookup,e.isList.typeIs,?_⟩;show wpAny_getItem_list_slice e.isList f pl j .none (by simp) ?_ (by rw[yB]<;>lk);rw[slicePick_cut,<- c];show⟨.ref s.heap.objs.size,_,I.laid (t':=s.toks) (o:=.lst (qfz xs lo d)) (λb m q=>yv _ q) (yi _) ?_,rfl,q _ (I.hok.fresh (yi _))⟩;show⟨yj (qcw xs lo d) i,_,0,(r.drop (HT.sIx xs.length 0 lo)).take (HT.sIx xs.length xs.length d-HT.sIx xs.length 0 lo),yS _ rfl⟩
def zS:V->Bool
 | .non=>true
 | .bl _=>true
 | .int _=>true
 | .str _=>true
 | _=>false
def eqV:V->V->Bool
 | .non,.non=>true
 | .bl a,.bl b=>a==b
 | .bl a,.int b=>(if a then 1 else 0)==b
 | .int a,.bl b=>a==(if b then 1 else 0)
 | .int a,.int b=>a==b
 | .str a,.str b=>a==b
 | _,_=>false
theorem qfB(e:RelV y u)(c:RelV x v)(f:zS y=true)(d:zS x=true):SeqAt.EqAt A s u v (eqV y x):=by
 cases y with
 | non =>
  cases e
  cases x with
  | non=>cases c;show kz _
  | bl b=>cases c;show SeqAt.EqAt.none_bool b
  | int b=>obtain⟨t,rfl⟩:=c;show SeqAt.EqAt.none_int b t
  | str b=>obtain⟨t,rfl⟩:=c;show SeqAt.EqAt.none_str b t
  | _=>show absurd (show false=true from d) YH
 | bl a =>
  cases e
  cases x with
  | non=>cases c;show SeqAt.EqAt.bool_none a
  | bl b=>cases c;show SeqAt.EqAt.bool_bool a b
  | int b=>obtain⟨t,rfl⟩:=c;show SeqAt.EqAt.bool_int a b t
  | str b=>obtain⟨t,rfl⟩:=c;show SeqAt.EqAt.bool_str a b t
  | _=>show absurd (show false=true from d) YH
 | int a =>
  obtain⟨t',rfl⟩:=e
  cases x with
  | non=>cases c;show SeqAt.EqAt.int_none a t'
  | bl b=>cases c;show SeqAt.EqAt.int_bool a t' b
  | int b=>obtain⟨t,rfl⟩:=c;show SeqAt.EqAt.int_int a t' b t
  | str b=>obtain⟨t,rfl⟩:=c;show SeqAt.EqAt.int_str a t' b t
  | _=>show absurd (show false=true from d) YH
 | str a =>
  obtain⟨t',rfl⟩:=e
  cases x with
  | non=>cases c;show SeqAt.EqAt.str_none a t'
  | bl b=>cases c;show SeqAt.EqAt.str_bool a t' b
  | int b=>obtain⟨t,rfl⟩:=c;show SeqAt.EqAt.str_int a t' b t
  | str b=>obtain⟨t,rfl⟩:=c;show SeqAt.EqAt.str_str a t' b t
  | _=>show absurd (show false=true from d) YH
 | _=>show absurd (show false=true from f) YH
def eqU(x:V)(u:Value):Bool:=match u with
 | .none=>eqV .non x
 | .bool b=>eqV (.bl b) x
 | .int i _=>eqV (.int i) x
 | .str z _=>eqV (.str z) x
 | _=>false
theorem qfC(r:RelV y u)(f:zS y=true):eqU x u=eqV y x:=by
 cases y with
 | non=>cases r;rfl
 | bl b=>cases r;rfl
 | int i=>obtain⟨t,rfl⟩:=r;rfl
 | str z=>obtain⟨t,rfl⟩:=r;rfl
 | _=>show absurd (show false=true from f) YH
theorem qcx:∀{xs:List V} {us:List Value},Vals xs us->xs.all zS=true->us.any (eqU x)=xs.any λy=>eqV y x
 | _,_,.nil,_=>rfl
 | y::xs,u::us,.cons r t,f=>by
  rw[Xy,Yl] at f;rw[ko,ko,qfC r f.1,qcx t f.2]
theorem qa0(b:RelV x v)(a:zS x=true):∀{xs:List V} {us:List Value},Vals xs us->xs.all zS=true->∀ u∈us,SeqAt.EqAt A s u v (eqU x u)
 | _,_,.nil,_=>λu hu=>by cases hu
 | y::xs,u::us,.cons r t,f=>λc hu=>by
  rw[Xy,Yl] at f;rcases yF.mp hu with rfl | hu
  .rw [qfC r f.1];show qfB r b f.1 a
  .show qa0 b a t f.2 c hu
def inV(x:V)(xs:List V):Bool:=xs.any λy=>eqV y x
inductive rIn(K:yh)(neg:Bool)(x:V)(y:V)(H:Hp)(Q:VK):Prop|mk (p xs:_) (_:y=.ref p) (_:(SqL K H p xs\/SqT K H p xs)) (_:zS x=true) (_:xs.all zS=true) (_:Q (.bl (if neg then !inV x xs else inV x xs)) H)
theorem op_in_seq:OpR X (compareOp .In) (rIn X.K false):=by
 intro pins s σ H x y v u Q I b d h;obtain⟨p,xs,rfl,hq,a,fs,q⟩:=h;cases d;rcases hq with hq | hq
 .obtain⟨its,r,pl,c⟩:=I.list hq;show SeqAt.in_listAt (eqU x) pl.isList (λw hw=>qa0 b a r fs w (by simpa using hw)) ⟨.bl _,H,I,rfl,?_⟩;rw[show its.toArray.any (eqU x)=its.any (eqU x) by simp,qcx r fs];show q
 .obtain⟨its,r,pl,c⟩:=I.tuple hq;show SeqAt.in_tupleAt (eqU x) pl (λw hw=>qa0 b a r fs w (by simpa using hw)) ⟨.bl _,H,I,rfl,?_⟩;rw[show its.toArray.any (eqU x)=its.any (eqU x) by simp,qcx r fs];show q
theorem op_notIn_seq:OpR X (compareOp .NotIn) (rIn X.K true):=by
 intro pins s σ H x y v u Q I b d h;obtain⟨p,xs,rfl,hq,a,fs,q⟩:=h;cases d;rcases hq with hq | hq
 .obtain⟨its,r,pl,c⟩:=I.list hq;show SeqAt.notIn_listAt (eqU x) pl.isList (λw hw=>qa0 b a r fs w (by simpa using hw)) ⟨.bl _,H,I,rfl,?_⟩;rw[show its.toArray.any (eqU x)=its.any (eqU x) by simp,qcx r fs];show q
 .obtain⟨its,r,pl,c⟩:=I.tuple hq;show SeqAt.notIn_tupleAt (eqU x) pl (λw hw=>qa0 b a r fs w (by simpa using hw)) ⟨.bl _,H,I,rfl,?_⟩;rw[show its.toArray.any (eqU x)=its.any (eqU x) by simp,qcx r fs];show q
theorem call_len_seq:zR X (.builtin "len") (λxs H Q=>∃ p ys,xs=[.ref p]/\(SqL X.K H p ys\/SqT X.K H p ys)/\Q (.int ys.length) H):=by
 intro pins s σ H xs us Q I r h;obtain⟨p,ys,rfl,hq,q⟩:=h;obtain⟨u,rfl,d⟩:=qbX r;cases d;have e:=qcV;rcases hq with hq | hq
 .obtain⟨its,b,pl,c⟩:=I.list hq;have a:=b.length;show Calls.call_len_list pl.isList (by simp only[yB]<;>lk) ⟨.int ys.length,H,I.tok _,⟨s.toks+1,by rw[yB,a]⟩,q⟩
 .obtain⟨its,b,pl,c⟩:=I.tuple hq;have a:=b.length;show len_tuple pl (by simp only[yB]<;>lk) ⟨.int ys.length,H,I.tok _,⟨s.toks+1,by rw[yB,a]⟩,q⟩
theorem call_len_str:zR X (.builtin "len") (λxs H Q=>∃ z,xs=[.str z]/\z.length<=sizeLine/\Q (.int z.length) H):=by
 intro pins s σ H xs us Q I r h;obtain⟨z,rfl,b,q⟩:=h;obtain⟨u,rfl,t,rfl⟩:=qbX r;have a:=qcV;show len_str (by lk) ⟨.int z.length,H,I.tok _,⟨_,rfl⟩,q⟩
theorem call_list_of:zR X (.type "list") (λxs H Q=>∃ p ys,xs=[.ref p]/\(SqL X.K H p ys\/SqT X.K H p ys)/\∀ l,H l=none->Q (.ref l) (upd H l (.lst ys))):=by
 intro pins s σ H xs us Q I r h;obtain⟨p,ys,rfl,hq,q⟩:=h;obtain⟨u,rfl,v⟩:=qbX r;cases v;have d:∀(its:List Value),Vals ys its->ys.length<=sizeLine->∀(h':Heap) (a:Nat),(∀ b t,s.heap.get? b=some t->h'.get? b=some t) ->
   h'.get? s.heap.objs.size=some { cls:=.type "list",dict:=none,data:=.seq its.toArray a,slots:=#[] }->EP X pins σ Q (.ref s.heap.objs.size) { s with heap:=h' }:=λits c g h' a i e =>
  ⟨.ref s.heap.objs.size,_,I.laid (t':=s.toks) i (yi _) (show ObjOk X.prog X.w _ h' _ (.lst ys) from⟨g,its,a,c,e⟩),rfl,q _ (I.hok.fresh (yi _))⟩
 rcases hq with hq | hq
 .obtain⟨its,c,pl,g⟩:=I.list hq;have f:=c.length;obtain⟨o,m,hc,n,j⟩:=pl.isList;show call_list_seq p (.inl rfl) m hc j (λh' a i e=>d its c g h' a i e) (by simp only[yB]<;>lk)
 .obtain⟨its,c,pl,g⟩:=I.tuple hq;have f:=c.length;obtain⟨o,m,hc,n,j⟩:=pl;show call_list_seq p (.inr rfl) m hc j (λh' a i e=>d its c g h' a i e) (by simp only[yB]<;>lk)
theorem call_tuple_of:zR X (.type "tuple") (λxs H Q=>∃ p ys,xs=[.ref p]/\((SqL X.K H p ys/\∀ l,H l=none->Q (.ref l) (upd H l (.tup ys)))\/(SqT X.K H p ys/\Q (.ref p) H))):=by
 intro pins s σ H xs us Q I r h;obtain⟨p,ys,rfl,h⟩:=h;obtain⟨u,rfl,m⟩:=qbX r;cases m;rcases h with⟨a,q⟩ | ⟨a,q⟩
 .obtain⟨its,c,pl,g⟩:=I.list a;have f:=c.length;show call_tuple_list pl.isList (λh' j=>?_) (by simp only[yB]<;>lk);have d:Inv X pins σ H { s with heap:=h' }:=I.kept (t':=s.toks) j
  have i:Inv X pins σ (upd H h'.objs.size (.tup ys)) { s with heap:=h'.push { cls:=.type "tuple",data:=.seq its.toArray } }:=
   d.laid (t':=s.toks) (λb o e=>yv _ e) (yi _) (show ObjOk X.prog X.w _ _ _ (.tup ys) from⟨g,its,c,IsTup.new _ _⟩)
  show⟨.ref h'.objs.size,_,i,rfl,q _ (d.hok.fresh (yi _))⟩
 .obtain⟨its,c,pl,g⟩:=I.tuple a;show call_tuple_same pl ⟨.ref p,H,I,rfl,q⟩
def tyV(K:yh)(T:String)(x:V)(H:Hp):Prop:=match x with
 | .str _=>T="str"
 | .int _=>T="int"
 | .ref p=>(T="list"/\∃ xs,SqL K H p xs)\/(T="tuple"/\∃ o,K.lookup p=some o/\o.cls=.type "tuple"/\o.dict=none) \/
   (T="dict"/\((∃ kvs,H p=some (.dK kvs))\/∃ kvs,H p=some (.dT kvs)))\/(T="set"/\∃ S n,H p=some (.set S n))
 | _=>False
theorem qgO{T:String}(I:Inv X pins σ H s)(r:RelV x v)(ty:tyV X.K T x H) :
  s.TypeIs v T/\∀ a,v=.ref a->∃ h,s.heap.get? a=some h/\h.dict=none:=by
 cases x with
 | str z =>
  obtain⟨t,rfl⟩:=r;cases (show T="str" from ty);show⟨typeIs_str s z t,λ_ e=>nomatch e⟩
 | int i =>
  obtain⟨t,rfl⟩:=r;cases (show T="int" from ty);show⟨typeIs_int s i t,λ_ e=>nomatch e⟩
 | ref p =>
  cases r;rcases ty with⟨rfl,xs,j⟩ | ⟨rfl,o,b,hc,g⟩ | ⟨rfl,b⟩ | ⟨rfl,S,n,b⟩
  .obtain⟨its,_,pl,_⟩:=I.list j;show⟨pl.isList.typeIs,λa e=>?_⟩;cases e;obtain⟨o,n,e,c,g,_⟩:=pl;show⟨o,e,g⟩
  .show⟨⟨o,I.kIn p o b,hc⟩,λa e=>?_⟩;cases e;show⟨o,I.kIn _ o b,g⟩
  .have z:∃ o,s.heap.get? p=some o/\o.ExactDict:=by
    rcases b with⟨kvs,b⟩ | ⟨kvs,b⟩
    .obtain⟨_,_,_,_,o,_,_,e,d,_⟩:=I.hok p _ b;show⟨o,e,d⟩
    .obtain⟨_,_,_,_,o,_,_,e,d,_⟩:=I.hok p _ b;show⟨o,e,d⟩
   obtain⟨o,e,d⟩:=z;show⟨⟨o,e,d.1⟩,λa f=>?_⟩;cases f;show⟨o,e,d.2.1⟩
  .obtain⟨o,_,_,_,e,d,_⟩:=I.hok p _ b;show⟨⟨o,e,d.1⟩,λa f=>?_⟩;cases f;show⟨o,e,d.2.1⟩
 | _=>show False.elim ty
def qij(K:yh)(T:String)(r:V->List V->Hp->VK->Prop)(to:TE):TE:=fun σ H Q=>to σ H λx a=>tyV K T x a/\r x [] a Q
def tBM(K:yh)(T:String)(r:V->List V->Hp->VK->Prop)(to:TE)(t:TA):TE:=fun σ H Q=>to σ H λx a=>tyV K T x a/\t σ a λxs b=>r x xs b Q
variable{o e:Expr}{es:List Expr}{to:TE}{t:TA}{name:Str}{apos cpos:Pos}{T id:String}{r:V->List V->Hp->VK->Prop}
theorem pe_bm0(m:PlainAttrs T)(c:Slot T name id)(d:typeOf (.builtin id)=pure (.type "method_descriptor"))(j:MtR X id r)(l:PE X o to)
  (a:attributeBase o name X.env (eval o X.env)=eval o X.env:=by rfl) (b:(apos.endLine==cpos.line)=true:=by rfl):PE X (.Call (.Attribute o name apos) [] [] cpos) (qij X.K T r to):=by
 intro pins s σ H Q I h;show wpAny_Call_method0_late a b (thn (l pins s σ H _ I h) λv p ⟨x,g,e,f,ty,n⟩=>?_);obtain⟨h1,i⟩:=qgO e f ty;show⟨T,id,m,c,d,h1,i,X7 rfl (PySem.evalArgs_none (j pins p σ g x [] v [] Q e f .nil n))⟩
theorem pe_bm(A:PlainAttrs T)(f:Slot T name id)(g:typeOf (.builtin id)=pure (.type "method_descriptor"))(w:MtR X id r)(y:PE X o to)(u:PA X (e::es) t)
  (b:attributeBase o name X.env (eval o X.env)=eval o X.env:=by rfl)
  (d:((backTo cpos (starEach (e::es) X.env)).all (λx=>!x.1)&&(backToKw cpos (keywordEach [] X.env)).all (λx=>x.1.isSome)
   && decide ((e::es).length+([]:List Keyword).length+(if ([]:List Keyword).isEmpty then 0 else 1)<30))=true:=by rfl)
  (c:(apos.endLine==cpos.line)=true:=by rfl) (z:starEach (e::es) X.env=(false,eval e X.env)::starEach es X.env:=by rfl) (a:(backTo cpos (starEach es X.env)).any (·.1)=false:=by rfl) :
  PE X (.Call (.Attribute o name apos) (e::es) [] cpos) (tBM X.K T r to t):=by
 intro pins s σ H Q I h;show wpAny_Call_method_late b d c rfl (thn (y pins s σ H _ I h) λv E ⟨x,m,i,l,ty,B⟩=>?_);obtain⟨h1,q⟩:=qgO i l ty;show⟨T,id,A,f,g,h1,q,?_⟩;have j:=u cpos pins E σ m _ i B;rw[z] at j ⊢;show X7 (by show(false||(backTo cpos (starEach es X.env)).any (·.1))=false;rw[a]<;>rfl) (Calls.evalArgs_plain ?_);show thn j λus F ⟨vs,n,p,D,C⟩=>w pins F σ n x vs v us Q p l D C
end
def MtM(X:Cx)(id:String)(r:V->List V->Hp->VK->Prop):Prop:=
 ∀(pins:List (Addr×Obj)) (s:Shared) (σ:St) (H:Hp) (x:V) (xs:List V) (v:Value) (us:List Value) (Q:VK),Inv X pins σ H s->RelV x v->Vals xs us->r x xs H Q ->
  wpAny (model X.prog X.w) X.A (call (.builtin id) (v::us)) (EP X pins σ Q) X.xe s
theorem Vals.one:∀{x:V} {us:List Value},Vals [x] us->∃ u,us=[u]/\RelV x u
 | _,_,.cons r .nil=>⟨_,rfl,r⟩
theorem Vals.zero:∀{us:List Value},Vals [] us->us=[]
 | _,.nil=>rfl
theorem Vals.dropLast(h:Vals xs us):Vals xs.dropLast us.dropLast:=by
 induction h with
 | nil=>show .nil
 | cons r t ih =>
  cases t with
  | nil=>show .nil
  | cons q t'=>show .cons r ih
theorem Vals.eraseIdx:∀{xs:List V} {us:List Value} (i:Nat),Vals xs us->Vals (xs.eraseIdx i) (us.eraseIdx i)
 | _,_,_,.nil=>.nil
 | _,_,0,.cons _ t=>t
 | _,_,i+1,.cons r t=>.cons r (Vals.eraseIdx i t)
theorem Vals.reverse(h:Vals xs us):Vals xs.reverse us.reverse:=by
 induction h with
 | nil=>show .nil
 | cons r t ih=>rw[X8,X8];show Vals.append ih (.cons r .nil)
theorem Vals.rep(h:Vals xs us):∀ k:Nat,Vals (List.replicate k xs).flatten (List.replicate k us).flatten
 | 0=>.nil
 | k+1=>by
  rw[xF,xF,XC,XC];show Vals.append h (Vals.rep h k)
theorem erase_last(l:List α):l.eraseIdx (l.length-1)=l.dropLast:=by
 induction l with
 | nil=>rfl
 | cons a r ih =>
  cases r with
  | nil=>rfl
  | cons b r =>
   have e:(a::b::r).length-1=((b::r).length-1)+1:=by
    have h1:(a::b::r).length=r.length+2:=rfl;have c:(b::r).length=r.length+1:=rfl;lk
   rw[e,List.eraseIdx_cons_succ,ih]
   all_goals rfl
theorem qdP:∀(l:List α) (i:Nat),(l.eraseIdx i).length<=l.length
 | [],_=>yi _
 | _::_,0=>YV _
 | _::r,i+1=>k8 (qdP r i)
theorem qdQ(its:List Value):∀(k:Nat) (acc:List Value),
  List.foldl (λb c=>b++c) acc.toArray (List.replicate k its.toArray)=(acc++(List.replicate k its).flatten).toArray
 | 0,acc=>by simp
 | k+1,acc=>by
  have e:acc.toArray++its.toArray=(acc++its).toArray:=by simp
  have a:(acc++its)++(List.replicate k its).flatten=acc++(List.replicate (k+1) its).flatten:=by
   rw[xF,XC,YK]
  rw[<- a,<- qdQ its k (acc++its),<- e,xF,List.foldl_cons]
section
variable{X:Cx}{pins:List (Addr×Obj)}{σ:St}{H:Hp}{s:Shared}{l b:Addr}{xs ys zs:List V}
theorem Inv.lset{f:Array Value->Array Value}(I:Inv X pins σ H s)(a:H l=some (.lst xs))
  (e:s.heap.get? l=some { cls:=.type "list",data:=.seq its.toArray n }) (b:f its.toArray=its'.toArray) (hv:Vals ys its') (d:ys.length<=sizeLine) :
  Inv X pins σ (upd H l (.lst ys)) { s with heap:=s.heap.update l (Obj.mapSeq f),toks:=t' }:=by
 have q:=PySem.IsL.update e f;rw[b] at q;show I.write (x:=l) (e:=l) (by rw[a];show trivial) (.inl rfl) (λg u hb c=>(YC s.heap (Obj.mapSeq f) (Yw hb)).trans c) ⟨_,q⟩ ?_;show⟨d,its',_,hv,q⟩
theorem Inv.lnew(I:Inv X pins σ H s)(hv:Vals ys its)(a:ys.length<=sizeLine) :
  Inv X pins σ (upd H s.heap.objs.size (.lst ys)) { s with heap:=s.heap.push { cls:=.type "list",data:=.seq its.toArray },toks:=t' }:=
 I.laid (λ_ _ q=>yv _ q) (yi _) ⟨a,its,0,hv,yS _ rfl⟩
theorem Inv.fresh(I:Inv X pins σ H s):H s.heap.objs.size=none:=I.hok.fresh (yi _)
theorem Inv.lstM(I:Inv X pins σ H s)(a:H l=some (.lst xs)):xs.length<=sizeLine/\∃(its:List Value) (n:Nat),Vals xs its/\xs.length=its.length/\s.heap.get? l=some { cls:=.type "list",data:=.seq its.toArray n }:=by
 obtain⟨z,its,n,r,e⟩:=I.hok l _ a;show⟨z,its,n,r,r.length,e⟩
theorem notLongL(h:n<=sizeLine):Builtin.List.listTooLong n=false:=by
 unfold Builtin.List.listTooLong;show ym (by lk)
end
section
variable{X:Cx}
inductive rAppend(x:V)(vs:List V)(H:Hp)(Q:VK):Prop|mk (l xs y:_) (_:x=.ref l) (_:vs=[y]) (_:H l=some (.lst xs)) (_:xs.length<sizeLine) (_:Q .non (upd H l (.lst (xs++[y]))))
theorem mt_append:MtM X "list.append" rAppend:=by
 intro pins s σ H x vs v us Q I d c h;obtain⟨l,xs,y,rfl,rfl,a,f,q⟩:=h;cases d;obtain⟨u,rfl,b⟩:=c.one;obtain⟨z,its,n,r,hl,e⟩:=I.lstM a;show km F.slot_list_append ⟨_,e,rfl⟩ F.entry_list_append (F.args_list_append_2 _ _) (PySem.list_append l its.toArray n u (by rw[yB];lk)) ⟨e,?_⟩;show⟨.non,_,I.lset (its':=its++[u]) a e (by simp) (r.append (.cons b .nil)) ?_,rfl,q⟩;rw[yK,xX];lk
inductive rPop(x:V)(vs:List V)(H:Hp)(Q:VK):Prop|mk (l xs y:_) (_:x=.ref l) (_:vs=[]) (_:H l=some (.lst xs)) (_:xs[xs.length-1]?=some y) (_:Q y (upd H l (.lst xs.dropLast)))
theorem mt_pop:MtM X "list.pop" rPop:=by
 intro pins s σ H x vs v us Q I j i h;obtain⟨l,xs,y,rfl,rfl,c,f,q⟩:=h;cases j;have a:=i.zero;subst a;obtain⟨z,its,n,r,hl,e⟩:=I.lstM c;obtain⟨u,d,g⟩:=r.get f
 have b:its.toArray[its.toArray.size-1]?=some u:=by
  show its.toArray[its.length-1]?=some u;rw[<- kg,<- hl];show d
 show km F.slot_list_pop ⟨_,e,rfl⟩ F.entry_list_pop (F.args_list_pop_1 _) (MeetsSeq.list_pop_last l its.toArray n u b (by rw[yB];lk)) ⟨e,?_⟩;show⟨y,_,I.lset (its':=its.dropLast) c e ?_ r.dropLast ?_,g,q⟩
 .show its.toArray.eraseIdxIfInBounds (its.toArray.size-1)=its.dropLast.toArray;rw[yB,List.eraseIdxIfInBounds_toArray,erase_last]
 .rw [List.length_dropLast];lk
inductive rPopAt(x:V)(vs:List V)(H:Hp)(Q:VK):Prop|mk (l xs i k y:_) (_:x=.ref l) (_:vs=[.int i]) (_:H l=some (.lst xs)) (_:-(2 ^ 63)<=i) (_:i<2 ^ 63) (_:seqIndex? i xs.length=some k) (_:xs[k]?=some y) (_:Q y (upd H l (.lst (xs.eraseIdx k))))
theorem mt_popAt:MtM X "list.pop" rPopAt:=by
 intro pins s σ H x vs v us Q I m j h;obtain⟨l,xs,i,k,y,rfl,rfl,b,h1,c,d,f,q⟩:=h;cases m;obtain⟨u,rfl,g⟩:=j.one;obtain⟨t,rfl⟩:=g;obtain⟨z,its,n,r,hl,e⟩:=I.lstM b;obtain⟨w,hw,a⟩:=r.get f;show km F.slot_list_pop ⟨_,e,rfl⟩ F.entry_list_pop (F.args_list_pop_2 _ _)
  (MeetsSeq.list_pop_at l its.toArray n i t k w (fitsIndex_both h1 c) (by rw[yB,<- hl];show d) (by rw[<- kg];show hw) (by rw[yB];lk)) ⟨e,?_⟩
 show⟨y,_,I.lset (its':=its.eraseIdx k) b e ?_ (r.eraseIdx k) ?_,a,q⟩
 .show its.toArray.eraseIdxIfInBounds k=(its.eraseIdx k).toArray;rw[List.eraseIdxIfInBounds_toArray]
 .have:=qdP xs k;lk
inductive rReverse(x:V)(vs:List V)(H:Hp)(Q:VK):Prop|mk (l xs:_) (_:x=.ref l) (_:vs=[]) (_:H l=some (.lst xs)) (_:Q .non (upd H l (.lst xs.reverse)))
theorem mt_reverse:MtM X "list.reverse" rReverse:=by
 intro pins s σ H x vs v us Q I d c h;obtain⟨l,xs,rfl,rfl,b,q⟩:=h;cases d;have a:=c.zero;subst a;obtain⟨z,its,n,r,hl,e⟩:=I.lstM b;show km F.slot_list_reverse ⟨_,e,rfl⟩ F.entry_list_reverse (F.args_list_reverse_1 _) (AutoSeq1.list_reverse_list_0 l its.toArray n (by rw[yB];lk)) ⟨e,?_⟩;show⟨.non,_,I.lset (its':=its.reverse) b e (by simp) r.reverse ?_,rfl,q⟩;rw[YI];lk
inductive rCat(x:V)(y:V)(H:Hp)(Q:VK):Prop|mk (l b xs zs:_) (_:x=.ref l) (_:y=.ref b) (_:H l=some (.lst xs)) (_:H b=some (.lst zs)) (_:xs.length+zs.length<=sizeLine) (_:∀ p,H p=none->Q (.ref p) (upd H p (.lst (xs++zs))))
theorem op_cat:OpR X (binaryOp .Add) rCat:=by
 intro pins s σ H x y v u Q I m o h;obtain⟨l,b,xs,A,rfl,rfl,g,f,p,q⟩:=h;cases m;cases o;obtain⟨z,its,n,r,hl,e⟩:=I.lstM g;obtain⟨w,a,t,j,i,c⟩:=I.lstM f;show PySem.P.add_list e c ?_ (by rw[yB,yB];lk);have d:its.toArray++a.toArray=(its++a).toArray:=by simp
 rw[d];show⟨.ref _,_,I.lnew (t':=s.toks) (r.append j) (by rw[yK];lk),rfl,q _ I.fresh⟩
inductive rRep(x:V)(y:V)(H:Hp)(Q:VK):Prop|mk (l k xs:_) (_:x=.ref l) (_:y=.int k) (_:H l=some (.lst xs)) (_:-(2 ^ 63)<=k) (_:k<2 ^ 63) (_:xs.length*k.toNat<=sizeLine) (_:∀ p,H p=none->Q (.ref p) (upd H p (.lst (List.replicate k.toNat xs).flatten)))
theorem len_rep(xs:List α)(k:Nat):(List.replicate k xs).flatten.length=k*xs.length:=by
 induction k with
 | zero=>simp
 | succ k ih=>rw[xF,XC,yK,ih,Nat.succ_mul,Nat.add_comm]
theorem qgP:OpR X (binaryOp .Mult) rRep:=by
 intro pins s σ H x y v u Q I B C h;obtain⟨l,k,xs,rfl,rfl,A,h1,w,o,q⟩:=h;cases B;obtain⟨t,rfl⟩:=C;obtain⟨z,its,n,r,hl,e⟩:=I.lstM A;have f:its.toArray.size*k.toNat<=sizeLine:=by rw[yB,<- hl];show o
 have c:¬ its.toArray.size*k.toNat>(2 ^ 63-1) / 8:=by
  have:(sizeLine:Nat)<=(2 ^ 63-1) / 8:=by decide
  lk
 have d:¬ (!Builtin.List.listFitsIndex k)=true:=by
  rw[fitsIndex_both h1 w];show YH
 have b:¬ Builtin.List.listTooLong (its.toArray.size*k.toNat)=true:=by
  rw[notLongL f];show YH
 have g:List.foldl (λi j=>i++j) #[] (List.replicate (if its.toArray.isEmpty=true then 0 else k.toNat) its.toArray)=(List.replicate k.toNat its).flatten.toArray:=by
  have p:∀ m:Nat,List.foldl (λi j=>i++j) #[] (List.replicate m its.toArray)=(List.replicate m its).flatten.toArray:=λm=>by
   have:=qdQ its m [];rw[List.nil_append] at this;show this
  rw[p]
  cases its with
  | nil=>simp
  | cons a r'=>rw[yE (by simp)]
 show wpAny_binaryOp_repeat_ref (T:="list") (U:="int") (by decide) ⟨_,e,rfl⟩ (λs'=>typeIs_int s' k t) noFill_list_mul F.fills_int_mul F.slot_int_rmul repeat_list F.slot_int_index.lookup
  (km F.slot_int_rmul (typeIs_int s k t) F.entry_int_rmul (F.args_int_rmul_2 _ _) (int___rmul___int_list k t l its.toArray n)
   ⟨e,rfl,⟨_,e,rfl⟩,km F.slot_list_mul ⟨_,e,rfl⟩ F.entry_list_mul (F.args_list_mul_2 _ _) (AutoListH.list___mul___list_int_3 l its.toArray n k t d c b) ⟨e,?_⟩⟩)
 rw[g];show⟨.ref _,_,I.lnew (t':=s.toks) (r.rep k.toNat) (by rw[len_rep,Nat.mul_comm];show o),rfl,q _ I.fresh⟩
end
section
variable{prog:Program}{w:World}{A:Around}{E:Value->Shared->Prop}{s:Shared}
set_option maxRecDepth 100000 in
end
section
variable{X:Cx}
end
section
variable{κ:Type}[DecidableEq κ]
def qam(kvs:List (κ×V))(k:κ):Option V:=(kvs.find? λa=>decide (a.1=k)).map (·.2)
def qbT(kvs:List (κ×V))(k:κ)(v:V):List (κ×V):=
 if (kvs.any λa=>decide (a.1=k))=true then kvs.map (λa=>if a.1=k then(a.1,v) else a) else kvs++[(k,v)]
theorem jY{p:κ×V}{r:List (κ×V)}{k:κ}(e:p.1=k):qam (p::r) k=some p.2:=by simp[qam,xD,e]
theorem jG{p:κ×V}{r:List (κ×V)}{k:κ}(e:¬ p.1=k):qam (p::r) k=qam r k:=by simp[qam,xD,e]
theorem qbu(k:κ):∀ kvs:List (κ×V),(kvs.any λa=>decide (a.1=k))=(qam kvs k).isSome
 | []=>rfl
 | p::r=>by
  rw[ko];by_cases e:p.1=k
  .simp only[jY e,yx e,Bool.true_or,Option.isSome_some]
  .rw [jG e,ym e,kX];show qbu k r
theorem qeG(k j:κ)(y:V):∀ kvs:List (κ×V),qam (kvs.map λa=>if a.1=k then(a.1,y) else a) j=(qam kvs j).map λx=>if j=k then y else x
 | []=>rfl
 | p::r=>by
  have b:=qeG k j y r;rw[Ys];by_cases h:p.1=k
  .rw [yH h];by_cases e:p.1=j
   .rw [jY (p:=(p.1,y)) e,jY e,kA,yH (e.symm.trans h)]
   .rw [jG (p:=(p.1,y)) e,jG e,b]
  .rw [yE h];by_cases e:p.1=j
   .rw [jY (p:=p) e,jY e,kA,yE (λz=>h (e.trans z))]
   .rw [jG (p:=p) e,jG e,b]
theorem qdR(k j:κ)(y:V):∀ kvs:List (κ×V),qam kvs k=none->qam (kvs++[(k,y)]) j=if j=k then some y else qam kvs j
 | [],_=>by
  by_cases e:k=j
  .rw [yH e.symm];show jY (p:=(k,y)) e
  .rw [yE (λz=>e z.symm)];show jG (p:=(k,y)) e
 | p::r,hn=>by
  rw[k9];have a:¬ p.1=k:=λz=>by rw[jY z] at hn;cases hn
  rw[jG a] at hn;have b:=qdR k j y r hn;by_cases e:p.1=j
  .rw [jY e,jY e,yE (λz=>a (e.trans z))]
  .rw [jG e,jG e,b]
theorem valV_put(kvs:List (κ×V))(k j:κ)(y:V):qam (qbT kvs k y) j=if j=k then some y else qam kvs j:=by
 unfold qbT;by_cases a:(kvs.any λc=>decide (c.1=k))=true
 .rw [yH a,qeG];rw[qbu] at a;by_cases e:j=k
  .obtain⟨x,b⟩:=XU.mp a;rw[yH e,e,b,kA,yH rfl]
  .rw [yE e]
   cases qam kvs j with
   | none=>rfl
   | some x=>rw[kA,yE e]
 .rw [yE a];show qdR k j y kvs ?_;rw[qbu] at a
  cases q:qam kvs k with
  | none=>rfl
  | some x=>rw[q] at a;show(a rfl).elim
theorem qav(kvs:List (κ×V))(k:κ)(v:V):(qbT kvs k v).length<=kvs.length+1:=by
 unfold qbT;split
 .rw [ya];lk
 .rw [yK,Yk,xr];lk
theorem qdb{kvs:List (κ×V)}{k:κ}(v:V)(h:qam kvs k=none):qbT kvs k v=kvs++[(k,v)]:=by
 unfold qbT;rw[qbu,h];show yE (by decide)
theorem RelO.isSome_eq{u:Option Value}(r:RelO o u):o.isSome=u.isSome:=by
 cases o with
 | none=>cases u with
  | none=>rfl
  | some _=>show(show False from r).elim
 | some _=>cases u with
  | none=>show(show False from r).elim
  | some _=>rfl
theorem KV.val{kvs:List (κ×V)}{vs:List (κ×Value)}(r:KV kvs vs)(k:κ):RelO (qam kvs k) (valueAt vs k):=by
 unfold KV at r
 induction r with
 | nil=>show YQ
 | @cons p q ps qs h t ih =>
  obtain⟨h1,c⟩:=h;by_cases e:p.1=k
  .have a:q.1=k:=h1.symm.trans e;have b:valueAt (q::qs) k=some q.2:=by simp[valueAt,xD,a]
   rw[jY e,b];show c
  .have a:¬ q.1=k:=λz=>e (h1.trans z);have b:valueAt (q::qs) k=valueAt qs k:=by simp[valueAt,xD,a]
   rw[jG e,b];show ih
theorem KV.any{kvs:List (κ×V)}{vs:List (κ×Value)}(r:KV kvs vs)(k:κ):(kvs.any λa=>decide (a.1=k))=vs.any λa=>decide (a.1=k):=by
 unfold KV at r
 induction r with
 | nil=>rfl
 | cons h t ih=>rw[ko,ko,ih,h.1]
theorem KV.repl{kvs:List (κ×V)}{vs:List (κ×Value)}(r:KV kvs vs)(k:κ)(c:RelV y u) :
  KV (kvs.map λa=>if a.1=k then(a.1,y) else a) (vs.map λa=>if a.1=k then(a.1,u) else a):=by
 unfold KV at r ⊢
 induction r with
 | nil=>show .nil
 | @cons p q ps qs h t ih =>
  rw[Ys,Ys];show .cons ?_ ih;obtain⟨h1,b⟩:=h;by_cases e:p.1=k
  .rw [yH e,yH (h1.symm.trans e)];show⟨h1,c⟩
  .rw [yE e,yE (λz=>e (h1.trans z))];show⟨h1,b⟩
theorem KV.put{kvs:List (κ×V)}{vs:List (κ×Value)}(r:KV kvs vs)(k:κ)(a:RelV y u):KV (qbT kvs k y) (stored vs k u):=by
 unfold qbT stored;rw[r.any k];by_cases e:(vs.any λb=>decide (b.1=k))=true
 .rw [yH e,yH e];show r.repl k a
 .rw [yE e,yE e];show Paired.snoc r ⟨rfl,a⟩
theorem KV.length{kvs:List (κ×V)}{vs:List (κ×Value)}(r:KV kvs vs):kvs.length=vs.length:=Paired.length r
end
theorem qfh{k:Key}(r:RelV (kV k) u):(jm P w).is k u=true:=by
 cases k with
 | inl i=>obtain⟨t,e⟩:=(show ∃ t,u=Value.int i t from r);subst e;show mixKind_int P w i t
 | inr x=>obtain⟨t,e⟩:=(show ∃ t,u=Value.str x t from r);subst e;show mixKind_str P w x t
theorem qdS:∀{ks:List Key} {us:List Value},Vals (ks.map kV) us->ItemsAre (jm P w) ks us
 | [],_,r=>by rw[Kd] at r;cases r;show .nil
 | k::ks,_,r=>by
  rw[Ys] at r
  cases r with
  | cons h t=>show .cons (qfh h) (qdS t)
abbrev KT(H:Hp):List (List Key×V)->List (List Key×Addr×Value)->Prop:=Paired λp q=>p.1=q.1/\H q.2.1=some (.tup (p.1.map kV))/\RelV p.2 q.2.2
theorem KT.val{xs:List (List Key×Addr×Value)}(r:KT H kvs xs)(k:List Key):RelO (qam kvs k) ((atKey xs k).map (·.2)):=by
 induction r with
 | nil=>show YQ
 | @cons p q ps qs h t ih =>
  obtain⟨h1,_,c⟩:=h;by_cases e:p.1=k
  .have a:q.1=k:=h1.symm.trans e;have b:atKey (q::qs) k=some q.2:=by simp[atKey,xD,a]
   rw[jY e,b];show c
  .have a:¬ q.1=k:=λz=>e (h1.trans z);have b:atKey (q::qs) k=atKey qs k:=by simp[atKey,xD,a]
   rw[jG e,b];show ih
theorem KT.repl{xs:List (List Key×Addr×Value)}(r:KT H kvs xs)(k:List Key)(d:RelV y u) :
  KT H (kvs.map λa=>if a.1=k then(a.1,y) else a) (xs.map (putAt k u)):=by
 induction r with
 | nil=>show .nil
 | @cons p q ps qs h t ih =>
  rw[Ys,Ys];show .cons ?_ ih;obtain⟨h1,b,c⟩:=h;unfold putAt;by_cases e:p.1=k
  .rw [yH e,yH (h1.symm.trans e)];show⟨h1,b,d⟩
  .rw [yE e,yE (λz=>e (h1.trans z))];show⟨h1,b,c⟩
theorem KT.put{xs:List (List Key×Addr×Value)}(r:KT H kvs xs)(k:List Key){b:Addr}(hb:H b=some (.tup (k.map kV)))(a:RelV y u) :
  KT H (qbT kvs k y) (storedH xs k b u):=by
 have e:(kvs.any λc=>decide (c.1=k))=(atKey xs k).isSome:=by
  rw[qbu,(r.val k).isSome_eq,kR]
 unfold qbT storedH;rw[e];by_cases q:(atKey xs k).isSome=true
 .rw [yH q,yH q];show r.repl k a
 .rw [yE q,yE q];show Paired.snoc r ⟨rfl,hb,a⟩
theorem KT.keeps{xs:List (List Key×Addr×Value)}(r:KT H kvs xs)(a:∀ b ys,H b=some (.tup ys)->H' b=some (.tup ys)):KT H' kvs xs:=
 Paired.mapP r λ_ _ z=>⟨z.1,a _ _ z.2.1,z.2.2⟩
section
variable{P:Program}{w:World}{H:Hp}{h:Heap}{a:Addr}
theorem qhU{u:HO}(ok:HOk P w H h)(e:Rd H a u):ObjOk P w H h a u:=e.ok ok
theorem qfi{kvs:List (Key×V)}(ok:HOk P w H h)(e:Rd H a (.dK kvs)):kvs.length<=sizeLine/\(a==sysModules)=false/\∃ vs,KV kvs vs/\h.DictOf (jm P w) a vs:=
 show ObjOk P w H h a (.dK kvs) from qhU ok e
theorem qhV{kvs:List (Key×V)}(ok:HOk P w H h)(e:H a=some (.dK kvs)):kvs.length<=sizeLine/\(a==sysModules)=false/\∃ vs,KV kvs vs/\h.DictOf (jm P w) a vs:=qfi ok (.inl e)
theorem qdT{ks:List Key}(ok:HOk P w H h)(e:H a=some (.tup (ks.map kV))):(tupleKind (jm P w)).is h ks a:=by
 obtain⟨_,its,r,o,h1,b,n,c⟩:=(show ObjOk P w H h a (.tup (ks.map kV)) from ok a _ e);show⟨o,its.toArray,n,h1,b,c,by simpa using qdS r⟩
theorem qfD(ok:HOk P w H h)(e:Rd H a (.dT kvs)):kvs.length<=sizeLine/\(a==sysModules)=false /\
  ∃ xs,KT H kvs xs/\h.DictOfH (tupleKind (jm P w)) a xs:=by
 obtain⟨z,y,xs,r,o,es,ep,h1,b,c,d,f⟩:=(show ObjOk P w H h a (.dT kvs) from qhU ok e);show⟨z,y,xs,r,o,es,ep,h1,b,c,d,λx hx=>?_,f⟩
 have all:∀{l:List (List Key×V)} {m:List (List Key×Addr×Value)},KT H l m->∀ x∈m,(tupleKind (jm P w)).is h x.1 x.2.1:=by
  intro l m q
  induction q with
  | nil=>intro x hx;show nomatch hx
  | @cons p q ps qs hq t ih =>
   intro x hx;rcases yF.mp hx with e | hx
   .subst e;show qdT ok (by rw[<- hq.1];show hq.2.1)
   .show ih x hx
 show all r x hx
theorem dt_of(ok:HOk P w H h)(e:H a=some (.dT kvs)):kvs.length<=sizeLine/\(a==sysModules)=false /\
  ∃ xs,KT H kvs xs/\h.DictOfH (tupleKind (jm P w)) a xs:=qfD ok (.inl e)
end
def DGet(H:Hp)(a:Addr)(y:V)(r:Option V):Prop:=
 (∃ kvs k,Rd H a (.dK kvs)/\y=kV k/\r=qam kvs k)\/∃ kvs k b,Rd H a (.dT kvs)/\y=.ref b/\H b=some (.tup (k.map kV))/\r=qam kvs k
def DPut(H:Hp)(a:Addr)(y v:V)(H':Hp):Prop:=
 (∃ kvs k,H a=some (.dK kvs)/\y=kV k/\kvs.length<sizeLine/\H'=upd H a (.dK (qbT kvs k v))) \/
 ∃ kvs k b,H a=some (.dT kvs)/\y=.ref b/\H b=some (.tup (k.map kV))/\kvs.length<sizeLine/\H'=upd H a (.dT (qbT kvs k v))
theorem DGet.k{kvs:List (Key×V)}{k:Key}(e:H a=some (.dK kvs)):DGet H a (kV k) (qam kvs k):=.inl ⟨kvs,k,.inl e,rfl,rfl⟩
theorem DPut.k{kvs:List (Key×V)}{k:Key}{v:V}(e:H a=some (.dK kvs))(hl:kvs.length<sizeLine):DPut H a (kV k) v (upd H a (.dK (qbT kvs k v))):=.inl ⟨kvs,k,e,rfl,hl,rfl⟩
section
variable{X:Cx}{pins:List (Addr×Obj)}{σ:St}{H:Hp}{s:Shared}{a:Addr}{y v:V}{u r:Value}{o:Option V}{A:Around}{E:Value->Shared->Prop}
theorem Inv.big(I:Inv X pins σ H s):sysModules<s.heap.objs.size:=by
 have h:mainGlobals<s.heap.objs.size:=(I.mod.glob.keeps I.bk).lt;show Nat.lt_trans (by decide) h
theorem d_getItem{Q:Value->Shared->Prop}(x:A.units+1<cLine)(I:Inv X pins σ H s)(g:DGet H a y (some v))(n:RelV y u)(h:∀ f s',Inv X pins σ H s'->RelV v f->Q f s') :
  wpAny (model X.prog X.w) A (getItem (.ref a) u) Q E s:=by
 rcases g with⟨kvs,k,e,j,l⟩ | ⟨kvs,k,b,e,j,q,l⟩
 .subst j;obtain⟨z,r,vs,c,i⟩:=qfi I.hok e;obtain⟨f,hw,d⟩:=RelO.some_of (v:=v) (o:=valueAt vs k) (by rw[l];show c.val k);show wpAny_getItem_of (qfh n) i.mapOf hw (h f _ (I.tok _) d)
 .subst j;cases (show u=Value.ref b from n);obtain⟨z,r,xs,c,i⟩:=qfD I.hok e;obtain⟨f,hw,d⟩:=RelO.some_of (v:=v) (o:=(atKey xs k).map (·.2)) (by rw[l];show c.val k);obtain⟨p,t,m⟩:=yo.mp hw;show wpAny_getItem_heap (XY x) (qdT I.hok q) i t ?_;rw[m];show h f _ (I.tok _) d
theorem qic{Q:Value->Shared->Prop}(n:A.units+1<cLine)(I:Inv X pins σ H s)(g:DGet H a y o)(j:RelV y u)(h:∀ s',Inv X pins σ H s'->Q (.bool o.isSome) s') :
  wpAny (model X.prog X.w) A (compareOp .In u (.ref a)) Q E s:=by
 rcases g with⟨kvs,k,e,f,l⟩ | ⟨kvs,k,b,e,f,m,l⟩
 .subst f;obtain⟨z,i,vs,c,d⟩:=qfi I.hok e;show wpAny_in_of (qfh j) i d.mapOf ?_;rw[<- (c.val k).isSome_eq,<- l];show h _ (I.tok _)
 .subst f;cases (show u=Value.ref b from j);obtain⟨z,i,xs,c,d⟩:=qfD I.hok e;show wpAny_in_heap (XY n) (qdT I.hok m) i d ?_;have q:=(c.val k).isSome_eq;rw[kR] at q;rw[<- q,<- l];show h _ (I.tok _)
theorem d_notIn{Q:Value->Shared->Prop}(n:A.units+1<cLine)(I:Inv X pins σ H s)(g:DGet H a y o)(j:RelV y u)(h:∀ s',Inv X pins σ H s'->Q (.bool (!o.isSome)) s') :
  wpAny (model X.prog X.w) A (compareOp .NotIn u (.ref a)) Q E s:=by
 rcases g with⟨kvs,k,e,f,l⟩ | ⟨kvs,k,b,e,f,m,l⟩
 .subst f;obtain⟨z,i,vs,c,d⟩:=qfi I.hok e;show wpAny_notIn_of (qfh j) i d.mapOf ?_;rw[<- (c.val k).isSome_eq,<- l];show h _ (I.tok _)
 .subst f;cases (show u=Value.ref b from j);obtain⟨z,i,xs,c,d⟩:=qfD I.hok e;show wpAny_notIn_heap (XY n) (qdT I.hok m) i d ?_;have q:=(c.val k).isSome_eq;rw[kR] at q;rw[<- q,<- l];show h _ (I.tok _)
theorem qeg{c:HO}(I:Inv X pins σ H s)(g:Mut (H a))(f:Heap.SameBut a s.heap h')(d:∃ q,h'.get? a=some q)(new:ObjOk X.prog X.w (upd H a c) h' a c) :
  Inv X pins σ (upd H a c) { s with heap:=h',toks:=t' }:=
 I.write (x:=a) (e:=a) g (.inl rfl) (λb q hb z=>(f.2 b hb).trans z) d new
theorem qgQ{kvs:List (Key×V)}{vs:List (Key×Value)}(z:kvs.length<=sizeLine)(d:(a==sysModules)=false)(b:KV kvs vs)(c:h'.DictOf (jm P w) a vs) :
  ObjOk P w H' h' a (.dK kvs):=⟨z,d,vs,b,c⟩
theorem d_setItem{Q:Unit->Shared->Prop}(M:A.units+1<cLine)(I:Inv X pins σ H s)(g:DPut H a y v H')(D:RelV y u)(C:RelV v r)(h:∀ s',Inv X pins σ H' s'->Q () s') :
  wpAny (model X.prog X.w) A (setItem (.ref a) u r) Q E s:=by
 rcases g with⟨kvs,k,e,n,l,m⟩ | ⟨kvs,k,b,e,n,x,l,m⟩
 .subst n m;obtain⟨z,o,vs,d,j⟩:=qhV I.hok e;have t:vs.length<=sizeLine:=by rw[<- d.length];show z
  have hl:(qbT kvs k v).length<=sizeLine:=by have:=qav kvs k v;lk
  show wpAny_setItem_pairs (hsz:=t) (qfh D) j λh' f p=>h _ ?_;have L:∃ q,h'.get? a=some q:=let ⟨q,_,_,i,_⟩:=f;⟨q,i⟩;show qeg I (by rw[e];show YQ) p L (qgQ hl o (d.put k C) f)
 .subst n m;cases (show u=Value.ref b from D);obtain⟨z,o,xs,d,j⟩:=dt_of I.hok e;have t:xs.length<=sizeLine:=by rw[<- Paired.length d];show z
  have hl:(qbT kvs k v).length<=sizeLine:=by have:=qav kvs k v;lk
  show wpAny_setItem_heap (hsz:=t) (XY M) (qdT I.hok x) j λh' f p=>h _ ?_;obtain⟨q,es,ep,i,F,G,J,_,K⟩:=f;show qeg I (by rw[e];show YQ) p ⟨q,i⟩ ⟨hl,o,_,(d.put k x C).keeps λc ys B=>?_,q,es,ep,i,F,G,J,K⟩;rw[qo (qbV B e (λz=>nomatch z))];show B
end
section
variable{X:Cx}{pins:List (Addr×Obj)}{σ:St}{H:Hp}{s:Shared}{a:Addr}{kvs:List (Key×V)}{k:Key}{u:Value}{A:Around}{E:Value->Shared->Prop}
theorem d_len{Q:Value->Shared->Prop}(I:Inv X pins σ H s)(e:Rd H a (.dK kvs))(h:∀ t s',Inv X pins σ H s'->Q (.int kvs.length t) s'):wpAny (model X.prog X.w) A (call (.builtin "len") [.ref a]) Q E s:=by
 obtain⟨z,d,vs,b,c⟩:=qfi I.hok e;show call_len_dict d c (by rw[<- b.length];rw[XE] at z;lk) ?_;rw[<- b.length];show h _ _ (I.tok _)
end
theorem dict_typeIs(I:Inv X pins σ H s)(g:DGet H a y o):s.TypeIs (.ref a) "dict":=by
 rcases g with⟨kvs,k,e,_,_⟩ | ⟨kvs,k,b,e,_,_,_⟩
 .obtain⟨_,_,vs,_,c⟩:=qfi I.hok e;show c.typeIs
 .obtain⟨_,_,xs,_,c⟩:=qfD I.hok e;show c.typeIs
section
variable{X:Cx}{o i e value:Expr}{pos pos' tpos:Pos}{td ty tv:TE}
end
theorem qeH(h:Heap)(hb:sysModules<h.objs.size):ObjOk P w H (h.push { cls:=.type "dict",data:=.dict #[] }) h.objs.size (.dK []):=
 ⟨Y5 _,Yq.mpr (Yw (Yj hb)),[],.nil,Heap.DictOf.new h⟩
def qfE:TE:=λ_ H Q=>∀ p,H p=none->Q (.ref p) (upd H p (.dK []))
section
variable{X:Cx}{pos:Pos}
theorem qcg:PE X (.Dict [] [] pos) qfE:=λpins s σ H Q I h =>
 wpAny_Dict_empty ⟨.ref s.heap.objs.size,_,I.laid (a:=s.heap.objs.size) (o:=.dK []) (t':=s.toks) (λ_ _ q=>yv _ q) (yi _) (qeH s.heap I.big),rfl,h _ (I.hok.fresh (yi _))⟩
end
def qfF:List (TE×TE)->St->Hp->(List (V×V)->Hp->Prop)->Prop
 | [],_,H,Q=>Q [] H
 | (tk,tv)::r,σ,H,Q=>tk σ H λx a=>tv σ a λy b=>qfF r σ b λd c=>Q ((x,y)::d) c
abbrev VV:List (V×V)->List (Value×Value)->Prop:=Paired λp q=>RelV p.1 q.1/\RelV p.2 q.2
def PPs(X:Cx)(pos:Pos)(b:List (Option Expr))(a:List Expr)(trs:List (TE×TE)):Prop:=
 ∀(pins:List (Addr×Obj)) (s:Shared) (σ:St) (H:Hp) (Q:List (V×V)->Hp->Prop),Inv X pins σ H s->qfF trs σ H Q ->
  wpAny (model X.prog X.w) X.A (evalPairs (pairTrees b a X.env pos)) (λvs s'=>∃ c H',Inv X pins σ H' s'/\VV c vs/\Q c H') X.xe s
theorem pps_nil:PPs X pos [] [] []:=λpins s σ H Q I h=>pairTrees_nil_walk ⟨[],H,I,.nil,h⟩
theorem pps_cons{k v:Expr}{ks:List (Option Expr)}{vs:List Expr}{tk b:TE}(j:PE X k tk)(hv:PE X v b)(l:PPs X pos ks vs trs) :
  PPs X pos (some k::ks) (v::vs) ((tk,b)::trs):=λpins s σ H Q I h =>
 pairTrees_cons_walk (thn (j pins s σ H _ I h) λu t ⟨x,c,f,q,n⟩=>thn (hv pins t σ c _ f n) λA w ⟨y,d,g,r,o⟩ =>
  thn (l pins w σ d _ g o) λB z ⟨m,e,i,a,p⟩=>⟨(x,y)::m,e,i,.cons ⟨q,r⟩ a,p⟩)
def qbv(kvs a:List (Key×V)):List (Key×V):=a.foldl (λacc b=>qbT acc b.1 b.2) kvs
theorem KV.merge:∀{a:List (Key×V)} {b:List (Key×Value)} {kvs:List (Key×V)} {vs:List (Key×Value)},KV a b->KV kvs vs->KV (qbv kvs a) (merged vs b):=by
 intro a b kvs vs r;unfold KV at r
 induction r generalizing kvs vs with
 | nil=>intro q;show q
 | @cons p q ps qs h t ih =>
  intro c
  have e:KV (qbT kvs p.1 p.2) (stored vs q.1 q.2):=by
   have:=c.put p.1 h.2;rw[<- h.1];show this
  show ih e
theorem qbw:∀(a kvs:List (Key×V)),(qbv kvs a).length<=kvs.length+a.length
 | [],kvs=>by show kvs.length<=kvs.length+0;lk
 | p::r,kvs=>by
  have h1:=qbw r (qbT kvs p.1 p.2);have b:=qav kvs p.1 p.2;show(qbv (qbT kvs p.1 p.2) r).length<=_;rw[Yk];lk
theorem qcX:∀{kvs:List (Key×V)} {f:List (Value×Value)},VV (kvs.map λe=>(kV e.1,e.2)) f->∃ d,Carries (jm P w) f d/\KV kvs d
 | [],_,r=>by rw[Kd] at r;cases r;show⟨[],YQ,.nil⟩
 | p::kvs,_,r=>by
  rw[Ys] at r
  cases r with
  | @cons a b as bs h t =>
   have z:∃ d,Carries (jm P w) bs d/\KV kvs d:=qcX t;obtain⟨d,c,q⟩:=z;obtain⟨i,g⟩:=b;show⟨(p.1,g)::d,⟨qfh h.1,rfl,c⟩,.cons ⟨rfl,h.2⟩ q⟩
def tDisp(trs:List (TE×TE)):TE:=fun σ H Q=>∀ p,H p=none->qfF trs σ (upd H p (.dK [])) λc a=>a p=some (.dK [])/\∃ kvs:List (Key×V),c=kvs.map (λb=>(kV b.1,b.2))/\kvs.length<=15/\Q (.ref p) (upd a p (.dK (qbv [] kvs)))
theorem pe_disp{b:List (Option Expr)}{d:List Expr}(h:PPs X pos b d trs)(g:b.all (·.isSome)=true)(hl:b.length=d.length)(p:b≠[])
  (i:b.length<=15):PE X (.Dict b d pos) (tDisp trs):=by
 intro pins s σ H Q I q;have u:=I.hok.fresh (yi s.heap.objs.size);have m:=I.laid (a:=s.heap.objs.size) (o:=.dK []) (h':=s.heap.push { cls:=.type "dict",data:=.dict #[] }) (t':=s.toks) (λ_ _ q=>yv _ q) (yi _) (qeH s.heap I.big);show wpAny_Dict_walk (knd:=jm X.prog X.w) g hl p i (thn (h pins _ σ _ _ m (q _ u)) λJ G ⟨F,D,l,j,e,kvs,ep,E,y⟩=>?_);subst ep;obtain⟨B,c,rk⟩:=qcX (P:=X.prog) (w:=X.w) j;obtain⟨z,r,C,A,n⟩:=qhV l.hok e;cases A;show⟨B,c,n,λh' f v=>⟨.ref s.heap.objs.size,_,?_,rfl,y⟩⟩
 have x:(qbv [] kvs).length<=sizeLine:=by
  have h1:=qbw kvs [];rw[xr] at h1;rw[XE];lk
 have t:∃ q,h'.get? s.heap.objs.size=some q:=let ⟨q,_,_,hq,_⟩:=f;⟨q,hq⟩;show qeg l (by rw[e];show YQ) v t (qgQ x r (rk.merge .nil) f)
def IsD(H:Hp)(a:Addr):Prop:=(∃ kvs,Rd H a (.dK kvs))\/∃ kvs,Rd H a (.dT kvs)
section
variable{X:Cx}{pins:List (Addr×Obj)}{σ:St}{H:Hp}{s:Shared}{a:Addr}{y d:V}{u r:Value}{o:Option V}{A:Around}{E:Value->Shared->Prop}
end
def tDGet2(e ty f:TE):TE:=fun σ H Q=>e σ H λx b=>∃ a,x=.ref a/\IsD b a/\ty σ b λy d=>f σ d λz c=>∃ o,DGet c a y o/\Q (o.getD z) c
section
variable{X:Cx}{o e f:Expr}{apos cpos:Pos}{td ty tx:TE}
end
section
variable{X:Cx}{pins:List (Addr×Obj)}{σ:St}{H:Hp}{s:Shared}{a:Addr}{kvs:List (Key×V)}{A:Around}{E:Value->Shared->Prop}
end
section
variable{X:Cx}{pins:List (Addr×Obj)}{σ:St}{H:Hp}{s:Shared}{a:Addr}{y:V}{u:Value}{A:Around}{E:Value->Shared->Prop}
end
end L2
namespace Att
open PySem PySem.W PySem.Calls PyProof.Rows
variable{P:Params}{h:Heap}{l:OpenLaw}{n:Nat}
theorem ints_of_wellAll:∀(ns:LQ) (vs:List Value),WellAll P h vs (ns.map WData.int)->IntsAre vs ns:=by
 intro ns
 induction ns with
 | nil =>
  intro vs w;rw[Kd] at w;cases w;show .nil
 | cons n ns ih =>
  intro vs w;rw[Ys] at w
  cases w with
  | cons a b =>
   cases a;show .cons _ _ (ih _ b)
theorem script_of(p:l.most=some n){args:List WData}{c:List Value}
  (b:l.row.toRowW.claim.pre args=true) (j:WellAll P h c args) :
  ∃ a vs ns,c=[Value.ref a]/\args=[WData.list (ns.map WData.int)]/\h.get? a=some { cls:=.type "list",data:=.seq vs.toArray }/\IntsAre vs ns/\ns.length<=n:=by
 have i:WShape.hasAll [] args [.list .int]=true:=(pre_splitW b).1;have hc:l.pre.holds [] { args:=args }=true:=(pre_splitW b).2;obtain⟨d,r,rfl,h1,m⟩:=hasAllW_cons i;obtain rfl:=hasAllW_nil m;obtain⟨xs,rfl,o⟩:=hasW_list h1;obtain⟨ns,rfl⟩:=items_int o
 have e:ns.length<=n:=by
  unfold OpenLaw.pre at hc
  have f:(WTm.not (.lt (.lit (.int (n:Int))) (.len (.arg 0)))).holds [] { args:=[.list (ns.map .int)] }=true:=by
   have f:=(holds_andW hc).1;rw[p] at f;show f
  have g:=condW_of f (w_not (w_lt w_lit (w_len_list (w_arg rfl))));rw[ya] at g;show XI λq=>?_;have s:(n:Int)<((ns.length:Nat):Int):=by lk
  first
   | (rw[yx s] at g;show absurd g (by decide))
   | (simp at g;lk)
 cases j with
 | cons w1 w2 =>
  cases w2
  cases w1 with
  | list ho hall=>show⟨_,_,ns,rfl,rfl,ho,ints_of_wellAll ns _ hall,e⟩
theorem post_true(l:OpenLaw)(args:List WData):l.row.toRowW.claim.post args (.bool true) args=true:=
 postW_of (r:=l.row.toRowW) (X:=(true==true))
  (show WShape.has [] (.bool true) .bool=true by first | rfl | decide | simp[WShape.has,WShape.arms,WShape.armsAll])
  (show(WTm.eq .res (.lit (.bool true))).value [] { args:=args,res:=some (.bool true),after:=args }=some (.bool (true==true)) from w_eq_bool (w_res rfl) w_lit) rfl
theorem attach_call{q:Program}{loose:LS}{XP:(Str->Option Value)->Heap->Prop}{YP:World->Heap->Prop}{d:DefRec}
  (M:l.most=some n) (u:d.params.defaults=[])
  (call:∀(w:World) (c b:Shared) (s y:Str->Option Value) (h:Addr) (o:Obj) (z p e:Value) (a:Addr) (vs:List Value) (ns:LQ),
   Ground q loose [] XP w c s y b.heap->YP w b.heap ->
   b.heap.get? h=some o->o.data=.func (docDef d.name d.params d.body d.scope z p e)->b.heap.CodeRec p d.name->s d.name=some (.ref h) ->
   b.heap.get? a=some { cls:=.type "list",data:=.seq vs.toArray }->IntsAre vs ns->ns.length<=n->b.gens=#[] ->
   codeAny (model l.prog w) callerA (.call (.ref h) ⟨[.ref a],[]⟩) (λr s'=>r=.ok (.ret (.bool true))/\OldK b.heap s'.heap/\s'.os=b.os/\AllBare s'.gens) b) :
  WalkO q loose XP YP l.row.toRowW d [] (λf vs=>PySem.call f vs):=by
 intro w c b s y G Y h o z p e D kV N I t A v J args C R m B P x K;obtain rfl:D=.none:=Dflts.none A u;obtain rfl:kV=.none:=Dflts.noKw A;obtain⟨a,vs,ns,rfl,rfl,j,g,i⟩:=script_of M m x;show enter_call (Xf (call w c b s y h o z p e a vs ns G Y N (fd_plain I) t v j g i J) λr s' O=>?_);obtain⟨rfl,E,F,H⟩:=O;show⟨.inl ⟨.bool true,.bool true,[],rfl,λ_=>rfl,.bool true,post_true l _,λ_=>⟨List.Pairwise.nil,λ_ L=>(nomatch L)⟩⟩,E,F,H⟩
section
variable{prog:Program}{w:World}{A:Around}{E:Value->Shared->Prop}{s:Shared}{K:Frag}
end
end Att
namespace L2
open PySem PySem.Spec PyProof.Rows
variable{A B:Prop}{H:Hp}{f:Addr}{fd:FuncData}{n:Nat}{ps:LS}{qual x:Str}{sp:Sp}{st:Stmt}
theorem qcy:∀{vs:List Value} {ns:LQ},IntsAre vs ns->Vals (ns.map V.int) vs
 | _,_,.nil=>.nil
 | _,_,.cons n t h=>.cons ⟨t,rfl⟩ (qcy h)
def qik(H:Hp):Prop:=∀ b,H b=none\/∃ o xs,H b=some (.frz o (.lst xs))
theorem law_call{P:Program}{w:World}{K:yh}{C O:Str->Option Value}{CX:CXT}{k:Nat}{I a:Addr}{c:Shared}{vs:List Value}{ns:LQ}
  (S:K.In c.heap) (t:c.heap.Ns mainGlobals C) (hb:c.heap.Ns builtinsNs O) (L:∀ x:Str,x≠"__name__"->O x=bootBuiltins x) (p:c.heap.NoLimit) (hg:c.gens=#[])
  (E:c.heap.get? a=some { cls:=.type "list",data:=.seq vs.toArray }) (X:IntsAre vs ns) (hl:ns.length<=sizeLine) (hr:Room k callerA)
  (F:∀ base:Heap,K.In base->base.Ns mainGlobals C->FnOk P w K C base CX k I fd [x] sp) (i:∀(s:Shared) (u:Value),BindsTo s fd ⟨[u],[]⟩ [(x,u)])
  (N:∀ H:Hp,qik H->SqL K H a (ns.map V.int)->sp [.ref a] H (λv _=>v=.bl true) λ_ _ _=>False)
  (J:∀ H e s',CX [] H c (λ_ _ _=>False) e s'->False) :
  codeAny (model P w) callerA (.call (.ref I) ⟨[.ref a],[]⟩) (λr s'=>r=.ok (.ret (.bool true))/\OldK c.heap s'.heap/\s'.os=c.os/\AllBare s'.gens) c:=by
 have Y:=qcy X;have B:=X.length;have g:∀ H:Hp,qik H->SqL K H a (ns.map V.int)->HOk P w H c.heap->(∀ b,H b≠none->b=a)->(H a≠none->K.lookup a=none) ->
   codeAny (model P w) callerA (.call (.ref I) ⟨[.ref a],[]⟩) (λr s'=>r=.ok (.ret (.bool true))/\OldK c.heap s'.heap/\s'.os=c.os/\AllBare s'.gens) c:=by
  intro H W hS y U hK;have base_of:∀{b:Addr} {o:Obj},c.heap.get? b=some o->H b=none->(qgt c.heap H).get? b=some o:=λe n=>hidT_get e n
  have R:∀{b:Addr} {o:Obj} {es:Array DictEntry} {ep:Nat},c.heap.get? b=some o->o.data=.dict es ep->H b=none:=λ{b o es ep} e d=>by
   cases q:H b with
   | none=>rfl
   | some u =>
    have G:b=a:=U b (by rw[q];simp);subst G;rw[E] at e;cases e;have d':Data.seq vs.toArray _=Data.dict es ep:=d;cases d'
  have f:∀{b:Addr} {m:Str->Option Value},c.heap.Ns b m->(qgt c.heap H).Ns b m:=λ{b m} ⟨o,es,ep,e,d,r⟩=>⟨o,es,ep,base_of e (R e d),d,r⟩
  have l:K.In (qgt c.heap H):=λb o e=>base_of (S b o e) (by
   cases q:H b with
   | none=>rfl
   | some u =>
    have G:b=a:=U b (by rw[q];simp);subst G;rw[hK (by rw[q];simp)] at e;cases e)
  have hM:Mod K C (qgt c.heap H):=⟨l,f t,⟨O,f hb,L⟩,let ⟨mc,h1,h2⟩:=p;⟨mc,f h1,h2⟩⟩;have Z:Env0 P w K C (qgt c.heap H) callerA [] c H:=⟨rfl,hM,λb o e=>of_hidT e,Kv (hidT_size _ _),trivial,λb hb=>absurd (show b∈([]:LI) from hb) (by simp),y,.of_eq hg⟩;show Xf ((F _ l (f t)).run callerA [] c H ⟨[.ref a],[]⟩ [.ref a] [.ref a] _ _ hr Z (i c (.ref a)) (.cons rfl .nil) (N H W hS)) λr s' h=>?_
  cases r with
  | error e=>show(J H e s' h).elim
  | ok fl =>
   cases fl with
   | next=>show False.elim h
   | brk=>show False.elim h
   | cont=>show False.elim h
   | ret u =>
    obtain⟨v,H',os,j,un,A,r',q⟩:=h;have q':v=.bl true:=q;subst q';obtain rfl:u=Value.bool true:=r';show⟨rfl,OldK.of_keep λb o e=>?_,os,j⟩
    cases q:H b with
    | none=>show un.keep b o e q (by intro z;show absurd (show b∈([]:LI) from z) (by simp)) (by simp)
    | some u =>
     rcases W b with z | ⟨ob,xs,z⟩
     .rw [q] at z;cases z
     .have z2:=un.frzs b ob _ z;obtain⟨T,_⟩:=y b _ z;obtain⟨e2,_⟩:=A b _ z2;rw[e] at T;cases T;show e2
 cases M:K.lookup a with
 | some o =>
  have e:=S a o M;rw[E] at e;cases e;show g (λ_=>none) (λ_=>.inl rfl) (.inr ⟨_,vs.toArray,_,M,rfl,rfl,rfl,by rw[yB,B];show hl,by simpa using Y⟩) (λb u z=>by have D:(none:Option HO)=some u:=z;cases D) (λb z=>absurd rfl z) λz=>absurd rfl z
 | none =>
  show g (λb=>if b=a then some (.frz { cls:=.type "list",data:=.seq vs.toArray } (.lst (ns.map V.int))) else none) (λb=>?_) (.inl (.inr ⟨{ cls:=.type "list",data:=.seq vs.toArray },yH rfl⟩)) (λb u z=>?_) (λb z=>?_) λ_=>M
  .by_cases hb:b=a
   .show .inr ⟨_,_,yH hb⟩
   .show .inl (yE hb)
  .by_cases hb:b=a
   .have D:=(yH hb).symm.trans z;cases D;subst hb;show⟨E,by rw[ya];show hl,vs,_,Y,E⟩
   .have D:=(yE hb).symm.trans z;cases D
  .by_cases hb:b=a
   .show hb
   .show absurd (yE hb) z
theorem walk_of{l:PySem.W.OpenLaw}{k:Nat}{q:Program}{loose:LS}{XP:(Str->Option Value)->Heap->Prop}{YP:World->Heap->Prop}{d:DefRec}{K:Params->yh}{CX:World->CXT}{sp:World->Sp}
  (P:l.most=some n) (A:n<=sizeLine) (y:d.params.defaults=[]) (R:Room k callerA)
  (M:∀(w:World) (h:Heap),YP w h->(K w.params).In h)
  (F:∀(w:World) (j:Str->Option Value) (r:Addr) (h:Heap),(K w.params).In h->h.Ns mainGlobals j->j d.name=some (.ref r) ->
   ∃ fd:FuncData,(∀(s:Shared) (u:Value),BindsTo s fd ⟨[u],[]⟩ [(x,u)]) /\
    ∀ base:Heap,(K w.params).In base->base.Ns mainGlobals j->FnOk l.prog w (K w.params) j base (CX w) k r fd [x] (sp w))
  (B:∀(w:World) (H:Hp) (a:Addr) (ns:LQ),ns.length<=n->qik H->SqL (K w.params) H a (ns.map V.int)->sp w [.ref a] H (λv _=>v=.bl true) λ_ _ _=>False)
  (t:∀(w:World) (H:Hp) (s:Shared) (e:Value) (s':Shared),CX w [] H s (λ_ _ _=>False) e s'->False) :
  PySem.W.WalkO q loose XP YP l.row.toRowW d [] (λf vs=>PySem.call f vs):=by
 show Att.attach_call P y λw D p j Z r o pm S E a vs ns G Y X U N z m i c O=>?_;have C:=M w _ Y;obtain⟨fd,hb,I⟩:=F w j r _ C G.T.g z;show law_call C G.T.g G.T.b G.T.builtins G.T.nolimit O m i (yj c A) R I hb (λH J L=>B w H a ns c J L) λH e s'=>t w H p e s'
abbrev CX0:CXT:=λ_ _ _ _ _ _=>False
abbrev E0:XK:=λ_ _ _=>False
theorem qv{X:Cx}:qaQ CX0 X E0:=λ_ _ _ _ _ _ _ h=>h.elim
structure Fun(K:yh)(x qual:Str)(st:Stmt)(f:Addr)(fd:FuncData):Prop where
 ex:∃(oc:Value) (od:Option Addr) (kV doc pm:Value) (an:Option Addr) (cdv ct:Value) (osl:Array (Option Value)),
  fd=PySem.W.fnOf x qual (qbk st) (zD st) (qf st) .none kV doc pm an cdv ct/\K.lookup f=some ⟨oc,od,.func fd,osl⟩/\PySem.W.codeIn K cdv qual=true
 kp:PySem.W.keepIn K (.ref f)=true
section
variable{P:Program}{w:World}{K:yh}{mg:Str->Option Value}{base:Heap}
theorem Fun.ok{N:LS}{k:Nat}(F:Fun K x qual st f fd)(S:FnScope N ps (qf st)) (c:∀(b:Value) (A:Around) (a:List Env) (s:Shared) (H:Hp) (vs:List V) (Q:VK) (E:XK),Room k (A.deeper (envOfC qual (qf st) s.heap.objs.size f b))->sp vs H Q E ->
   ∃ t,PSs (qgN CX0 P w K mg base N qual (qf st) f b A a s H E).nox (zD st) t/\t { nx:=λ_ H'=>Q .non H',rt:=Q } (start N vs) H) (len:∀ vs H Q E,sp vs H Q E->vs.length=ps.length:=by intro _ _ _ _ h;cases h;subst_vars;rfl):wqqj (k+1) f fd ps sp:=by
 obtain⟨n,od,kV,g,o,m,b,ct,l,rfl,j,d⟩:=F.ex;show qhT j d S len λA a s H vs Q E i e=>?_;obtain⟨t,h,q⟩:=c b A a s H vs Q E i e;show⟨t,h.nox,q⟩
theorem Fun.binds(F:Fun K x qual st f fd)
  (h:∀(kV b d:Value) (c:Option Addr) (a ct:Value) (us:List Value),us.length=ps.length->bindArgs (PySem.W.fnOf x qual (qbk st) (zD st) (qf st) .none kV b d c a ct) ⟨us,[]⟩=pure (ps.zip us)):Binds K fd ps []:=by
 obtain⟨j,od,kV,b,d,c,a,ct,g,rfl,i,e⟩:=F.ex;show .all (h kV b d c a ct)
theorem fun_mk{h:Value}{od e:Option Addr}{d:Array (Option Value)}{kV b g a ct:Value}(l:K.lookup f=some ⟨h,od,.func (PySem.W.fnOf x qual (qbk st) (zD st) (qf st) .none kV b g e a ct),d⟩)
  (c:PySem.W.codeIn K a qual=true) (k:PySem.W.keepIn K (.ref f)=true):Fun K x qual st f (PySem.W.fnOf x qual (qbk st) (zD st) (qf st) .none kV b g e a ct):=⟨⟨h,od,kV,b,g,e,a,ct,d,rfl,l,c⟩,k⟩
end
theorem qg(h:n<=1000):n<sizeLine:=xQ h (by decide)
section
variable{X:Cx}
theorem pv(i:Nat){b:Pos}(c:X.N[i]?=some x:=by rfl)(hv:Vis X.env.scope x:=by first | show yG rfl | show xK (yG rfl) | show xK (xK rfl))(d:(x==("__debug__":Str))=false:=by decide)
  (a:(x==("__classdict__":Str))=false:=by decide):PE X (.Name x b) (qfq i):=pe_var c hv d a
theorem call_lenD:zR X (.builtin "len") (λxs H Q=>∃ a kvs,xs=[V.ref a]/\H a=some (.dK kvs)/\Q (.int kvs.length) H):=by
 intro b s f H xs us Q I r h;obtain⟨a,kvs,rfl,d,q⟩:=h;obtain⟨u,rfl,e⟩:=qbX r;cases e;show d_len I (.inl d) λt s' c=>⟨.int kvs.length,H,c,⟨t,rfl⟩,q⟩
end
theorem jv(h:A):if true=true then A else B:=by
 rw[yH rfl];show h
theorem qE{c:Prop}[Decidable c](h1:c->A)(a:¬ c->B):if c then A else B:=by
 by_cases h:c
 .rw [yH h];show h1 h
 .rw [yE h];show a h
def Same(H H':Hp):Prop:=∀ b o,H b=some o->H' b=some o
theorem Same.refl(H:Hp):Same H H:=λ_ _ h=>h
theorem Same.trans{d e:Hp}(a:Same H d)(b:Same d e):Same H e:=λc o h=>b c o (a c o h)
theorem Same.free{H':Hp}(e:Same H H'){l:Addr}(h:H' l=Option.none):H l=Option.none:=by
 cases q:H l with
 | none=>rfl
 | some o =>
  rw[e l o q] at h;cases h
section
variable{κ:Type}[DecidableEq κ]
end
end L2
set_option maxHeartbeats 4000000
namespace L2
open PySem PySem.Spec PyProof.Rows
variable{A:Around}{C D a a0 c e f it p:Addr}{E:Value->Shared->Prop}{H H':Hp}{M:Model}{N ps:LS}{P prog:Program}{QO:Option Int->Hp->Prop}{R:It->Hp->Prop}{T:String}{X:Cx}{acc:List (Str×Addr)}{b expr:Bool}{dx:Option Addr}{elt iter tg:Expr}{env:Env}{fd:FuncData}{fl t u:Value}{fp zs:LI}{g:TG}{h h':Heap}{i j:Int}{ifs:List Expr}{its l us:List Value}{ixs:LN}{n nl:Nat}{names:List (Str×NameKind)}{ox:Obj}{pins:List (Addr×Obj)}{pl:Sem Bool}{pos:Pos}{qual x z:Str}{s:Shared}{sc scope:Scope}{sp:Sp}{tc:TT}{te:TE}{tk:Tok}{v y:V}{vs:Array Value}{w:World}{wi:TI}{xs ys:List V}{σ:St}
section
variable{prog:Program}{w:World}{A:Around}{R:Result->Shared->Prop}{s:Shared}
theorem compLoop_own{a:Expr}{it acc:Value}(I:Nat->Shared->Prop)
  (d:∀ n s,I n s->wpAny (model prog w) A (pyNext it) (λr f=>match r with
   | none=>R (.ok .next) f
   | some v=>wpAny (model prog w) A (letOwnedTupleGo a it v) (λ_ b=>wpAny (model prog w) A (assign a env v) (λ_ j =>
     wpAny (model prog w) A (forIn ifs true λc r=>if r=true then do let ok <- isTrue c env (eval c env);pure (ForInStep.yield ok) else pure (ForInStep.yield r)) (λok g =>
      if ok=true then wpAny (model prog w) A (eval elt env) (λx l =>
       wpAny (model prog w) A (call (.builtin "list.append") [acc,x]) (λ_ o=>∃ m,m<n/\I m o) (λ_ _=>False) l) (λ_ _=>False) g
      else ∃ m,m<n/\I m g) (λ_ _=>False) j) (λ_ _=>False) b) (λ_ _=>False) f) (λ_ _=>False) s)
  (n:Nat) (h:I n s) :
  codeAny (model prog w) A (.compLoop (.ListComp elt [⟨a,iter,ifs,0⟩] scope pos) 0 it acc env) R s:=by
 show codeAny_loop rfl I (λn s u=>?_) n h;show wpAny _ A ((compTurn (.ListComp elt [⟨a,iter,ifs,0⟩] scope pos) 0 it acc env).onRaise (λx=>do noteFrame x env;theTreesLotGoes x)) _ _ s;show wpAny_noted ?_;rw[compTurn_list];show yt (XT (yt (Yx (d n s u) (λr f h1=>?_) λ_ _ h'=>h'.elim)))
 cases r with
 | none=>show yA h1
 | some v =>
  show yt (Yx h1 (λ_ b e=>?_) λ_ _ h'=>h'.elim);show yt (Yx e (λ_ j p=>yt (Yx p (λok g i=>?_) λ_ _ h'=>h'.elim)) λ_ _ h'=>h'.elim)
  cases ok with
  | false=>show yA ⟨rfl,i⟩
  | true =>
   show yt (yt (Yx i (λx l q=>yt (Yx q (λ_ o t=>yA (yA ⟨rfl,t⟩)) λ_ _ h'=>h'.elim)) λ_ _ h'=>h'.elim))
end
def qT(env:Env):List (Str×NameKind)->List (Str×Addr)->List (Str×Addr)
 | [],acc=>acc
 | (n,k)::r,acc=>qT env r (if (k==.free)=true then(n,(env.cells.lookup n).getD 0)::acc else acc)
theorem qaw:∀{names:List (Str×NameKind)} {acc:List (Str×Addr)} {x:Str} {c:Addr},(qT env names acc).lookup x=some c ->
  ((x,NameKind.free)∈names/\c=(env.cells.lookup x).getD 0)\/acc.lookup x=some c
 | [],_,_,_,h=>.inr h
 | (n,k)::r,acc,x,c,h=>by
  unfold qT at h;rcases qaw h with⟨h1,f⟩ | h1
  .show .inl ⟨yz _ h1,f⟩
  .by_cases a:(k==NameKind.free)=true
   .rw [yH a,Xm] at h1
    cases b:x==n with
    | true =>
     rw[b] at h1;have e:x=n:=Yo.mp b;have d:k=.free:=Yo.mp a;subst e d;show .inl ⟨yL,(yn h1).symm⟩
    | false =>
     rw[b] at h1;show .inr h1
   .rw [yE a] at h1;show .inr h1
theorem qbx:∀{names:List (Str×NameKind)} {acc:List (Str×Addr)} {x:Str},(∃ c,acc.lookup x=some c)->∃ c,(qT env names acc).lookup x=some c
 | [],_,_,h=>h
 | (n,k)::r,acc,x,h=>by
  unfold qT;apply qbx;by_cases a:(k==NameKind.free)=true
  .rw [yH a,Xm]
   cases b:x==n with
   | true=>show⟨_,rfl⟩
   | false=>show h
  .rw [yE a];show h
theorem qax:∀{names:List (Str×NameKind)} {acc:List (Str×Addr)} {x:Str},(x,NameKind.free)∈names->∃ c,(qT env names acc).lookup x=some c
 | [],_,_,h=>by cases h
 | (n,k)::r,acc,x,h=>by
  unfold qT;rcases yF.mp h with e | e
  .cases e;apply qbx;rw[show(NameKind.free==NameKind.free)=true from rfl,yH rfl,Xm,Y8];show⟨_,rfl⟩
  .show qax e
theorem qby(h:∀ n,(n,NameKind.free)∈scope.names->∃ c,env.cells.lookup n=some c):closureFor scope env=pure (qT env scope.names []):=by
 have key:∀(names:List (Str×NameKind)) (acc:List (Str×Addr)),(∀ n,(n,NameKind.free)∈names->∃ c,env.cells.lookup n=some c) ->
   (forIn names acc (λ(x:Str×NameKind) (r:List (Str×Addr))=>(if (x.2==NameKind.free)=true then(cellOf env x.1>>=λc=>pure (ForInStep.yield ((x.1,c)::r))) else pure (ForInStep.yield r):Sem (ForInStep (List (Str×Addr))))))=(pure (qT env names acc):Sem (List (Str×Addr))):=by
  intro names
  induction names with
  | nil=>intro acc _;rfl
  | cons x r ih =>
   intro acc d;obtain⟨n,k⟩:=x;rw[List.forIn_cons];unfold qT;by_cases a:(k==NameKind.free)=true
   .have f:k=.free:=Yo.mp a;subst f;obtain⟨c,hc⟩:=d n yL;have g:cellOf env n=pure c:=by unfold cellOf;rw[hc]
    simp only[a,XB,g,hc,Option.getD_some];show ih _ λm b=>d m (yz _ b)
   .simp only[a,k7];show ih _ λm b=>d m (yz _ b)
 have e:=key scope.names [] h;unfold closureFor;show Eq.trans (congrArg (λm=>m>>=pure) e) rfl
@[reducible] def Cx.comp(X:Cx)(N:LS)(scope:Scope)(C:Addr)(s0:Shared)(H0:Hp)(ex:LI):Cx where
 prog:=X.prog
 w:=X.w
 K:=X.K
 mg:=X.mg
 base:=X.base
 A:=X.A
 N:=N
 s₀:=s0
 H₀:=H0
 env:=compEnvC scope (cellsFrom (C+1) scope.names (qT X.env scope.names [])) C X.env
 outer:=X.stack
 stack:=X.stack
 ex:=ex
 fn:=λx=>scope.names.lookup x==some NameKind.cell
 calm:=X.calm
 pn:=[]
 xe:=λ_ _=>False
theorem jT:∀(names:List (Str×NameKind)) (n:Nat) (acc:List (Str×Addr)),cellsFrom n names acc=cellsFrom n names []++acc
 | [],_,_=>rfl
 | (m,k)::r,n,acc=>by
  unfold cellsFrom;split
  .rw [jT r (n+1) ((m,n)::acc),jT r (n+1) [(m,n)],YK];rfl
  .show jT r n acc
theorem qbz:∀{names:List (Str×NameKind)} {n:Nat} {x:Str},(x,NameKind.cell)∈names->∃ c,(cellsFrom n names []).lookup x=some c
 | (m,k)::r,n,x,h=>by
  unfold cellsFrom;rcases yF.mp h with e | e
  .cases e;rw[yH (show(NameKind.cell==NameKind.cell)=true from rfl),jT,xR]
   cases q:(cellsFrom (n+1) r []).lookup m with
   | some c=>show⟨c,rfl⟩
   | none=>show⟨n,by show List.lookup m [(m,n)]=some n;rw[Xm,Y8]⟩
  .split
   .rw [jT,xR];obtain⟨c,hc⟩:=qbz (n:=n+1) e;show⟨c,by rw[hc];rfl⟩
   .show qbz e
theorem qcz:∀{names:List (Str×NameKind)} {n:Nat} {x:Str} {c:Addr},(x,c)∈cellsFrom n names []->(x,NameKind.cell)∈names
 | (m,k)::r,n,x,c,h=>by
  unfold cellsFrom at h;split at h
  .rename_i hk
   rw[jT] at h;rcases yP.mp h with z | z
   .show yz _ (qcz z)
   .have e:(x,c)=(m,n):=yw.mp z;cases e;rw[Yo.mp hk];show yL
  .show yz _ (qcz h)
theorem qcA(h:(cellsFrom n names acc).lookup x=some c):(x,c)∈cellsFrom n names []\/acc.lookup x=some c:=by
 rw[jT,xR] at h
 cases e:(cellsFrom n names []).lookup x with
 | some d=>rw[e] at h;cases h;show .inl (mem_of_lookup e)
 | none=>rw[e] at h;show .inr h
theorem cells_some(h:(x,NameKind.cell)∈names\/∃ c,acc.lookup x=some c):∃ c,(cellsFrom n names acc).lookup x=some c:=by
 rw[jT,xR]
 cases e:(cellsFrom n names []).lookup x with
 | some d=>show⟨d,rfl⟩
 | none =>
  rcases h with z | ⟨c,hc⟩
  .obtain⟨d,a⟩:=qbz (n:=n) z;rw[e] at a;cases a
  .show⟨c,hc⟩
section
variable{M:Model}{A:Around}{E:Value->Shared->Prop}{s:Shared}
theorem newEnvK{c:Addr}{b:List (Str×Addr)}{f:Option Addr}{e:Value}{d:Env}{a:Addr}{Q:Env->Shared->Prop}
  (i:Q (newEnv scope s.heap.objs.size c (cellsFrom (s.heap.objs.size+1) scope.names b) qual f e (some d) a) { s with heap:=pushCells (s.heap.push { cls:=.type "dict",data:=.dict #[] }) scope.names }) :
  wpAny M A (newFunctionEnv scope c b [] qual f e (some d) a) Q E s:=by
 simp only[newFunctionEnv,Option.isSome_some,XB];show yt (wpAny_alloc ?_);show yt (wpAny_layCells _ (λname kind g=>by cases h:kind==NameKind.cell<;>simp[h]) _ _ _ _ ?_);rw[show({ s with heap:=s.heap.push { cls:=.type "dict",data:=.dict #[] } }:Shared).heap.objs.size=s.heap.objs.size+1 from YS ..];rw[List.forIn_nil];show yt (yA (yA i))
end
structure CompOk(sc scope:Scope):Prop where
 kind:scope.kind=.function
 cel:∀ y∈scope.names,y.2=.cell->scope.names.lookup y.1=some .cell
 loc:∀ y∈scope.names,y.2=.local->scope.names.lookup y.1=some .local
 free:∀ y∈scope.names,y.2=.free->sc.names.lookup y.1=some .cell\/sc.names.lookup y.1=some .free
 once:∀ y∈scope.names,y.2=.free->scope.names.lookup y.1=some .free
def qgy(sc scope:Scope):Bool:=decide (scope.kind=.function)&&scope.names.all λy=>match y.2 with
 | .local=>scope.names.lookup y.1==some .local
 | .free=>(sc.names.lookup y.1==some .cell||sc.names.lookup y.1==some .free)&&scope.names.lookup y.1==some .free
 | .cell=>scope.names.lookup y.1==some .cell
 | _=>true
theorem qeI(h:qgy sc scope=true):CompOk sc scope:=by
 unfold qgy at h;rw[Yl] at h;have b:=Yr.mp h.2;show⟨yl h.1,λy a e=>?_,λy a e=>?_,λy a e=>?_,λy a e=>?_⟩
 .have:=b y a;rw[e] at this;show Yo.mp this
 .have:=b y a;rw[e] at this;show Yo.mp this
 .have:=b y a;rw[e,Yl,xt] at this;show this.1.imp Yo.mp Yo.mp
 .have:=b y a;rw[e,Yl] at this;show Yo.mp this.2
def qil(nl:Nat)(ixs:LN)(N XN:LS)(names:List (Str×NameKind)):Bool:=(List.range ixs.length).all λk=>match ixs[k]?,N[nl+k]? with
 | some j,some x=>XN[j]?==some x&&names.any λy=>y.1==x&&y.2==.free
 | _,_=>true
theorem qfG{XN:LS}(h:qil nl ixs N XN names=true)(k j:Nat)(x:Str)(h1:ixs[k]?=some j)(c:N[nl+k]?=some x):XN[j]?=some x/\(x,NameKind.free)∈names:=by
 have d:k<ixs.length:=(yc.mp h1).1;have:=Yr.mp h k (Yd.mpr d);rw[h1,c] at this;simp only[Yl] at this;show⟨Yo.mp this.1,?_⟩;obtain⟨⟨n,g⟩,f,e⟩:=xA.mp this.2;rw[Yl] at e;have a:n=x:=Yo.mp e.1;have b:g=.free:=Yo.mp e.2;subst a b;show f
def qfs(nl:Nat)(ixs:LN)(σ:St):St:=List.replicate nl none++ixs.map λj=>(σ[j]?).getD none
theorem capS_len(nl:Nat)(ixs:LN)(σ:St):(qfs nl ixs σ).length=nl+ixs.length:=by
 unfold qfs;rw[yK,xv,ya]
theorem qeJ{i:Nat}(h:(qfs nl ixs σ)[i]?=some (some v)):nl<=i/\∃ j,ixs[i-nl]?=some j/\σ[j]?=some (some v):=by
 unfold qfs at h;by_cases a:i<nl
 .rw [yQ (by rw[xv];show a),XZ] at h;split at h<;>cases h
 .rw [Yc (by rw[xv];lk),xv,ye] at h;show⟨by lk,?_⟩
  cases e:ixs[i-nl]? with
  | none=>rw[e] at h;cases h
  | some j =>
   rw[e] at h;have h':(σ[j]?).getD none=some v:=yn h
   cases q:σ[j]? with
   | none=>rw[q] at h';cases h'
   | some u =>
    rw[q] at h';show⟨j,rfl,by rw[q];show congrArg some h'⟩
def qgz(env:Env)(y:Str×NameKind):Str×NameKind:=if (y.2==NameKind.free&&env.scope.kind==.function&&env.kindOf y.1==some .cell)=true then(y.1,NameKind.cell) else(y.1,y.2)
theorem relF_fst(env:Env)(y:Str×NameKind):(qgz env y).1=y.1:=by unfold qgz;split<;>rfl
theorem relF_snd(env:Env)(y:Str×NameKind):(qgz env y).2=y.2\/((qgz env y).2=.cell/\y.2=.free):=by
 unfold qgz;split
 .rename_i h
  rw[Yl,Yl] at h;show .inr ⟨rfl,Yo.mp h.1.1⟩
 .show .inl rfl
theorem zV:∀{names:List (Str×NameKind)} {x:Str} {k:NameKind},(names.map (qgz env)).lookup x=some k->∃ b,names.lookup x=some b/\(x,b)∈names/\(k=b\/(k=.cell/\b=.free))
 | [],_,_,h=>by cases h
 | (n,k1)::r,x,k,h=>by
  rw[Ys,show qgz env (n,k1)=((qgz env (n,k1)).1,(qgz env (n,k1)).2) from rfl,Xm,relF_fst] at h;rw[Xm]
  cases c:x==n with
  | true =>
   have e:x=n:=Yo.mp c;subst e;have a:(x==(x,k1).1)=true:=c;rw[a] at h;have h':=yn h;show⟨k1,rfl,yL,?_⟩;rcases relF_snd env (x,k1) with z | ⟨z1,z2⟩
   .show .inl (h'.symm.trans z)
   .show .inr ⟨h'.symm.trans z1,z2⟩
  | false =>
   have a:(x==(n,k1).1)=false:=c;rw[a] at h;obtain⟨b,d,f,g⟩:=zV h;show⟨b,d,yz _ f,g⟩
section
variable{X:Cx}{pins:List (Addr×Obj)}{σ:St}{H:Hp}{s:Shared}
theorem comp_free_of{cl:List (Str×Addr)}(h:(compEnvC scope cl C X.env).kindOf x=some .cell\/(compEnvC scope cl C X.env).kindOf x=some .free):(x,NameKind.cell)∈scope.names\/(x,NameKind.free)∈scope.names:=by
 rcases h with h | h
 .obtain⟨b,_,a,e | ⟨_,e⟩⟩:=zV (env:=X.env) (names:=scope.names) h
  .rw [<- e] at a;show .inl a
  .rw [e] at a;show .inr a
 .obtain⟨b,_,a,e | ⟨e,_⟩⟩:=zV (env:=X.env) (names:=scope.names) h
  .rw [<- e] at a;show .inr a
  .cases e
theorem Inv.comp{S:Obj}{h1:Heap}{tk:Nat}(I:Inv X pins σ H s)(O:CompOk X.env.scope scope)
  (hN:N.length=nl+ixs.length) (G:∀(k j:Nat) (x:Str),ixs[k]?=some j->N[nl+k]?=some x->X.N[j]?=some x/\(x,NameKind.free)∈scope.names)
  (M:∀ b∈fp,qea X pins H b) (J:∀ b∈fp,b<s.heap.objs.size) (L:s.heap.objs.size<=C) (W:s.heap.objs.size<=D) (Y:D≠C) (ac:h1.Ns C λ_=>none) (k:∀ b o,s.heap.get? b=some o->h1.get? b=some o)
  (ad:h1.get? D=some S) (aa:∀ v,S.data≠.cell v) (B:CellsOk h1 (C+1) (cellsFrom (C+1) scope.names [])):Inv (X.comp N scope C s H fp) [(D,S)] (qfs nl ixs σ) H { s with heap:=h1,toks:=tk }:=by
 have a:∀ x c,(qT X.env scope.names []).lookup x=some c->X.env.cells.lookup x=some c/\(x,NameKind.free)∈scope.names:=λx c h=>by
  rcases qaw h with⟨h1,K⟩ | h1
  .obtain⟨F,l⟩:=I.ok.has x (by
    rcases O.free _ h1 rfl with z | z
    .show .inl z
    .show .inr z)
   rw[l] at K;show⟨by rw[l,K];rfl,h1⟩
  .cases h1
 have big:∀ c:Addr,C+1<=c->s.heap.objs.size<=c:=λc h=>yj L (Nat.le_of_succ_le h);have R:∀{P:Prop} {c:Addr},C+1<=c->c<s.heap.objs.size->P:=λh g=>absurd (yk g (big _ h)) (Yp _)
 have all:∀ x c,(cellsFrom (C+1) scope.names (qT X.env scope.names [])).lookup x=some c->((x,c)∈cellsFrom (C+1) scope.names []/\C+1<=c/\h1.IsCell c none)\/(X.env.cells.lookup x=some c/\c<s.heap.objs.size):=λx c h=>by
  rcases qcA h with z | z
  .show .inl ⟨z,(B.empty _ _ z).2,(B.empty _ _ z).1⟩
  .obtain⟨_,q⟩:=I.cell x c (a x c z).1;show .inr ⟨(a x c z).1,q.lt⟩
 show⟨⟨I.ok.mod,O.kind,I.ok.glob,I.ok.blt,L,λx y c h1 K=>?inj,λx hx=>cells_some ((comp_free_of hx).imp id qax),λx c z h=>?cab,I.ok.hd,I.ok.frames,.inl rfl,
   λb hb=>⟨Yj (yk (J b hb) L),λx c e=>?exf⟩,I.bs,yj I.ok.bsz I.sz,λb o e hb=>?_,λb hb z=>?_,I.stack,I.stkFree⟩,
  rfl,I.bare,Un.kept k,⟨_,ac,λi x v e1 e2 e3=>?_⟩,λx c e=>?_,I.hok.fresh L,λx c e=>?fre,λp hp=>?_,I.hok.kept k,?_⟩
 case inj =>
  rcases all x c h1 with⟨r,f,_⟩ | ⟨r,f⟩<;>rcases all y c K with⟨T,U,_⟩ | ⟨T,U⟩
  .show name_of_addr B.apart r T
  .show R f U
  .show R U f
  .show I.ok.inj x y c r T
 case cab =>
  rcases all x c h with⟨_,f,_⟩ | ⟨r,f⟩
  .show big _ f
  .exfalso;obtain⟨d,E⟩:=qbz (n:=C+1) (mem_of_lookup (Yo.mp z));have h:(cellsFrom (C+1) scope.names (qT X.env scope.names [])).lookup x=some c:=h;rw[jT,xR,E] at h;cases h;show R (B.empty _ _ (mem_of_lookup E)).2 f
 case exf =>
  rcases all x c e with⟨_,f,_⟩ | ⟨r,_⟩
  .show λz=>R f (by rw[z];show J b hb)
  .show(M b hb).2.2.2.2.1 x c r
 case fre =>
  rcases all x c e with⟨_,f,_⟩ | ⟨r,_⟩
  .show I.hok.fresh (big _ f)
  .show I.freeC x c r
 .rcases(M b hb).2.2.2.1 with z | z
  .show I.ok.noex b o e z
  .have:=(I.ok.bs b o e).1;show absurd (yk (yO this) z) (Yp _)
 .rcases yF.mp (I.stkSub b z) with e | e
  .show(M b hb).2.1 e
  .show(M b hb).2.2.1 e
 .obtain⟨hi,j,hj,hv⟩:=qeJ e2;obtain⟨hx,t⟩:=G (i-nl) j x hj (by rw[Nat.add_sub_cancel' hi];show e1);obtain⟨m,hn,hl⟩:=I.loc;have B:=O.free _ t rfl
  obtain⟨u,ru,lk⟩:=hl j x v hx hv (by
   rcases B with z | z
   .show .inr (.inl z)
   .show .inr (.inr z))
  show⟨u,ru,?_⟩;rcases lk with⟨ab,_⟩ | ⟨_,c,hc,A⟩
  .have w:X.env.scope.names.lookup x=some .local:=ab;rcases B with z | z<;>· rw[z] at w;cases w
  .obtain⟨F,l⟩:=qax (env:=X.env) (acc:=[]) t
   have e:F=c:=by
    have:=(a x F l).1;rw[hc] at this;show(yn this).symm
   subst e
   have Z:(cellsFrom (C+1) scope.names (qT X.env scope.names [])).lookup x=some F:=by
    rw[jT,xR]
    cases q:(cellsFrom (C+1) scope.names []).lookup x with
    | none=>show l
    | some d=>have:=O.cel _ (qcz (mem_of_lookup q)) rfl;rw[O.once _ t rfl] at this;cases this
   show .inr ⟨?_,F,Z,?_⟩
   .rcases e3 with z | z | z
    .obtain⟨k0,z3,_,e | ⟨e,_⟩⟩:=zV (env:=X.env) (names:=scope.names) z
     .rw [O.once _ t rfl] at z3;cases z3;cases e
     .cases e
    .show .inl z
    .show .inr z
   .obtain⟨o,ho,E⟩:=A;show⟨o,k _ _ ho,E⟩
 .rcases all x c e with⟨_,_,a3⟩ | ⟨r,_⟩
  .show⟨none,a3⟩
  .obtain⟨v,o,ho,E⟩:=I.cell x c r;show⟨v,o,k _ _ ho,E⟩
 .have e:p=(D,S):=by simpa using hp
  subst e;show⟨ad,I.hok.fresh W,Y,λz=>?_,aa⟩;rcases yF.mp (I.stkSub D z) with e | e
  .show absurd (show X.env.locals<D from yk I.lt W) (by rw[e];show Yp _)
  .show I.nofs W e
 .show(qfs nl ixs σ).length=N.length;rw[capS_len,hN]
theorem Inv.compBack{s':Shared}{i:St}(I:Inv X pins σ H s)(g:∀ b∈fp,qea X pins H b)(t:s.heap.objs.size<=C)(j:s.heap.objs.size<=D)
  (J:Inv (X.comp N scope C s H fp) [(D,{ cls:=.type "list",data:=.seq its.toArray n })] i H' s') (hv:Vals ys its) (m:ys.length<=sizeLine):Inv X pins σ (upd H' D (.lst ys)) s':=by
 obtain⟨r,f,p,_,_⟩:=J.pin (D,{ cls:=.type "list",data:=.seq its.toArray n }) (yU _ (yw.mpr rfl));have h:∀ b o,s.heap.get? b=some o->b≠D:=λb o e=>Yj (yk (yO e) j);have a:=J.base;show I.call' (ch:=fp) J.os ⟨a.keep,a.slot,λb o e n l=>?_,a.there,λb xs e=>?_,λb o u e=>?_,λb ps e=>?_⟩ (λb u e=>?_) J.bare λb hb=>⟨(g b hb).2.2.2.1,(g b hb).2.1,(g b hb).2.2.2.2.1,(g b hb).2.2.2.2.2⟩
 .rw [qo (h b o e)];show a.free b o e n l
 .have q:=a.tups b xs e;rw[qo (qO q f)];show q
 .have q:=a.frzs b o u e;rw[qo (qO q f)];show q
 .obtain⟨d,q⟩:=a.tbls b ps e;show⟨d,by rw[qo (qO q f)];show q⟩
 .by_cases hb:b=D
  .subst hb;rw[qc] at e;cases e;show⟨m,its,n,hv,r⟩
  .rw [qo hb] at e;show(J.hok b u e).stay (λc v _ q=>q) (λc q=>by rw[qo (qO q f)];show q) λc xs q=>by rw[qo (qO q f)];show q
end
def qiA:TT:=λ_ H Q=>Q true H
def qgA(wi:TI)(g:TG)(tc:TT)(te:TE)(nl:Nat)(ixs:LN):TE:=fun σ H Q=>wi σ H λJ e =>
 ∃ W:Nat->Nat->List V->Hp->Prop,(∃ m,W 0 m [] e)/\∀ i m ys H,W i m ys H ->
  (J.stop i H/\ys.length<=sizeLine/\∀ p,H p=none->Q (.ref p) (upd H p (.lst ys))) \/
  (J.go i H/\∃ M:List V->Hp->Prop,(∀ ys' H',M ys' H'->∃ d,d<m/\W (i+1) d ys' H')/\∀ x H',J.yld i H x H'->g x (qfs nl ixs σ) H' λa f=>tc a f λb c =>
   if b=true then te a c λv h=>ys.length<sizeLine/\M (ys++[v]) h else M ys c)
def qfH(nl:Nat)(g:TG):Prop:=∀ x σ H Q,g x σ H Q->g x σ H λa b=>Q a b/\a.length=σ.length/\∀ i,nl<=i->a[i]?=σ[i]?
theorem qF{i:Nat}(h:i<nl:=by decide):qfH nl (qcR i):=λx σ H Q q=>⟨q,ky ..,λj a=>xB (by lk)⟩
def qhW(X:Cx)(ifs:List Expr)(tc:TT):Prop:=
 ∀(pins:List (Addr×Obj)) (s:Shared) (σ:St) (H:Hp) (Q:Bool->Hp->Prop),Inv X pins σ H s->tc σ H Q ->
  wpAny (model X.prog X.w) X.A (forIn ifs true λc r=>if r=true then do let ok <- isTrue c X.env (eval c X.env);pure (ForInStep.yield ok) else pure (ForInStep.yield r)) (TP X pins σ Q) X.xe s
theorem jl:qhW X [] qiA:=λpins s σ H Q I h=>wpAny_tests_nil ⟨H,I,h⟩
theorem qJ{c:Expr}(h:PT X c tc):qhW X [c] tc:=λpins s σ H Q I q=>wpAny_tests_one (h pins s σ H Q I q)
section
variable{X:Cx}{pins:List (Addr×Obj)}{σ:St}{H:Hp}{s:Shared}
theorem qcY{tn:Nat->Heap->Prop}{J:It}{Q:V->Hp->Prop}
  {RR:Value->Addr->Result->Shared->Prop} (I:Inv X pins σ H s) (hc:X.calm=true) (O:CompOk X.env.scope scope)
  (hN:N.length=nl+ixs.length) (ai:∀(k j:Nat) (x:Str),ixs[k]?=some j->N[nl+k]?=some x->X.N[j]?=some x/\(x,NameKind.free)∈scope.names)
  (T:Turn X.prog X.w X.K tg J fp it tn) (st:tn 0 s.heap) (hf:∀ b∈fp,qea X pins H b)
  (hg:∀ C s0 H0 ex,PG (X.comp N scope C s0 H0 ex) tg g) (gk:qfH nl g) (hi:∀ C s0 H0 ex,qhW (X.comp N scope C s0 H0 ex) ifs tc) (he:∀ C s0 H0 ex,PE (X.comp N scope C s0 H0 ex) elt te)
  (h:∃ W:Nat->Nat->List V->Hp->Prop,(∃ m,W 0 m [] H)/\∀ i m ys H,W i m ys H ->
   (J.stop i H/\ys.length<=sizeLine/\∀ p,H p=none->Q (.ref p) (upd H p (.lst ys))) \/
   (J.go i H/\∃ M:List V->Hp->Prop,(∀ ys' H',M ys' H'->∃ m',m'<m/\W (i+1) m' ys' H')/\∀ x H',J.yld i H x H'->g x (qfs nl ixs σ) H' λap a=>tc ap a λb H3 =>
    if b=true then te ap H3 λv H4=>ys.length<sizeLine/\M (ys++[v]) H4 else M ys H3))
  (aw:∀(D C:Addr) (s':Shared) (H':Hp) (R:St) (ys:List V) (its:List Value) (n:Nat),s.heap.objs.size<=C->s.heap.objs.size<=D->Inv (X.comp N scope C s H fp) [(D,{ cls:=.type "list",data:=.seq its.toArray n })] R H' s'->Vals ys its->ys.length<=sizeLine ->
   (∀ p,H' p=none->Q (.ref p) (upd H' p (.lst ys)))->RR (.ref D) C (.ok .next) s') :
  wpAny (model X.prog X.w) X.A (newList []) (λacc s3=>wpAny (model X.prog X.w) X.A (newFunctionEnv scope X.env.globals (qT X.env scope.names []) [] X.env.qual none .none (some X.env)) (λU s4 =>
   codeAny (model X.prog X.w) X.A (.compStart (.ListComp elt [⟨tg,iter,ifs,0⟩] scope pos) 0 (.ref it) acc { U with scope:=relabel scope X.env }) (RR acc U.locals) s4) E s3) E s:=by
 obtain⟨W,⟨m0,w0⟩,ao⟩:=h;show Xg (newEnvK ?_);dsimp only;generalize ab:s.heap.push { cls:=.type "list",dict:=none,data:=.seq ([]:List Value).toArray }=a;have Z:(pushCells (a.push { cls:=.type "dict",data:=.dict #[] }) scope.names).Ns a.objs.size λ_=>none:=(Heap.Ns.new a (.type "dict")).keeps (pushCells_keeps _ _);have F:=cellsFrom_ok scope.names (a.push { cls:=.type "dict",data:=.dict #[] }) (a.objs.size+1) [] ⟨λ_ _ hm=>(nomatch hm),List.Pairwise.nil⟩ (by rw[YS];show yi _);rw[YS] at F;have ac:∀ b o,a.get? b=some o->(pushCells (a.push { cls:=.type "dict",data:=.dict #[] }) scope.names).get? b=some o:=λb o e=>pushCells_keeps _ _ b o (yv _ e);generalize pushCells (a.push { cls:=.type "dict",data:=.dict #[] }) scope.names=h1 at Z F ac ⊢;have hC:a.objs.size=s.heap.objs.size+1:=by rw[<- ab,YS]
 have av:s.heap.objs.size≠a.objs.size:=by rw[hC];show Yj (XH _)
 have Y:s.heap.objs.size<=a.objs.size:=by rw[hC];show YV _
 have f:∀ b,b<s.heap.objs.size->b≠a.objs.size/\b≠s.heap.objs.size:=λb hb=>⟨by rw[hC];show Yj (Nat.lt_succ_of_lt hb),Yj hb⟩;have ad:∀ b o,s.heap.get? b=some o->h1.get? b=some o:=λb o e=>ac b o (ab ▸ yv _ e);have ag:h1.get? s.heap.objs.size=some { cls:=.type "list",data:=.seq ([]:List Value).toArray }:=ac _ _ (ab ▸ yS _ rfl)
 have B:∀ b∈fp,b<s.heap.objs.size:=λb hb=>by
  obtain⟨o,ho,_⟩:=T.obj 0 _ st b hb;show yO ho
 have aa:∀ s3:Shared,s3={ s with heap:=h1 } ->
   codeAny (model X.prog X.w) X.A (.compLoop (.ListComp elt [⟨tg,iter,ifs,0⟩] scope pos) 0 (.ref it) (.ref s.heap.objs.size) (compEnvC scope (cellsFrom (a.objs.size+1) scope.names (qT X.env scope.names [])) a.objs.size X.env)) (RR (.ref s.heap.objs.size) a.objs.size) s3:=by
  rintro s3 rfl;have I0:=I.comp (N:=N) (C:=a.objs.size) (D:=s.heap.objs.size) (h1:=h1) (tk:=s.toks) O hN ai hf B Y (yi _) av Z ad ag (λv z=>by cases z) F
  have t:∀{H':Hp} {R:St} {s':Shared} {pl:List (Addr×Obj)},Inv (X.comp N scope a.objs.size s H fp) pl R H' s'->(∀ p∈pl,p.1=s.heap.objs.size)->(∀ b∈fp,H' b=none)->∀ b∈fp,qea (X.comp N scope a.objs.size s H fp) pl H' b:=λ{H' R s' pl} J ay hn b hb =>
   ⟨hn b hb,(f b (B b hb)).1,λz=>(by
     rcases yF.mp (I.stkSub b z) with e | e
     .show(hf b hb).2.1 e
     .show(hf b hb).2.2.1 e),.inl hb,J.ok.exf b hb |>.2,λp L z=>by
    have e:=ay p (by simpa using L);rw[e] at z;show(f b (B b hb)).2 z.symm⟩
  show compLoop_own (λk s'=>∃ i H' ys its n,Inv (X.comp N scope a.objs.size s H fp) [(s.heap.objs.size,{ cls:=.type "list",data:=.seq its.toArray n })] (qfs nl ixs σ) H' s'/\tn i s'.heap/\(∀ b∈fp,H' b=none)/\Vals ys its/\W i k ys H') ?_ m0
   ⟨0,H,[],[],0,I0,T.keep _ _ _ st λb _ o e=>ad b o e,λb hb=>(hf b hb).1,.nil,w0⟩
  rintro k s' ⟨i,H',ys,its,n,J1,am,af,v1,w1⟩
  have one:∀ p∈[((s.heap.objs.size,{ cls:=.type "list",data:=.seq its.toArray n }):Addr×Obj)],p.1=s.heap.objs.size:=λp L=>by
   have e:p=_:=yw.mp L;rw[e]
  rcases ao i k ys H' w1 with⟨an,hz,q⟩ | ⟨go,M,hM,step⟩
  .show thn (T.done (X.comp N scope a.objs.size s H fp) rfl rfl rfl hc i _ s' _ H' _ J1 (t J1 one af) am an) λr s4 ⟨hr,J4⟩=>?_;subst hr;show aw _ _ s4 H' _ ys its n Y (yi _) J4 v1 hz q
  .show thn (T.item (X.comp N scope a.objs.size s H fp) rfl rfl rfl hc i _ s' _ H' _ J1 (t J1 one af) am go) λr s4 ⟨u,hr,h4⟩=>?_;subst hr;show thn h4 λ_ s5 ⟨x,H5,J5,r5,y5,ae,ar⟩=>?_;have aq:=J5.pinned (t J5 one ar) (T.obj _ _ ae);show thn (hg _ _ _ _ _ s5 _ H5 x u _ aq r5 (gk _ _ _ _ (step x H5 y5))) λ_ s6 ⟨S,H6,J6,q6,l6,k6⟩=>?_;show thn (hi _ _ _ _ _ s6 S H6 _ J6 q6) λok s7 ⟨H7,J7,q7⟩=>?_;have l:∀{P:Shared} {H8:Hp} {ys':List V} {k':Nat},Inv (X.comp N scope a.objs.size s H fp) ([((s.heap.objs.size,{ cls:=.type "list",data:=.seq its.toArray n }):Addr×Obj)]++qdE fp s5.heap) S H8 P ->
     (∀ b o,b≠s.heap.objs.size->P.heap.get? b=some o->P.heap.get? b=some o)->tn (i+1) P.heap/\∀ b∈fp,H8 b=none:=λ{P H8 ys' k'} J8 _=>by
    show⟨T.keep _ _ _ ae λb hb o e=>(J8.pin (b,o) (yU _ (yU _ (qaY hb e)))).1,λb hb=>?_⟩;obtain⟨o,e,d⟩:=T.obj _ _ ae b hb;show(J8.pin (b,o) (yU _ (yU _ (qaY hb e)))).2.1
   have wk:∀(j:Nat) v,(qfs nl ixs σ)[j]?=some (some v)->S[j]?=some (some v):=λj v e=>by
    obtain⟨hj,_⟩:=qeJ e;rw[k6 j hj];show e
   cases ok with
   | false =>
    rw[yE YH] at q7 ⊢;obtain⟨m',hm,w7⟩:=hM _ _ q7;obtain⟨ba,as⟩:=l (ys':=ys) (k':=0) J7 (λ_ _ _ e=>e);show⟨m',hm,i+1,H7,ys,its,n,J7.unpinned.weak l6.symm wk,ba,as,v1,w7⟩
   | true =>
    rw[yH rfl] at q7 ⊢;show thn (he _ _ _ _ _ s7 S H7 _ J7 q7) λy P ⟨v,H8,J8,r8,bc,mq⟩=>?_;obtain⟨m',hm,w8⟩:=hM _ _ mq;obtain⟨bb,au⟩:=l (ys':=ys) (k':=0) J8 (λ_ _ _ e=>e);have J9:=J8.unpinned;obtain⟨pD,nD,al,az,_⟩:=J9.pin (s.heap.objs.size,{ cls:=.type "list",data:=.seq its.toArray n }) (yU _ (yw.mpr rfl));show wpAny_list_append_plain (hsz:=by rw[yB,<- v1.length];lk) ⟨n,pD⟩ λh9 G ak=>?_;obtain⟨n9,G⟩:=G;have e9:(its.toArray.push y)=(its++[y]).toArray:=by simp
    rw[e9] at G
    have Ja:Inv (X.comp N scope a.objs.size s H fp) [] (qfs nl ixs σ) H8 { P with heap:=h9,toks:=P.toks }:=
     ((J9.pins_of (pins':=[]) λp L=>absurd L (by simp)).turned (it:=s.heap.objs.size) (h':=h9) (t':=P.toks) (λb o hb e=>(ak.2 b hb).trans e) nD al (.inr (yi _))
      (λx c e z=>by
       rcases qcA e with w | e
       .have:=(F.empty _ _ w).2;rw[z,hC] at this;show absurd (yj (YV _) this) (Nat.not_succ_le_self _)
       have:=qaw e;rcases this with⟨ax,hcc⟩ | hcc
       .obtain⟨c',ah⟩:=I.ok.has x (by
         rcases O.free _ ax rfl with q | q
         .show .inl q
         .show .inr q)
        rw[ah] at hcc;have aj:c=c':=hcc;obtain⟨_,q⟩:=I.cell x c' ah;rw[<- aj,z] at q;show absurd q.lt (Yp _)
       .cases hcc) (λp L=>absurd L (by simp))).weak l6.symm wk
    show⟨m',hm,i+1,H8,ys++[v],its++[y],n9,Ja.pins_of λp L=>?_,?_,au,v1.append (.cons r8 .nil),w8⟩
    .have e:p=_:=yw.mp L;subst e;show⟨G,nD,al,az,λv z=>by cases z⟩
    .show T.keep _ _ _ bb λb hb o e=>(ak.2 b (f b (B b hb)).2).trans e
 show codeAny_compStart_list (aa _ rfl) (T.self _ 0 _ _ _ (T.keep _ _ _ st λb _ o e=>ad b o e) (aa _ rfl))
end
section
variable{X:Cx}{tg elt iter:Expr}{ifs:List Expr}{scope:Scope}{pos:Pos}{N:LS}{nl:Nat}{ixs:LN}{wi:TI}{g:TG}{tc:TT}{te:TE}
theorem qK{XN:LS}(N:LS)(nl:Nat)(ixs:LN)(G:X.env.scope=sc)(y:X.N=XN)(hc:X.calm=true)(P:qgy sc scope=true)(W:N.length=nl+ixs.length)(d:qil nl ixs N XN scope.names=true)
  (hi:PI X tg iter wi) (hg:∀ C t i j,PG (X.comp N scope C t i j) tg g) (R:qfH nl g) (ht:∀ C t i j,qhW (X.comp N scope C t i j) ifs tc) (Z:∀ C t i j,PE (X.comp N scope C t i j) elt te)
  (hs:∀ x,foldedSetIterable iter X.env x=pure x:=by intro _;rfl):PE X (.ListComp elt [⟨tg,iter,ifs,0⟩] scope pos) (qgA wi g tc te nl ixs):=by
 intro pins s σ H Q I h;subst G y;have O:=qeI P;have r:=qfG d;rw[eval_ListComp]
 have E:=qby (scope:=scope) (env:=X.env) λn F=>I.ok.has n (by
  rcases O.free _ F rfl with z | z
  .show .inl z
  .show .inr z)
 show wpAny_comprehension_free (use:=none) rfl hs E O.kind O.loc (thn (hi pins s σ H _ I h) λv s1 h1=>thn h1 λaa s2 S=>?_);obtain⟨it,fp,tn,J,H2,e,f,T,L,M,Y⟩:=S;subst e;show qcY (Q:=Q) (RR:=λacc C=>compPost (model X.prog X.w) X.A X.xe none (EP X pins σ Q) acc C) f hc O W r T L M hg R ht Z Y ?_;intro D C s' H' ab ys its n l U u hv hz q;obtain⟨m,F,_⟩:=id u.loc;have B:=f.compBack M l U u hv hz;obtain⟨_,nD,K,_,_⟩:=u.pin (D,{ cls:=.type "list",data:=.seq its.toArray n }) (yU _ (yw.mpr rfl));show⟨m,F,λh' sb=>⟨.ref D,_,?_,rfl,q D nD⟩⟩;show B.turned (it:=C) (h':=h') (t':=s'.toks) (λb o hb e=>(sb.2 b hb).trans e) ((qo (H:=H') (a:=D) (b:=C) (o:=.lst ys) (Yw K)).trans u.free) (xJ (yk f.lt l)) (.inr (yj f.sz l)) (λx c e z=>?_) (λp hp z=>?_)
 .obtain⟨_,q⟩:=f.cell x c e;show absurd (yk q.lt (by rw[z];show l)) (Yp _)
 .show absurd (yk (yO (f.pin p hp).1) (by rw[z];show l)) (Yp _)
theorem qay{i:Nat}{y:Str}{r f:Pos}{XN:LS}(N:LS)(nl:Nat)(ixs:LN)(Y:X.env.scope=sc)(E:X.N=XN)(hc:X.calm=true)(O':qgy sc scope=true)(hN:N.length=nl+ixs.length)(l:qil nl ixs N XN scope.names=true)
  (P:X.N.Nodup) (S:X.N[i]?=some y) (hy:X.env.scope.names.lookup y=some .local)
  (hi:PI X tg iter wi) (hg:∀ C G t u,PG (X.comp N scope C G t u) tg g) (gk:qfH nl g) (ht:∀ C G t u,qhW (X.comp N scope C G t u) ifs tc) (he:∀ C G t u,PE (X.comp N scope C G t u) elt te)
  (Z:swapsWith (.ListComp elt [⟨tg,iter,ifs,0⟩] scope pos) (some (.Name y r)) f.line X.env=pure true:=by rfl)
  (hs:∀ x,foldedSetIterable iter X.env x=pure x:=by intro _;rfl):PS X (.Assign [.Name y r] (.ListComp elt [⟨tg,iter,ifs,0⟩] scope pos) f) (qhF (qgA wi g tc te nl ixs) (qcR i)):=by
 intro pins s σ H L I h;subst Y E;have O:=qeI O';have F:=qfG l
 have R:=qby (scope:=scope) (env:=X.env) λn U=>I.ok.has n (by
  rcases O.free _ U rfl with z | z
  .show .inl z
  .show .inr z)
 rw[exec_Assign_Name_used _ _ _ _ Z];show yt (XT (yt ?_));show wpAny _ X.A (do let _ <- comprehension (.ListComp elt [⟨tg,iter,ifs,0⟩] scope pos) scope X.env _ (newList []) false (eval iter X.env) (some (assign (.Name y r) X.env))) _ _ s;show yt (Yx (wpAny_comprehension_free (use:=some (assign (.Name y r) X.env)) (Q:=λ_ s'=>SP X pins L .next s') rfl hs R O.kind O.loc
  (thn (hi pins s σ H _ I h) λv s1 h1=>thn h1 λad s2 h2=>?_)) (λ_ s' hq=>yA (yA hq)) λ_ _ e=>e)
 obtain⟨it,fp,tn,J,H2,e,d,T,ac,f2,hW⟩:=h2;subst e;show qcY (Q:=λv H'=>qcR i v σ H' L.nx) (RR:=λacc C=>compPost (model X.prog X.w) X.A X.xe (some (assign (.Name y r) X.env)) (λ_ s'=>SP X pins L .next s') acc C) d hc O hN F T ac f2 hg gk ht he hW ?_;intro D C s' H' ae ys its n j hD K hv hz q;obtain⟨m,U,_⟩:=id K.loc;have B:=d.compBack f2 j hD K hv hz;obtain⟨_,nD,aa,_,_⟩:=K.pin (D,{ cls:=.type "list",data:=.seq its.toArray n }) (yU _ (yw.mpr rfl));show wpAny _ X.A (assign (.Name y r) X.env (.ref D)) _ _ _;show wpAny_assign_Name (qdB (i:=i) (x:=y) (v:=.ref D) B P S (.inl hy) rfl (λab B' W=>?_) (.inr hy));obtain⟨a,sa,ha⟩:=W
 have M:C≠a:=by
  rintro rfl;rcases ha with z | z
  .show absurd (show X.env.locals<C from yk d.lt j) (by rw[z];show Yp _)
  .obtain⟨_,q⟩:=d.cell y C z;show absurd (yk q.lt j) (Yp _)
 show⟨m,U.sameBut sa M,λh' sb=>⟨_,_,?_,q D nD⟩⟩;show B'.turned (it:=C) (h':=h') (t':=ab.toks) (λb o hb e=>(sb.2 b hb).trans e) ((qo (H:=H') (a:=D) (b:=C) (o:=.lst ys) (Yw aa)).trans K.free) (xJ (yk d.lt j)) (.inr (yj d.sz j)) (λx c e z=>?_) (λp hp z=>?_)
 .obtain⟨_,q⟩:=d.cell x c e;show absurd (yk q.lt (by rw[z];show j)) (Yp _)
 .show absurd (yk (yO (d.pin p hp).1) (by rw[z];show j)) (Yp _)
end
def Its(x:Str):It:=⟨λi _=>i<x.cps.size,λi H v H'=>H'=H/\∃ c,x.cps[i]?=some c/\v=.str ⟨#[c]⟩,λi _=>i=x.cps.size⟩
theorem qeK{K:yh}{t:Tok}(W:∀ A:Around,A.handled=none->Walks P w A it [it] [it] x.cps.size (SignAt x) λi h=>h.IsStrIter it T x t i)
  (J:∀(A:Around) (i:Nat) (s:Shared) (Q:Value->Shared->Prop) (E:Value->Shared->Prop),s.heap.IsStrIter it T x t i->Q (.ref it) s->wpAny (model P w) A (pyIter (.ref it)) Q E s)
  (B:∀ v,letOwnedTupleGo tg (.ref it) v=pure ()):Turn P w K tg (Its x) [it] it (λi h=>h.IsStrIter it T x t i) where
 mem:=by simp
 obj:=λi h st b hb=>by
  have e:b=it:=by simpa using hb
  subst e;obtain⟨o,e,c,d⟩:=st;show⟨o,e,λv z=>by rw[d] at z;cases z⟩
 keep:=λi h h' st k=>by
  obtain⟨o,e,r⟩:=st;show⟨o,k it (by simp) o e,r⟩
 item:=by
  intro X p hw n hc i pins s σ H E I a st y;subst p hw n;obtain⟨f,g,G,j,l,m⟩:=a it (by simp);show(W X.A (I.ok.hd hc)).item i s _ _ y st λv h' tk hv D C=>?_;obtain⟨c,u,q,rfl⟩:=hv;have F:Inv X pins σ H { s with heap:=h',toks:=tk }:=I.turned (λb o hb e=>C b o (by simpa using hb) e) f g j l m;show⟨_,rfl,xu (B _) ⟨.str ⟨#[c]⟩,H,F,⟨u,rfl⟩,⟨rfl,c,q,rfl⟩,D,λb hb=>(a b hb).1⟩⟩
 done:=by
  intro X p hw n hc i pins s σ H E I a st y;subst p hw n;obtain⟨f,g,G,j,l,m⟩:=a it (by simp);have e:i=x.cps.size:=y;subst e;show(W X.A (I.ok.hd hc)).done s _ _ st λh' tk C=>⟨rfl,I.turned (λb o hb e=>C b o (by simpa using hb) e) f g j l m⟩
 self:=J
section
variable{X:Cx}{tg:Expr}
end
section
variable{K:yh}{a:Addr}{xs:List V}{g:TG}{tc:TT}{te:TE}{σ':St}{H1:Hp}{Q:V->Hp->Prop}
def qfj(J:It)(g:TG)(tc:TT)(te:TE)(σ':St)(H1:Hp)(Q:V->Hp->Prop):Prop:=
 ∃ W:Nat->Nat->List V->Hp->Prop,(∃ m,W 0 m [] H1)/\∀ i m ys H,W i m ys H ->
   (J.stop i H/\ys.length<=sizeLine/\∀ p,H p=none->Q (.ref p) (upd H p (.lst ys))) \/
   (J.go i H/\∃ M:List V->Hp->Prop,(∀ ys' H',M ys' H'->∃ d,d<m/\W (i+1) d ys' H')/\∀ x H',J.yld i H x H'->g x σ' H' λa e=>tc a e λb c =>
    if b=true then te a c λv f=>ys.length<sizeLine/\M (ys++[v]) f else M ys c)
theorem qx(c:Nat->List V->Hp->Prop)(n:c 0 [] H1)(hl:∀ i ys H,i<=xs.length->c i ys H->SqL K H a xs)
  (s:∀ i x ys H,xs[i]?=some x->c i ys H->g x σ' H λf j=>tc f j λb h=>if b=true then te f h λv l=>ys.length<sizeLine/\c (i+1) (ys++[v]) l else c (i+1) ys h)
  (o:∀ ys H,c xs.length ys H->ys.length<=sizeLine/\∀ p,H p=none->Q (.ref p) (upd H p (.lst ys))):qfj (Itl K a) g tc te σ' H1 Q:=by
 show⟨λi m ys H=>m=xs.length-i/\i<=xs.length/\c i ys H,⟨xs.length,by simp,Y5 _,n⟩,?_⟩;rintro i m ys H ⟨rfl,r,p⟩;have q:=hl i ys H r p;by_cases d:i<xs.length
 .show .inr ⟨⟨xs,xs[i],q,by simp[d]⟩,c (i+1),λys' H' t=>⟨xs.length-(i+1),by lk,rfl,d,t⟩,λx H' y=>?_⟩;obtain⟨e,y⟩:=y;subst e;show s i x ys _ (y xs q) p
 .have e:i=xs.length:=by lk
  subst e;show .inl ⟨⟨xs,q,yi _⟩,o ys H p⟩
theorem qcZ{lo:Int}(a:Nat->List V->Hp->Prop)(l:a 0 [] H1)
  (q:∀ i ys H,i<n->a i ys H->g (.int (lo+i)) σ' H λd h=>tc d h λb f=>if b=true then te d f λv j=>ys.length<sizeLine/\a (i+1) (ys++[v]) j else a (i+1) ys f)
  (o:∀ ys H,a n ys H->ys.length<=sizeLine/\∀ p,H p=none->Q (.ref p) (upd H p (.lst ys))):qfj (Itr lo n) g tc te σ' H1 Q:=by
 show⟨λi m ys H=>m=n-i/\i<=n/\a i ys H,⟨n,by simp,Y5 _,l⟩,?_⟩;rintro i m ys H ⟨rfl,s,p⟩;by_cases c:i<n
 .show .inr ⟨c,a (i+1),λys' H' r=>⟨n-(i+1),by lk,rfl,c,r⟩,λx H' y=>?_⟩;obtain⟨e,y⟩:=y;subst e y;show q i ys _ c p
 .have e:i=n:=by lk
  subst e;show .inl ⟨yi _,o ys H p⟩
theorem qeL(a:Nat->List V->Hp->Prop)(n:a 0 [] H1)
  (q:∀ i c ys H,x.cps[i]?=some c->a i ys H->g (.str ⟨#[c]⟩) σ' H λf j=>tc f j λb h=>if b=true then te f h λv l=>ys.length<sizeLine/\a (i+1) (ys++[v]) l else a (i+1) ys h)
  (o:∀ ys H,a x.cps.size ys H->ys.length<=sizeLine/\∀ p,H p=none->Q (.ref p) (upd H p (.lst ys))):qfj (Its x) g tc te σ' H1 Q:=by
 show⟨λi m ys H=>m=x.cps.size-i/\i<=x.cps.size/\a i ys H,⟨x.cps.size,by simp,Y5 _,n⟩,?_⟩;rintro i m ys H ⟨rfl,s,p⟩;by_cases d:i<x.cps.size
 .show .inr ⟨d,a (i+1),λys' H' r=>⟨x.cps.size-(i+1),by lk,rfl,d,r⟩,λv H' y=>?_⟩;obtain⟨e,c,hc,y⟩:=y;subst e y;show q i c ys _ hc p
 .have e:i=x.cps.size:=by lk
  subst e;show .inl ⟨rfl,o ys H p⟩
end
def qdU:V->Option Value
 | .ty n=>some (.type n)
 | .ref a=>some (.ref a)
 | _=>none
theorem qc0{c:Value}(h:qdU y=some c)(r:RelV y u):u=c:=by
 cases y with
 | ty n=>cases h;show r
 | ref a=>cases h;show r
 | _=>cases h
section
variable{X:Cx}{pins:List (Addr×Obj)}{σ:St}{H:Hp}{s:Shared}
theorem TyOf.kit{x:V}(I:Inv X pins σ H s)(b:RelV x u)(ty:TyOf X.K H x t):∃ P:Heap->Prop,PySem.W.KitX X.K u t P/\P s.heap/\u≠.builtin "__main__.__loader__#opaque":=by
 cases ty with
 | non=>cases (show u=Value.none from b);show⟨_,PySem.W.kitx_none,YQ,(λz=>nomatch z)⟩
 | bl y=>cases (show u=Value.bool y from b);show⟨_,PySem.W.kitx_bool,YQ,(λz=>nomatch z)⟩
 | int i=>obtain⟨t,q⟩:=(show ∃ t,u=Value.int i t from b);cases q;show⟨_,PySem.W.kitx_int,YQ,(λz=>nomatch z)⟩
 | str y=>obtain⟨t,q⟩:=(show ∃ t,u=Value.str y t from b);cases q;show⟨_,PySem.W.kitx_str,YQ,(λz=>nomatch z)⟩
 | flt y=>obtain⟨t,q⟩:=(show ∃ t,u=Value.float y t from b);cases q;show⟨_,PySem.W.kitx_float,YQ,(λz=>nomatch z)⟩
 | @lst a xs ea =>
  cases (show u=Value.ref a from b);obtain⟨_,_,n,_,h1⟩:=(show ObjOk X.prog X.w H s.heap a (.lst xs) from I.hok a _ ea);show⟨_,PySem.W.kitx_list,⟨_,h1,rfl⟩,(λz=>nomatch z)⟩
 | @frz a ob xs ea =>
  cases (show u=Value.ref a from b);obtain⟨_,_,_,n,_,h1⟩:=(show ObjOk X.prog X.w H s.heap a (.frz ob (.lst xs)) from I.hok a _ ea);show⟨_,PySem.W.kitx_list,⟨_,h1,rfl⟩,(λz=>nomatch z)⟩
 | @tup a xs ea =>
  cases (show u=Value.ref a from b);obtain⟨_,_,_,p⟩:=(show ObjOk X.prog X.w H s.heap a (.tup xs) from I.hok a _ ea);obtain⟨o,h1,c,_⟩:=p;show⟨_,PySem.W.kitx_tuple,⟨o,h1,c⟩,(λz=>nomatch z)⟩
 | @dK a kvs ea =>
  cases (show u=Value.ref a from b);obtain⟨_,_,vs,_,p⟩:=(show ObjOk X.prog X.w H s.heap a (.dK kvs) from I.hok a _ ea);obtain⟨o,es,ep,h1,c,_⟩:=p;show⟨_,PySem.W.kitx_dict,⟨o,h1,c.1⟩,(λz=>nomatch z)⟩
 | @dT a kvs ea =>
  cases (show u=Value.ref a from b);obtain⟨_,_,xs,_,o,es,ep,h1,c,_⟩:=(show ObjOk X.prog X.w H s.heap a (.dT kvs) from I.hok a _ ea);show⟨_,PySem.W.kitx_dict,⟨o,h1,c.1⟩,(λz=>nomatch z)⟩
 | @ins a C dx fs ea cl ha hn htk hm =>
  cases (show u=Value.ref a from b);obtain⟨d,O,_⟩:=qbY I.hok ea;obtain⟨od,J,_⟩:=O.look;show⟨_,PySem.W.kitx_own (cl.get _) cl.hd ha hn htk hm,J,(λz=>nomatch z)⟩
end
section
variable{X:Cx}
theorem qcB:∀{ys:List V} {a us:List Value},ys.map qdU=a.map some->Vals ys us->us=a
 | [],[],_,_,.nil=>rfl
 | [],_::_,_,h,_=>by cases h
 | y::ys,[],_,h,_=>by cases h
 | y::ys,c::a,_,h,.cons r t=>by
  rw[Ys,Ys] at h
  injection h with h1 h2
  rw[qc0 h1 r,qcB h2 t]
theorem qeM:∀{bs:List Bool} {us:List Value},Vals (bs.map V.bl) us->us=bs.map Value.bool
 | [],_,.nil=>rfl
 | b::bs,_,.cons r t=>by
  have e:=qeM t;rw[e];cases r;rfl
def qiB(K:yh):List V->Hp->VK->Prop:=λxs H Q=>∃(p:Addr) (bs:List Bool),xs=[.ref p]/\SqL K H p (bs.map V.bl)/\Q (.bl (bs.all id)) H
theorem call_all(hc:X.calm=true):zR X (.builtin "all") (qiB X.K):=by
 intro pins s σ H xs us Q I r h;obtain⟨p,bs,rfl,n,q⟩:=h;obtain⟨u,rfl,w⟩:=qbX r;cases w;obtain⟨its,x,pl,y⟩:=I.list n;have e:=qeM x;subst e;have j:X.A.in1.handled=none:=I.ok.hd hc;show call_all_walk (X9 pl.isList ?_)
 have f:p≠s.heap.objs.size:=by
  obtain⟨o,m,_⟩:=pl.isList;show Yj (yO m)
 show⟨s.heap.objs.size,_,_,_,_,_,λi=>(bs[i]?).getD false,rfl,Walks.list j s.heap.objs.size p f (bs.map Value.bool).toArray,⟨⟨_,yS _ rfl,rfl,rfl⟩,pl.isList.at λo e=>yv _ e⟩,λi v s Q E hv t=>?_,λh' tk l=>?_⟩
 .have a:(bs.map Value.bool)[i]?=some v:=by simpa using hv
  rw[ye] at a
  cases e:bs[i]? with
  | none=>rw[e] at a;cases a
  | some b =>
   rw[e] at a;cases a;have c:Q ((bs[i]?).getD false) s:=t;rw[e] at c;show yA c
 .have e:((List.range (bs.map Value.bool).toArray.size).all λi=>(bs[i]?).getD false)=bs.all id:=by
   rw[yB,ya]
   have key:∀ bs:List Bool,((List.range bs.length).all λi=>(bs[i]?).getD false)=bs.all id:=by
    intro bs
    induction bs with
    | nil=>rfl
    | cons b r ih =>
     rw[Yk,List.range_succ_eq_map,Xy,kc,Xy,<- ih];rfl
   show key bs
  rw[e];show⟨.bl _,H,?_,rfl,q⟩;have g:Inv X pins σ H { s with heap:=s.heap.push { cls:=.type "list_iterator",data:=.fields #[.ref p,.int 0 0] } }:=I.kept (t':=s.toks) λb o e=>yv _ e;have d:=I.fpOk (b:=s.heap.objs.size) (yi _) (I.hok.fresh (yi _));show g.turned (it:=s.heap.objs.size) (h':=h') (t':=tk) (λb o hb e=>l b o (by simpa using hb) e) d.1 d.2.1 d.2.2.2.1 d.2.2.2.2.1 d.2.2.2.2.2
theorem op_le_str:OpR X (compareOp .LtE) (λx y H Q=>∃ i j,x=.str i/\y=.str j/\Q (.bl (!decide (j.cps.toList<i.cps.toList))) H):=by
 intro pins s σ H x y v u Q I a b h;obtain⟨i,j,rfl,rfl,q⟩:=h;obtain⟨t,rfl⟩:=a;obtain⟨t',rfl⟩:=b;show PySem.P.le_str (qeC I q (by rfl))
def qim:R2:=λx y H Q=>match x,y with
 | .int i,.int j=>Q (.bl (decide (i<=j))) H
 | .str i,.str j=>Q (.bl (!decide (j.cps.toList<i.cps.toList))) H
 | _,_=>False
theorem qgp:OpR X (compareOp .LtE) qim:=by
 intro pins s σ H x y v u Q I a b h
 cases x with
 | int i=>cases y with
  | int j=>show op_le pins s σ H _ _ v u Q I a b ⟨i,j,rfl,rfl,h⟩
  | _=>show False.elim h
 | str i=>cases y with
  | str j=>show op_le_str pins s σ H _ _ v u Q I a b ⟨i,j,rfl,rfl,h⟩
  | _=>show False.elim h
 | _=>show False.elim h
theorem op_is_bl:OpR X (compareOp .Is) (λx y H Q=>∃ i j,x=.bl i/\y=.bl j/\Q (.bl (i==j)) H):=by
 intro pins s σ H x y v u Q I a b h;obtain⟨i,j,rfl,rfl,q⟩:=h;cases a;cases b;show wpAny_is_plain (by cases i<;>cases j<;>rfl) (qeC I q (by cases i<;>cases j<;>rfl))
def qin:R2:=λx y H Q=>match x,y with
 | .bl i,.bl j=>Q (.bl (i==j)) H
 | x,.non=>Q (.bl (decide (x=.non))) H
 | _,_=>False
theorem u_is:OpR X (compareOp .Is) qin:=by
 intro pins s σ H x y v u Q I a b h
 cases y with
 | non=>show op_isN pins s σ H x _ v u Q I a b ⟨rfl,by cases x<;>show h⟩
 | bl j=>cases x with
  | bl i=>show op_is_bl pins s σ H _ _ v u Q I a b ⟨i,j,rfl,rfl,h⟩
  | _=>show False.elim h
 | _=>cases x<;>show False.elim h
theorem op_rep_str:OpR X (binaryOp .Mult) (λx y H Q=>∃ z k,x=.str z/\y=.int k/\MulOk z k/\Q (.str (Txt.mul z k)) H):=by
 intro pins s σ H x y v u Q I b c h;obtain⟨z,k,rfl,rfl,a,q⟩:=h;obtain⟨t,rfl⟩:=b;obtain⟨t',rfl⟩:=c;show SB.mul a λt' k'=>⟨.str _,H,I.tok _,⟨_,rfl⟩,q⟩
def qgB:R2:=λx y H Q=>match x,y with
 | .int i,.int j=>CMul i j/\Q (.int (i*j)) H
 | .str z,.int k=>MulOk z k/\Q (.str (Txt.mul z k)) H
 | .ref a,.int k=>rRep (.ref a) (.int k) H Q
 | _,_=>False
theorem qdV:OpR X (binaryOp .Mult) qgB:=by
 intro pins s σ H x y v u Q I b c h
 cases y with
 | int j=>cases x with
  | int i=>show op_mul pins s σ H _ _ v u Q I b c ⟨i,j,rfl,rfl,h.1,h.2⟩
  | str i=>show op_rep_str pins s σ H _ _ v u Q I b c ⟨i,j,rfl,rfl,h.1,h.2⟩
  | ref a=>show qgP pins s σ H _ _ v u Q I b c h
  | _=>show False.elim h
 | _=>cases x<;>show False.elim h
def qgC(K:yh):R2:=λx y H Q=>match x,y with
 | .int i,.int j=>Q (.int (i+j)) H
 | .str i,.str j=>i.length+j.length<=sizeLine/\Q (.str (i++j)) H
 | .ref a,.ref b=>rCat (.ref a) (.ref b) H Q\/rCatT K (.ref a) (.ref b) H Q
 | _,_=>False
theorem u_add:OpR X (binaryOp .Add) (qgC X.K):=by
 intro pins s σ H x y v u Q I c d h
 cases x with
 | int i=>cases y with
  | int j=>show op_add pins s σ H _ _ v u Q I c d ⟨i,j,rfl,rfl,h⟩
  | _=>show False.elim h
 | str i=>cases y with
  | str j=>show op_add_str pins s σ H _ _ v u Q I c d ⟨i,j,rfl,rfl,h.1,h.2⟩
  | _=>show False.elim h
 | ref a=>cases y with
  | ref b=>show h.elim (λh=>op_cat pins s σ H _ _ v u Q I c d h) λh=>op_catT pins s σ H _ _ v u Q I c d h
  | _=>show False.elim h
 | _=>show False.elim h
def qeh(K:yh):List V->Hp->VK->Prop:=λxs H Q=>match xs with
 | [.str z]=>z.length<=sizeLine/\Q (.int z.length) H
 | [.ref p]=>(∃ ys,(SqL K H p ys\/SqT K H p ys)/\Q (.int ys.length) H)\/∃ kvs,H p=some (.dK kvs)/\Q (.int kvs.length) H
 | _=>False
theorem call_lenU:zR X (.builtin "len") (qeh X.K):=by
 intro pins s σ H xs us Q I r h
 match xs,h with
 | [.str z],h=>show call_len_str pins s σ H _ us Q I r ⟨z,rfl,h.1,h.2⟩
 | [.ref p],.inl ⟨ys,h,q⟩=>show call_len_seq pins s σ H _ us Q I r ⟨p,ys,rfl,h,q⟩
 | [.ref p],.inr ⟨kvs,h,q⟩=>show call_lenD pins s σ H _ us Q I r ⟨p,kvs,rfl,h,q⟩
theorem sl_str:SlR X (λx lo c H Q=>∃ z,x=.str z/\z.length<=sizeLine/\Q (.str (Txt.slice z lo c)) H):=by
 intro pins s σ H x v g m lo c f Q I e a pl d h;obtain⟨z,rfl,b,q⟩:=h;obtain⟨t,rfl⟩:=e;show⟨"str",_,F.slot_str_getitem.lookup,typeIs_str _ _ _,?_⟩
 cases pl with
 | none =>
  cases d with
  | none=>show Xn (l:=none) (u:=none) (st:=none) a rfl (kB ⟨yj (Ke z _ _) b,λt' k=>⟨.str _,H,I.tok _,⟨_,rfl⟩,q⟩⟩)
  | int j uj=>show Xn (l:=none) (u:=some (j,uj)) (st:=none) a rfl (kB ⟨yj (Ke z _ _) b,λt' k=>⟨.str _,H,I.tok _,⟨_,rfl⟩,q⟩⟩)
 | int i ui =>
  cases d with
  | none=>show Xn (l:=some (i,ui)) (u:=none) (st:=none) a rfl (kB ⟨yj (Ke z _ _) b,λt' k=>⟨.str _,H,I.tok _,⟨_,rfl⟩,q⟩⟩)
  | int j uj=>show Xn (l:=some (i,ui)) (u:=some (j,uj)) (st:=none) a rfl (kB ⟨yj (Ke z _ _) b,λt' k=>⟨.str _,H,I.tok _,⟨_,rfl⟩,q⟩⟩)
def qhX(K:yh):V->Option Int->Option Int->Hp->VK->Prop:=λx lo b H Q=>match x with
 | .str z=>z.length<=sizeLine/\Q (.str (Txt.slice z lo b)) H
 | .ref a=>rSlL K (.ref a) lo b H Q\/rSlT K (.ref a) lo b H Q
 | _=>False
theorem u_sl:SlR X (qhX X.K):=by
 intro pins s σ H x v g i lo b f Q I e c pl d h
 cases x with
 | str z=>show sl_str pins s σ H _ v g i lo b f Q I e c pl d ⟨z,rfl,h.1,h.2⟩
 | ref a=>show h.elim (λh=>sl_list pins s σ H _ v g i lo b f Q I e c pl d h) λh=>sl_tup pins s σ H _ v g i lo b f Q I e c pl d h
 | _=>show False.elim h
theorem qfI:∀{ys:LS} {us:List Value},Vals (ys.map V.str) us->StrsAre us ys
 | [],_,.nil=>.nil
 | y::ys,_,.cons r t=>by
  obtain⟨tk,rfl⟩:=r;show .cons y tk (qfI t)
def qid(K:yh)(te:TE):TI:=fun σ H R=>te σ H λv b=>match v with
 | .str x=>R (Its x) b
 | .ref a=>((∃ xs,SqL K b a xs)/\R (Itl K a) b)\/((∃ xs,SqT K b a xs)/\R (Itt K a) b)
 | _=>False
theorem pi_any{e:Expr}(u:PE X e te)(g:∀ it v,letOwnedTupleGo tg it v=pure ():=by intro _ _;rfl):PI X tg e (qid X.K te):=by
 intro pins s σ H R I h;show thn (u pins s σ H _ I h) λv c ⟨y,f,d,r,j⟩=>?_
 cases y with
 | str x =>
  obtain⟨t,rfl⟩:=r
  have fp:∀ b∈[c.heap.objs.size],qea X pins f b:=λb hb=>by
   have e:b=c.heap.objs.size:=by simpa using hb
   subst e;show d.fpOk (yi _) (d.hok.fresh (yi _))
  cases n:x.cps.all (· < 128)
  .show wpAny_pyIter_wide n ⟨c.heap.objs.size,[c.heap.objs.size],_,_,f,rfl,d.kept (t':=c.toks) λb o e=>yv _ e,
    qeK (T:="str_iterator") (λA l=>Walks.strWide l _ x t) (λA i s Q E st h=>wpAny_pyIter_striter_wide st h) (g _),⟨_,yS _ rfl,rfl,rfl⟩,fp,j⟩
  .show wpAny_pyIter_ascii n ⟨c.heap.objs.size,[c.heap.objs.size],_,_,f,rfl,d.kept (t':=c.toks) λb o e=>yv _ e,
    qeK (T:="str_ascii_iterator") (λA l=>Walks.strAscii l _ x t) (λA i s Q E st h=>wpAny_pyIter_striter_ascii st h) (g _),⟨_,yS _ rfl,rfl,rfl⟩,fp,j⟩
 | ref a =>
  cases r
  have fp:∀ b∈[c.heap.objs.size],qea X pins f b:=λb hb=>by
   have e:b=c.heap.objs.size:=by simpa using hb
   subst e;show d.fpOk (yi _) (d.hok.fresh (yi _))
  rcases j with⟨⟨xs,m⟩,q⟩ | ⟨⟨xs,m⟩,q⟩
  .obtain⟨its,z,p,w⟩:=d.list m;show X9 p.isList ⟨c.heap.objs.size,[c.heap.objs.size],_,_,f,rfl,d.kept (t':=c.toks) λb o e=>yv _ e,qdD a _,⟨_,yS _ rfl,rfl,rfl⟩,fp,q⟩
  .obtain⟨its,z,p,w⟩:=d.tuple m;show wpAny_pyIter_tuple (show c.heap.IsTuple a its.toArray from p) ⟨c.heap.objs.size,[c.heap.objs.size],_,_,f,rfl,d.kept (t':=c.toks) λb o e=>yv _ e,turn_tuple a _,⟨_,yS _ rfl,rfl,rfl⟩,fp,q⟩
 | _=>show False.elim j
end
section
variable{D:Ends}{σ:St}{H:Hp}{Q:VK}{QT:Bool->Hp->Prop}{QA:List V->Hp->Prop}{t u:TS}{te ta tb tc:TE}{c c':TT}{tr tas:TA}{r r':R2}{K:yh}
theorem vSeq(h:t { D with nx:=u D } σ H):qhE t u D σ H:=h
theorem vAsg{i:Nat}(h:te σ H λx a=>D.nx (σ.set i (some x)) a):qhF te (qcR i) D σ H:=h
theorem vAsgS{to a:TE}{s:qhP}(h:te σ H λx b=>to σ b λo c=>a σ c λi d=>s o i x d λe=>D.nx σ e):qhF te (qiv to a s) D σ H:=h
theorem vIfS(h:c σ H λb a=>if b=true then t D σ a else u D σ a):qit c t u D σ H:=h
theorem vRet(h:te σ H D.rt):qig te D σ H:=h
theorem vRetN(h:D.rt .non H):tRetN D σ H:=h
theorem vDrop(h:te σ H λ_ a=>D.nx σ a):qhO te D σ H:=h
theorem vNext(h:D.nx σ H):qhN D σ H:=h
theorem vC(h:Q v H):tC v σ H Q:=h
theorem vVar{i:Nat}(e:σ[i]?=some (some v))(h:Q v H):qfq i σ H Q:=⟨v,e,h⟩
theorem vOp(h:ta σ H λx a=>tb σ a λy b=>r x y b Q):tOp r ta tb σ H Q:=h
theorem vUn{f:V->Hp->VK->Prop}(h:ta σ H λx a=>f x a Q):tUn f ta σ H Q:=h
theorem vChain(h:ta σ H λx b=>tb σ b λy c=>r x y c λz a=>∃ k,z=.bl k/\if k=true then tc σ a λe d=>r' y e d Q else Q (.bl false) a):qfv r r' ta tb tc σ H Q:=h
theorem vNil(h:QA [] H):qfr σ H QA:=h
theorem vCons(h:ta σ H λx a=>tr σ a λxs b=>QA (x::xs) b):zb ta tr σ H QA:=h
theorem vCB{f:List V->Hp->VK->Prop}(h:tas σ H λvs a=>f vs a Q):tCB f tas σ H Q:=h
theorem vCall{E:XK}(h:tas σ H λvs a=>sp (vs++[]) a Q E):qfg sp [] E tas σ H Q:=h
theorem vLst(h:tas σ H λxs a=>NewL xs a Q):qiz tas σ H Q:=h
theorem vTup(h:tas σ H λxs a=>NewT xs a Q):qiy tas σ H Q:=h
theorem vTest(h:te σ H λx H'=>∃ k,x=.bl k/\QT k H'):qgw te σ H QT:=h
theorem vB(h:te σ H λx H'=>∃ k,x=.bl k/\QT k H'):tB te σ H QT:=h
theorem vNot(h:c σ H λb a=>QT (!b) a):qir c σ H QT:=h
theorem vAnd(h:c σ H λb a=>if b=true then c' σ a QT else QT false a):qiq c c' σ H QT:=h
theorem vOr(h:c σ H λb a=>if b=true then QT true a else c' σ a QT):tOr c c' σ H QT:=h
theorem vAndV(h:ta σ H λx a=>∃ k,x=.bl k/\if k=true then tb σ a Q else Q (.bl false) a):qhK ta tb σ H Q:=h
theorem vOrV(h:ta σ H λx a=>∃ k,x=.bl k/\if k=true then Q (.bl true) a else tb σ a Q):qis ta tb σ H Q:=h
theorem vNotV(h:ta σ H λx a=>∃ k,x=.bl k/\Q (.bl (!k)) a):qhL ta σ H Q:=h
theorem vIf(h:c σ H λb a=>if b=true then ta σ a Q else tb σ a Q):tIf c ta tb σ H Q:=h
theorem vYes(h:QT true H):qiA σ H QT:=h
theorem vI0{g:Int->Int->V}(h:Q (g i j) H):rI0 g (.int i) (.int j) H Q:=⟨i,j,rfl,rfl,h⟩
theorem vI{C:Int->Int->Prop}{g:Int->Int->V}(hc:C i j)(h:Q (g i j) H):rI C g (.int i) (.int j) H Q:=⟨i,j,rfl,rfl,hc,h⟩
theorem vU{g:Int->V}(h:Q (g i) H):rU g (.int i) H Q:=⟨i,rfl,h⟩
theorem vEqI(h:Q (.bl (decide (i=j))) H):rEq (.int i) (.int j) H Q:=⟨rfl,by
 have e:decide (V.int i=V.int j)=decide (i=j):=by
  by_cases h:i=j
  .subst h;simp
  .rw [ym h,ym (λe=>h (V.int.inj e))]
 rw[e];show h⟩
theorem vEqB{i j:Bool}(h:Q (.bl (i==j)) H):rEq (.bl i) (.bl j) H Q:=⟨rfl,by rw[dec_bl];show h⟩
theorem qch(b:H p=some (.lst xs))(a:atI xs i=some v)(h:Q v H):rIx K (.ref p) (.int i) H Q:=.inl ⟨p,xs,i,v,rfl,rfl,SqL.of b,a,h⟩
theorem vIxLs(b:SqL K H p xs)(a:atI xs i=some v)(h:Q v H):rIx K (.ref p) (.int i) H Q:=.inl ⟨p,xs,i,v,rfl,rfl,b,a,h⟩
theorem qbU(b:H p=some (.tup xs))(a:atI xs i=some v)(h:Q v H):rIx K (.ref p) (.int i) H Q:=.inr (.inl ⟨p,xs,i,v,rfl,rfl,SqT.of b,a,h⟩)
theorem qiC{ch:Nat}(b:z.length<=sizeLine)(a:atI z.cps.toList i=some ch)(h:Q (.str ⟨#[ch]⟩) H):rIx K (.str z) (.int i) H Q:=.inr (.inr ⟨z,i,ch,rfl,rfl,b,a,h⟩)
theorem qhv{k:Int}{j:Nat}{a:Hp->Prop}(c:H p=some (.lst xs))(b:ixN xs.length k=some j)(h:a (upd H p (.lst (xs.set j v)))):rSetL (.ref p) (.int k) v H a:=⟨p,xs,k,j,rfl,rfl,c,b,h⟩
theorem vEx{k:Bool}{P:Bool->Prop}(h:P k):∃ k',V.bl k=.bl k'/\P k':=⟨k,rfl,h⟩
theorem vLeI(h:Q (.bl (decide (i<=j))) H):qim (.int i) (.int j) H Q:=h
theorem vLeS{i j:Str}(h:Q (.bl (!decide (j.cps.toList<i.cps.toList))) H):qim (.str i) (.str j) H Q:=h
theorem vIsB{i j:Bool}(h:Q (.bl (i==j)) H):qin (.bl i) (.bl j) H Q:=h
theorem vAddI(h:Q (.int (i+j)) H):qgC K (.int i) (.int j) H Q:=h
theorem qhY{i j:Str}(a:i.length+j.length<=sizeLine)(h:Q (.str (i++j)) H):qgC K (.str i) (.str j) H Q:=⟨a,h⟩
theorem qfk(hc:CMul i j)(h:Q (.int (i*j)) H):qgB (.int i) (.int j) H Q:=⟨hc,h⟩
theorem qhZ(a:z.length<=sizeLine)(h:Q (.int z.length) H):qeh K [.str z] H Q:=⟨a,h⟩
theorem zK(a:H p=some (.lst ys))(h:Q (.int ys.length) H):qeh K [.ref p] H Q:=.inl ⟨ys,.inl (SqL.of a),h⟩
theorem vLenLs(a:SqL K H p ys)(h:Q (.int ys.length) H):qeh K [.ref p] H Q:=.inl ⟨ys,.inl a,h⟩
theorem qhw(a:H p=some (.tup ys))(h:Q (.int ys.length) H):qeh K [.ref p] H Q:=.inl ⟨ys,.inr (SqT.of a),h⟩
theorem qiD{lo a:Option Int}(b:z.length<=sizeLine)(h:Q (.str (Txt.slice z lo a)) H):qhX K (.str z) lo a H Q:=⟨b,h⟩
theorem vSl{f:V->Option Int->Option Int->Hp->VK->Prop}{tl a:TO}(h:te σ H λx b=>tl σ b λl c=>a σ c λu d=>f x l u d Q):tSl f te tl a σ H Q:=h
theorem vNoPart(h:QO none H):qda σ H QO:=h
theorem vPart(h:te σ H λx a=>∃ i,x=.int i/\QO (some i) a):qgx te σ H QO:=h
theorem vExI{P:Int->Prop}(h:P i):∃ j,V.int i=.int j/\P j:=⟨i,rfl,h⟩
theorem vBM{f:V->List V->Hp->VK->Prop}(h:te σ H λx a=>tyV K T x a/\tas σ a λxs b=>f x xs b Q):tBM K T f te tas σ H Q:=h
theorem vBM0{f:V->List V->Hp->VK->Prop}(h:te σ H λx a=>tyV K T x a/\f x [] a Q):qij K T f te σ H Q:=h
theorem vComp(h:wi σ H λJ a=>qfj J g c te (qfs nl ixs σ) a Q):qgA wi g c te nl ixs σ H Q:=h
theorem vFor (h:wi σ H λJ d=>∃ W:Nat->Nat->St->Hp->Prop,(∃ m,W 0 m σ d)/\∀ i m σ H,W i m σ H ->
 (J.stop i H/\D.nx σ H)\/(J.go i H/\∃ N:St->Hp->Prop,(∀ a H',N a H'->∃ c,c<m/\W (i+1) c a H')/\∀ x H',J.yld i H x H'->g x σ H' λb e=>t { D with nx:=N,ct:=N,bk:=D.nx } b e)):qiw wi g t D σ H:=h
theorem vRng1(h:tas σ H λvs a=>∃ j:Int,vs=[.int j]/\-(2 ^ 62)<=j/\j<2 ^ 62/\R (Itr 0 j.toNat) a):qhQ tas σ H R:=h
theorem vAny (h:te σ H λv b=>match v with
 | .str x=>R (Its x) b
 | .ref a=>((∃ xs,SqL K b a xs)/\R (Itl K a) b)\/((∃ xs,SqT K b a xs)/\R (Itt K a) b)
 | _=>False):qid K te σ H R:=h
theorem vGN{i:Nat}{a:St->Hp->Prop}(h:a (σ.set i (some v)) H):qcR i v σ H a:=h
end
section
variable{X:Cx}{K:yh}{o e:Expr}{es:List Expr}{to ta:TE}{t:TA}{name f:Str}{apos cpos pos:Pos}{T id:String}{r:V->List V->Hp->VK->Prop}{tg:Expr}
theorem j8(a:X.K=K):zR X (.builtin "len") (qeh K):=by subst a;show call_lenU
theorem qdW(a:X.K=K)(hc:X.calm=true):zR X (.builtin "all") (qiB K):=by subst a;show call_all hc
theorem qhG(a:X.K=K):SlR X (qhX K):=by subst a;show u_sl
theorem qaN(a:X.K=K):OpR X (binaryOp .Add) (qgC K):=by subst a;show u_add
theorem qL(b:X.K=K)(c:PE X e ta)(a:∀ it v,letOwnedTupleGo tg it v=pure ():=by intro _ _;rfl):PI X tg e (qid K ta):=by subst b;show pi_any c a
theorem qh0(e:X.K=K)(h:PlainAttrs T)(c:Slot T name id)(d:typeOf (.builtin id)=pure (.type "method_descriptor"))(f:MtR X id r)(g:PE X o to)
  (a:attributeBase o name X.env (eval o X.env)=eval o X.env:=by rfl) (b:(apos.endLine==cpos.line)=true:=by rfl):PE X (.Call (.Attribute o name apos) [] [] cpos) (qij K T r to):=by
 subst e;show pe_bm0 h c d f g a b
theorem qeb(h:X.K=K)(n:PlainAttrs T)(f:Slot T name id)(g:typeOf (.builtin id)=pure (.type "method_descriptor"))(j:MtR X id r)(l:PE X o to)(i:PA X (e::es) t)
  (b:attributeBase o name X.env (eval o X.env)=eval o X.env:=by rfl)
  (d:((backTo cpos (starEach (e::es) X.env)).all (λx=>!x.1)&&(backToKw cpos (keywordEach [] X.env)).all (λx=>x.1.isSome)
   && decide ((e::es).length+([]:List Keyword).length+(if ([]:List Keyword).isEmpty then 0 else 1)<30))=true:=by rfl)
  (c:(apos.endLine==cpos.line)=true:=by rfl) (m:starEach (e::es) X.env=(false,eval e X.env)::starEach es X.env:=by rfl) (a:(backTo cpos (starEach es X.env)).any (·.1)=false:=by rfl) :
  PE X (.Call (.Attribute o name apos) (e::es) [] cpos) (tBM K T r to t):=by
 subst h;show pe_bm n f g j l i b d c m a
end
structure DefOk(P:Program)(w:World)(K:yh)(mg:Str->Option Value)(base:Heap)(CX:CXT)(k:Nat)(x:Str)(ps:LS)(sp:Sp):Prop where
 ex:∃ f fd,FnOk P w K mg base CX k f fd ps sp/\mg x=some (.ref f)/\PySem.W.keepIn K (.ref f)=true/\Binds K fd ps []
section
variable{X:Cx}{CX:CXT}{k:Nat}{ps:LS}{sp:Sp}{E:XK}{x:Str}{p pos:Pos}{e:Expr}{es:List Expr}{t:TA}
theorem qm(D:DefOk X.prog X.w X.K X.mg X.base CX k x ps sp)(j:Room k X.A)(l:qaQ CX X E)(c:PA X (e::es) t)(g:Gl X x:=by rfl)(a:(x==("__debug__":Str))=false:=by decide)
  (d:starEach (e::es) X.env=(false,eval e X.env)::starEach es X.env:=by rfl) (b:(backTo pos (starEach es X.env)).any (·.1)=false:=by rfl):PE X (.Call (.Name x p) (e::es) [] pos) (qfg sp [] E t):=by
 obtain⟨f,fd,F,i,h,hb⟩:=D.ex;show pe_call F j g i h hb .nil l c a d b
theorem qaz(c:Gl X x)(a:∃ tk,X.mg x=some (.int i tk))(b:(x==("__debug__":Str))=false:=by decide):PE X (.Name x pos) (tC (.int i)):=by
 obtain⟨tk,a⟩:=a;show qbW c a ⟨tk,rfl⟩ b
end
def qgq(t c:String):Bool:=t==c||(t=="bool"&&c=="int")
theorem jQ(K:yh):∀ t∈wqM,∀ c∈["bool","int","str","list","tuple","dict"],PySem.W.kitOne K (.type t) (.type c)=some (qgq t c):=by
 intro t a c hc;simp only[yF,yW,YT] at a hc;rcases a with rfl | rfl | rfl | rfl | rfl | rfl | rfl<;>rcases hc with rfl | rfl | rfl | rfl | rfl | rfl<;>rfl
def qdz:List Value->Bool
 | [.type a,.type b,.type c,.type d]=>a=="ValueError"&&b=="Exception"&&c=="BaseException"&&d=="object"
 | .ref _::r=>qdz r
 | _=>false
def qie(K:yh)(C:Addr):Bool:=match K.lookup C with
 | some ⟨.type "type",_,.cls cd,sl⟩=>(match cd.mro,sl.toList with
  | .ref D::bm,[_,_,_,_,some (.builtin n),_]=>D==C&&!cd.hasDel&&qdz bm&&n=="ValueError.__new__"
  | _,_=>false)
 | _=>false
theorem qeN{K:yh}(X:K.In h)(q:qie K C=true):∃ nm o N bs c b p a d col e f g i j m,
  h.get? C=some (excClassObj nm o C N bs c b p a d col e f g i j m "ValueError.__new__")/\qdz c=true:=by
 unfold qie at q;split at q
 .rename_i e cd sl ho
  split at q
  .rename_i D c f g i j n m hm hs
   simp only[Yl,Yo,Y6] at q;obtain⟨⟨⟨t,r⟩,u⟩,v⟩:=q;subst t v;obtain⟨nm,bs,mro,ns,o,w,p,a,d,col,s⟩:=cd;dsimp only at hm r;subst hm r;obtain⟨l⟩:=sl;dsimp only at hs;subst hs;show⟨nm,o,ns,bs,c,w,p,a,d,col,e,f,g,i,j,m,X _ _ ho,u⟩
  .cases q
 .cases q
structure XAt(K:yh)(C:Addr):Prop where
 ga:PySem.W.findIn K (.ref C) "__getattribute__"=some (some (.builtin "BaseException.__getattribute__"))
 gn:PySem.W.findIn K (.ref C) "__getattr__"=some none
 bx:PySem.W.mroIn K C (.type "BaseException")=some true
 ob:PySem.W.mroIn K C (.type "object")=some true
 hd:PySem.W.hasDictIn K C=true
 cl:PySem.W.findIn K (.ref C) "__class__"=some (some (.builtin "object.__class__"))
 cg:PySem.W.specialIn K (.builtin "object.__class__") "__get__"=some (some (.builtin "getset_descriptor.__get__"))
 ct:PySem.W.takesIn K (.builtin "object.__class__")=some true
 sa:PySem.W.findIn K (.ref C) "__setattr__"=some (some (.builtin "object.__setattr__"))
 mr:(PySem.W.clsIn K C).any (λcd=>qdz cd.mro)=true
 xc:qie K C=true
theorem bexc_ga_slot:Slot "ValueError" "__getattribute__" "BaseException.__getattribute__":=PySem.F.attr_ValueError.ga
section
variable{prog:Program}{w:World}{A:Around}{E:Value->Shared->Prop}{s:Shared}{K:yh}{x C:Addr}{ox:Obj}{od:Option Obj}{name:Str}{v:Value}
theorem xga_value{Q:Fin->Shared->Prop}(X:K.In s.heap)(I:PySem.W.InstAt s.heap x ox C od)(a:PySem.W.findObj K C od name=some (.value v))(h:Q (.done (.ret v)) s) :
  wpAny (model prog w) A (Builtin.«object.__getattribute__» ⟨[.ref x,.str name tk],[]⟩) Q E s:=by
 have F:=PySem.W.looks_find (M:=model prog w) X I a;show yt (yA (yt (yA (yt (I.type.here (yt (F.here ?_)))))));show yA h
theorem xga_call{R:Result->Shared->Prop}(X:K.In s.heap)(I:PySem.W.InstAt s.heap x ox C od)(hb:PySem.W.mroIn K C (.type "BaseException")=some true)
  (h:wpAny (model prog w) A.in1 (Builtin.«object.__getattribute__» ⟨[.ref x,.str name tk],[]⟩) (λa s'=>match a with | .done f=>R (.ok f) s' | .again c'=>c'.quiet=true/\codeAny (model prog w) A c' R s') (λe s'=>R (.error e) s') s) :
  codeAny (model prog w) A (.call (.builtin "BaseException.__getattribute__") ⟨[.ref x,.str name tk],[]⟩) R s:=by
 show Y9 bexc_ga_slot.plain PySem.F.entry_bexc_ga ?_;show @PySem.W.check_slot (model prog w) _ _ s "BaseException.__getattribute__" "BaseException" "__getattribute__" (.ref x) [.str name tk] [] _ (by room) (by room) (I.type.andThen (xG X hb)) (PySem.F.args_bexc_ga _ _) h
theorem qfJ{b:Bool}{Q:Value->Shared->Prop}(X:K.In s.heap)(I:PySem.W.InstAt s.heap x ox C od)(c:XAt K C)
  (h:wpAny (model prog w) A.in1 (Builtin.«object.__getattribute__» ⟨[.ref x,.str name tk],[]⟩) (λa s'=>match a with | .done (.ret v)=>wpAny (model prog w) A (handedOut v) Q E s' | _=>False) (λ_ _=>False) s) :
  wpAny (model prog w) A (getAttrBy (.ref x) (.str name tk) b expr) Q E s:=by
 unfold getAttrBy;show YG (yt (I.type.here (yt ((YN X c.ga).here ?_))))
 have d:(onTheHeap (Value.ref C)&&Value.builtin "BaseException.__getattribute__"==Value.builtin "object.__getattribute__")=false:=by
  rw[show(Value.builtin "BaseException.__getattribute__"==Value.builtin "object.__getattribute__")=false by room];rfl
 dsimp only;rw[d,yE (by decide)];unfold getAttrByItsOwn hookBefore;rw[yH (show onTheHeap (Value.ref C)=true from rfl)];show yt ((YN X c.gn).here (yt (wpAny_attempt (YG ?_))));have e:(expr&&onTheHeap (Value.builtin "BaseException.__getattribute__"))=false:=by cases expr<;>rfl
 unfold callGetattribute;rw[e,yE (by decide)];unfold boundAndCalled;rw[bexc_ga_slot.bind];show yt (yA ?_);show wpAny _ _ (call (.builtin "BaseException.__getattribute__") [.ref x,.str name tk]) _ _ _;show xP (xga_call X I c.bx (Yx h (λa s' z=>?_) λ_ _ z=>z.elim));rcases a with(_ | _ | _ | _) | _<;>first | show z | show z.elim
theorem xget{Q:Value->Shared->Prop}(X:K.In s.heap)(I:PySem.W.InstAt s.heap x ox C od)(c:XAt K C)(a:PySem.W.findObj K C od name=some (.value v))(b:PySem.W.handedIn v=true)
  (h:Q v { s with toks:=s.toks+1 }):wpAny (model prog w) A (getAttr (.ref x) name expr) Q E s:=by
 unfold getAttr;show yt (wpAny_mkText (qfJ (s:={ s with toks:=s.toks+1 }) X I c (xga_value (s:={ s with toks:=s.toks+1 }) X I a ?_)));show wpAny _ _ (handedOut v) _ _ _;rw[PySem.W.handedOut_of b];show yA h
theorem xclass{Q:Option Value->Shared->Prop}(X:K.In s.heap)(I:PySem.W.InstAt s.heap x ox C od)(c:XAt K C)(a:PySem.W.findObj K C od "__class__"=some (.bind (.builtin "getset_descriptor.__get__") (.builtin "object.__class__")))
  (h:Q (some (.ref C)) { s with toks:=s.toks+1 }):wpAny (model prog w) A (getAttr? (.ref x) "__class__") Q E s:=by
 unfold getAttr? getAttrBy?;show yt (wpAny_mkText (yt (wpAny_attempt (qfJ (s:={ s with toks:=s.toks+1 }) X I c ?_))));have F:=PySem.W.looks_find (M:=model prog w) X I a;show yt (yA (yt (yA (yt (I.type.here (s:={ s with toks:=s.toks+1 }) (yt (F.here (s:={ s with toks:=s.toks+1 }) ?_)))))));show wpAny _ _ (holding [Value.builtin "object.__class__"] (call (.builtin "getset_descriptor.__get__") [.builtin "object.__class__",.ref x,.ref C])>>=ret) _ _ _;show yt (YG (xP (PySem.W.class_get (s:={ s with toks:=s.toks+1 }) X I c.ob ?_)));show yA ?_;show wpAny _ _ (handedOut (.ref C)) _ _ _;show yA (yA h)
theorem findObj_class(c:XAt K C):PySem.W.findObj K C od "__class__"=some (.bind (.builtin "getset_descriptor.__get__") (.builtin "object.__class__")):=by
 obtain⟨a,hc,_⟩:=Xl c.hd;unfold PySem.W.findObj;rw[hc,Option.bind_some,c.cl,Option.bind_some];simp[c.cg,c.ct]
theorem qeO{od:Option Obj}(c:XAt K C):PySem.W.KitX K (.ref x) (.ref C) (λh=>PySem.W.InstAt h x ox C od) where
 ty:=λ_ _ _ I=>I.type
 it:=λ_ _ X _=>by
  obtain⟨b,hc,_⟩:=Xl c.hd;unfold PySem.W.clsIn at hc;split at hc
  .rename_i c1 d1 cd1 sl1 ho
   intro f i g s' k q;unfold isType loadHead;show yt (wpAny_loadPart (k _ _ (X _ _ ho)) (yA q))
  .cases hc
 ne:=λh d j its n l X a=>by
  obtain⟨b,hc,_⟩:=Xl c.hd;show kS.mpr λq=>?_;have e:C=d:=Xz (Yo.mp q);subst e;unfold PySem.W.clsIn at hc;split at hc
  .rename_i c1 d1 cd1 sl1 ho
   have z:=(X _ _ ho).symm.trans a;cases z
  .cases hc
 ca:=λX I k=>xclass X I c (findObj_class c) k
end
theorem qdX{r:List Value}(e:qdz (.ref c::r)=true):qdz r=true:=by
 cases r with
 | nil=>cases e
 | cons a r=>show e
theorem qbA:∀{l:List Value},qdz l=true->∃ f:LI,l=f.map Value.ref++[.type "ValueError",.type "Exception",.type "BaseException",.type "object"]
 | [],e=>by cases e
 | .ref c::r,e=>by
  obtain⟨f,q⟩:=qbA (qdX e);show⟨c::f,by rw[q];rfl⟩
 | .type a::r,e=>by
  match r,e with
  | [.type b,.type c,.type d],e =>
   simp only[qdz,Yl,Yo] at e;obtain⟨⟨⟨rfl,rfl⟩,rfl⟩,rfl⟩:=e;show⟨[],rfl⟩
theorem refuse_exc(self:Value)(e:qdz l=true):refuseLoop self "__setattr__" l=pure ():=by
 obtain⟨a,rfl⟩:=qbA e
 induction a with
 | nil=>show PySem.F.store_ValueError.passes self
 | cons c a ih=>rw[Ys,k9,refuseLoop_ref];show ih (qdX e)
theorem qbB(e:qdz l=true)(h:T∈wqP):l.contains (.type T)=true:=by
 obtain⟨a,rfl⟩:=qbA e;rw[List.contains_iff_mem];show yU _ ?_;simp only[yF,yW,YT] at h ⊢;rcases h with rfl | rfl | rfl | rfl<;>simp
section
variable{prog:Program}{w:World}{A:Around}{E:Value->Shared->Prop}{s:Shared}{K:yh}{x C:Addr}{name:Str}{v:Value}{R:Result->Shared->Prop}
theorem xosa{od:Option Obj}(X:K.In s.heap)(I:PySem.W.InstAt s.heap x ox C od)(c:XAt K C)(n:NoAttr K C name)
  (h:wpAny (model prog w) A.in1 (Builtin.ObjectAttr.storeInOwnDict (.ref x) (.ref C) (.str name tk) name v false)
   (λb s'=>match b with | .done f=>R (.ok f) s' | .again c'=>c'.quiet=true/\codeAny (model prog w) A c' R s') (λe s'=>R (.error e) s') s) :
  codeAny (model prog w) A (.call (.builtin "object.__setattr__") ⟨[.ref x,.str name tk,v],[]⟩) R s:=by
 have a:=PySem.F.store_object;obtain⟨d,hc,i⟩:=Xl c.mr;have g:PySem.W.Looks (model prog w) s.heap (mroOf (.ref C)) d.mro:=(kD X hc).andThen .now;show Y9 a.slot.plain a.entry (@PySem.W.check_slot (model prog w) _ _ s "object.__setattr__" "object" "__setattr__" (.ref x) [.str name tk,v] [] _ a.kind a.split (I.type.andThen (xG X c.ob)) (a.args (.ref x) (.str name tk) v) ?_);rw[PySem.W.osa_eq,refuse_eq];show yt (yt (I.type.here (yt (g.here ?_))));rw[refuse_exc _ i];show yA (yt (I.type.here (yt ((YN X n).here (yt (yA ?_))))));show h
theorem xset(X:K.In s.heap)(m:s.heap.get? x=some ⟨.ref C,none,.fields vs,#[]⟩)(c:XAt K C)(n:NoAttr K C name){Q:Unit->Shared->Prop}
  (h:∀ h',h'.get? x=some ⟨.ref C,some s.heap.objs.size,.fields vs,#[]⟩->h'.Ns1 s.heap.objs.size (λy=>if y=name then some v else none)->(∀ b o,b≠x->s.heap.get? b=some o->h'.get? b=some o) ->
   Q () { s with heap:=h',toks:=s.toks+2 }):wpAny (model prog w) A (setAttr (.ref x) name v) Q E s:=by
 have I:PySem.W.InstAt s.heap x ⟨.ref C,none,.fields vs,#[]⟩ C none:=⟨m,rfl,rfl,YQ⟩;obtain⟨J,hc,D⟩:=Xl c.hd;show PySem.W.set_plain X I c.sa (xosa (s:={ s with toks:=s.toks+1 }) X I c n ?_);show yt (yA (yt (yt (wpAny_loadPart m (yt ((kD X hc).here (s:={ s with toks:=s.toks+1 }) ?_))))));rw[D];obtain⟨a,g,L,tk,N⟩:=s;show wpAny _ _ (alloc { cls:=.type "dict",data:=.dict #[] }>>=λd=>update x (λo=>{ cls:=o.cls,dict:=some d,data:=o.data,slots:=o.slots })>>=λ_=>pure (some d)) _ _ _;have l:x≠a.objs.size:=Yj (yO m);have i:=yv { cls:=.type "dict",data:=.dict #[] } m;show yt (wpAny_alloc' (yt (wpAny_update' i (yA ?_))));have j:=xx (λo:Obj=>{ cls:=o.cls,dict:=some a.objs.size,data:=o.data,slots:=o.slots }) i rfl;have f:=(Heap.get?_update_ne (a.push { cls:=.type "dict",data:=.dict #[] }) a.objs.size x (λo:Obj=>{ cls:=o.cls,dict:=some a.objs.size,data:=o.data,slots:=o.slots }) l.symm).trans (ke rfl rfl);generalize G:(a.push { cls:=.type "dict",data:=.dict #[] }).update x (λo:Obj=>{ cls:=o.cls,dict:=some a.objs.size,data:=o.data,slots:=o.slots })=h2 at j f ⊢;have nd:h2.Ns a.objs.size (λ_=>none):=⟨_,#[],_,f,rfl,λe F=>absurd F (by simp),λ_=>rfl⟩;show wpAny _ _ (Builtin.ObjectAttr.storeInDict a.objs.size (.str name tk) name v) _ _ _;unfold Builtin.ObjectAttr.storeInDict Builtin.ObjectAttr.newKeyGuard;show yt (yA (yt (wpAny_nsSet1 (Heap.Ns1.of_empty nd) λh' u z=>?_)));obtain⟨M,p,B,t,r,q⟩:=u.count (PySem.Within.cons name v PySem.Within.nil);have H:p.size<=sizeLine:=yj q (by rw[Yk,xr,XE];lk);show yt (wpAny_lookBehind t (by rw[r];show pastItsLine_dict (Nat.le_succ_of_le H)) ?_);show yA (h h' ((z.2 x l).trans j) u λb o hb e=>(z.2 b (Yj (yO e))).trans ?_);rw[<- G];show(Heap.get?_update_ne _ _ _ _ hb).trans (yv _ e)
theorem ve_check{Q:Unit->Shared->Prop}(X:K.In s.heap)(c:XAt K C)(j:s.heap.get? x=some ox)(a:ox.cls=.ref C)(q:Q () s) :
  wpAny M A (checkBuiltinCall "ValueError.__init__" ⟨[.ref x,u],[]⟩) Q E s:=by
 have F:=xl;have b:=F.noStar;obtain⟨nm,B,N,bs,h,f,D,l,m,col,n,r,t,v,w,y,e,i⟩:=qeN X c.xc;have d:(Value.ref C::h).contains (.type "ValueError")=true:=by rw[Yt,qbB i (by simp),kG]
 obtain⟨p,g,o,tk,z⟩:=s;simp only[checkBuiltinCall,F.initKind,F.initSplit,F.initRow]
 repeat (first | (with_reducible show YL j ?_;rw[a]) | with_reducible show YL e ?_ | (with_reducible show xH e ?_;rw[d]) | wp_step)
 show q
abbrev xfs(a0:Addr):Array Value:=#[.ref a0,.none,.none,.none,.bool false,.none]
theorem xbase_init(X:K.In s.heap)(a:s.heap.get? x=some ⟨.ref C,none,.fields (xfs a0),#[]⟩)(c:XAt K C){Q:Value->Shared->Prop}
  (h:∀ h' d,h'.get? x=some ⟨.ref C,none,.fields (xfs d),#[]⟩->(∀ b o,b≠x->s.heap.get? b=some o->h'.get? b=some o)->Q .none { s with heap:=h' }) :
  wpAny (model prog w) A (call (.builtin "ValueError.__init__") [.ref x,u]) Q E s:=by
 have F:=xl;show xP (Y9 F.init.plain F.initEntry (ve_check X c a rfl ?_));obtain⟨f,g,i,tk,j⟩:=s
 wp_walk
 show h _ f.objs.size ?_ λb o hb e=>?_
 .rw [xx _ (yv _ a) rfl];rfl
 .rw [YC _ _ (Yw hb)];show yv _ e
end
theorem qeP(e:qdz l=true)(h:T∉wqP):l.contains (.type T)=false:=by
 obtain⟨b,rfl⟩:=qbA e;show kS.mpr λq=>?_;rcases yP.mp (List.contains_iff_mem.mp q) with z | z
 .obtain⟨a,_,q⟩:=yJ.mp z;cases q
 .simp only[yF,yW,YT,Value.type.injEq] at z h;show h z
section
variable{prog:Program}{w:World}{A:Around}{R:Result->Shared->Prop}{E:Value->Shared->Prop}{h:Heap}{g:Array GenState}{d:Drawn}{t:Nat}{os:OsState}
variable{nm q:Str}{C N:Addr}{bs bm:List Value}{hdct:Bool}{sn:LS}{sub:List Value}{ab:Bool}{col:Option Bool}{dd:Option Addr}{k0 k1 k2 k3 k5:Option Value}
theorem xnew_check{rest:List Value}{Q:Unit->Shared->Prop}(b:h.get? C=some (excClassObj nm q C N bs bm hdct sn sub ab col dd k0 k1 k2 k3 k5 "ValueError.__new__"))(e:qdz bm=true)(f:Q () ⟨h,g,d,t,os⟩) :
  wpAny M A (checkBuiltinCall "ValueError.__new__" ⟨.ref C::rest,[]⟩) Q E ⟨h,g,d,t,os⟩:=by
 have F:=xl;have a:(Value.ref C::bm).contains (.type "ValueError")=true:=by rw[Yt,qbB e (by simp),kG]
 have c:=F.noStar;simp only[checkBuiltinCall,F.newKind,F.newSplit,F.newRow]
 repeat (first | show YL b ?_ | (show xH b ?_;rw[a]) | show wpAny_staticBase_exc b ?_ | show wpAny_madeBy_exc b ?_ | simp only[bne_self_eq_false,kI,k7] | wp_step)
 show f
theorem xnew{rest:List Value}(b:h.get? C=some (excClassObj nm q C N bs bm hdct sn sub ab col dd k0 k1 k2 k3 k5 "ValueError.__new__"))(j:qdz bm=true)(l:rest.length<=sizeLine)
  (m:R (.ok (.ret (.ref (h.objs.size+1)))) ⟨(h.push { cls:=.type "tuple",data:=.seq rest.toArray }).push { cls:=.ref C,data:=.fields (xfs h.objs.size) },g,d,t,os⟩) :
  codeAny (model prog w) A (.builtin "ValueError.__new__" ⟨.ref C::rest,[]⟩) R ⟨h,g,d,t,os⟩:=by
 have F:=xl;have i:=F.ends;have e:(Value.ref C::bm).contains (.type "ValueError")=true:=by rw[Yt,qbB j (by simp),kG]
 have c:(Value.ref C::bm).contains (.type "AttributeError")=false:=by rw[Yt,qeP j (by simp)];rfl
 have f:(Value.ref C::bm).contains (.type "NameError")=false:=by rw[Yt,qeP j (by simp)];rfl
 show codeAny_builtinAt F.entry ?_;unfold Builtin.«BaseException.__new__»;show PySem.wpAt_bind ?_;show PySem.wpAt _ _ _ (stack>>=_) _ _ _;show PySem.wpAt_bind (PySem.wpAt_stack λn a=>PySem.wpAt_of_wpAny ?_)
 wp_walk
 show PySem.wpAt_of_wpAny ?_;rw[F.owner]
 repeat (first | with_reducible show wpAny_madeHere_exc F.canon b ?_ | with_reducible show YL b ?_ | (with_reducible show xH b ?_;first | rw[e] | rw[c] | rw[f]) | wp_step)
 show R _ _;rw[YS];show m
theorem xtype_call{K:yh}{rest:List Value}{Q:Fin->Shared->Prop}(X:K.In h)(c:h.get? C=some (excClassObj nm q C N bs bm hdct sn sub ab col dd k0 k1 k2 k3 k5 "ValueError.__new__"))(m:qdz bm=true)
  (u:PySem.W.findIn K (.ref C) "__init__"=some (some (.ref f))) (s:PySem.W.isFn K (.ref f)=true) (a:rest.length<=sizeLine)
  (v:wpAny (model prog w) A (call (.ref f) (.ref (h.objs.size+1)::rest)) (λr s'=>r=.none/\Q (.done (.ret (.ref (h.objs.size+1)))) s') E
   ⟨(h.push { cls:=.type "tuple",data:=.seq rest.toArray }).push { cls:=.ref C,data:=.fields (xfs h.objs.size) },g,d,t,os⟩) :
  wpAny (model prog w) A (Builtin.«type.__call__» ⟨.ref C::rest,[]⟩) Q E ⟨h,g,d,t,os⟩:=by
 have F:=xl
 repeat (first | with_reducible show YL c ?_ | with_reducible show wpAny_madeBy_exc c ?_ | wp_step)
 show codeAny_call_builtin_code (kK _ F.quiet) (xnew_check c m (xnew c m a ?_));show wpAny _ _ _ _ _ _;have n:∀ b o,h.get? b=some o->((h.push { cls:=.type "tuple",data:=.seq rest.toArray }).push { cls:=.ref C,data:=.fields (xfs h.objs.size) }).get? b=some o:=λb o e=>yv _ (yv _ e);have hC1:=n _ _ c;have i:((h.push { cls:=.type "tuple",data:=.seq rest.toArray }).push { cls:=.ref C,data:=.fields (xfs h.objs.size) }).get? (h.objs.size+1)=some { cls:=.ref C,data:=.fields (xfs h.objs.size) }:=ke (by rw[YS]) rfl;have l:K.In ((h.push { cls:=.type "tuple",data:=.seq rest.toArray }).push { cls:=.ref C,data:=.fields (xfs h.objs.size) }):=X.keeps n;have j:(Value.ref C::bm).contains (.ref C)=true:=by simp
 unfold isInstance
 repeat (first | with_reducible show YL i ?_ | (with_reducible show xH hC1 ?_;rw[j]) | wp_step)
 show wpAny _ _ (typeLookup (.ref C) _) _ _ _;show(YN l u).at (YG (yt ((PySem.W.bind_fn l _ (Yo.mp s)).at (yt (Yx v (λr s' x=>?_) λ_ _ z=>z)))));obtain⟨rfl,p⟩:=x
 wp_walk
 show p
theorem xcall{K:yh}{rest:List Value}{Q:Value->Shared->Prop}(X:K.In s.heap)(c:XAt K C)(i:PySem.W.findIn K (.ref C) "__init__"=some (some (.ref f)))(e:PySem.W.isFn K (.ref f)=true)(a:rest.length<=sizeLine)
  (l:wpAny (model prog w) (A.under (.builtin "type.__call__" ⟨.ref C::rest,[]⟩)) (call (.ref f) (.ref (s.heap.objs.size+1)::rest)) (λr s'=>r=.none/\Q (.ref (s.heap.objs.size+1)) s') E
   { s with heap:=(s.heap.push { cls:=.type "tuple",data:=.seq rest.toArray }).push { cls:=.ref C,data:=.fields (xfs s.heap.objs.size) } }) :
  wpAny (model prog w) A (call (.ref C) rest) Q E s:=by
 obtain⟨nm,p,N,bs,bm,hdct,sn,sub,ab,col,dd,k0,k1,k2,k3,k5,b,j⟩:=qeN X c.xc;obtain⟨h,g,d,t,os⟩:=s;have m:=tc_lookup;have n:=tc_bind (.ref C);have o:(⟨h,g,d,t,os⟩:Shared).TypeIs (.ref C) "type":=⟨_,b,rfl⟩;show xP (Ki ?_);show wpAny _ _ (callAny (.ref C) _) _ _ _
 repeat (any_goals (first | assumption | with_reducible show YL b ?_ | wp_step))
 show⟨rfl,?_⟩;show codeAny_call_builtin_at (kK _ (by room)) entry_typeCall (wpAny_check_type_call_sub b (xtype_call X b j i e a l))
end
def XN(e C:Addr)(dx:Option Addr):HO:=.ext λh=>∃ a0,h.get? e=some ⟨.ref C,dx,.fields (xfs a0),#[]⟩
def XO(e C:Addr)(dx:Option Addr):HO:=.ext λh=>∃ vs,h.get? e=some ⟨.ref C,dx,.fields vs,#[]⟩
theorem XN.ok(q:h.get? e=some ⟨.ref C,dx,.fields (xfs a0),#[]⟩):ObjOk P w H h e (XN e C dx):=
 ⟨⟨a0,q⟩,⟨_,q⟩,λ_ _ ⟨a,x⟩ k=>⟨a,k _ x⟩⟩
theorem XO.ok(q:h.get? e=some ⟨.ref C,dx,.fields vs,#[]⟩):ObjOk P w H h e (XO e C dx):=
 ⟨⟨vs,q⟩,⟨_,q⟩,λ_ _ ⟨a,x⟩ k=>⟨a,k _ x⟩⟩
def IsX(H:Hp)(e C:Addr)(dx:Option Addr):Prop:=H e=some (XN e C dx)\/H e=some (XO e C dx)
theorem IsX.get(q:IsX H e C dx)(b:HOk P w H h):∃ vs,h.get? e=some ⟨.ref C,dx,.fields vs,#[]⟩:=by
 rcases q with q | q
 .obtain⟨⟨a,x⟩,_⟩:=(show ObjOk P w H h e (XN e C dx) from b e _ q);show⟨_,x⟩
 .obtain⟨⟨a,x⟩,_⟩:=(show ObjOk P w H h e (XO e C dx) from b e _ q);show⟨_,x⟩
theorem upd_id{o:HO}(h:H a=some o):upd H a o=H:=by
 funext b;unfold upd;split
 .rename_i e;subst e;show h.symm
 .rfl
section
variable{X:Cx}{pins:List (Addr×Obj)}{σ:St}{H:Hp}{s:Shared}{e C:Addr}{dx:Option Addr}
theorem qgR(I:Inv X pins σ H s){d:Addr}{fs:List (Str×V)}(h:H d=some (.xd fs)):∃(od:Obj) (a:Str->Option Value),s.heap.get? d=some od/\(∀ name,PySem.W.lookIn name od=some (a name))/\∀ f,RelO (fs.lookup f) (a f):=by
 obtain⟨a,n,r⟩:=(show ObjOk X.prog X.w H s.heap d (.xd fs) from I.hok d _ h);obtain⟨od,h1,b⟩:=qdJ n;show⟨od,a,h1,b,r⟩
end
section
variable{X:Cx}{pins:List (Addr×Obj)}{σ:St}{H:Hp}{s:Shared}{a d:Addr}{h':Heap}{o u:HO}{t':Nat}
theorem Inv.both(I:Inv X pins σ H s)(i:Mut (H a))(l:s.heap.objs.size<=d)(k:∀ b v,b≠a->s.heap.get? b=some v->h'.get? b=some v)(m:∃ v,h'.get? a=some v)
  (p:ObjOk X.prog X.w (upd (upd H d u) a o) h' a o) (t:ObjOk X.prog X.w (upd (upd H d u) a o) h' d u) (ne:d≠a):Inv X pins σ (upd (upd H d u) a o) { s with heap:=h',toks:=t' }:=by
 have nd:H d=none:=I.hok.fresh l;have f:∀ b q,H b=some q->¬ Mut (some q)->b≠a:=λb q e nm z=>by subst z;rw[e] at i;show nm i
 have j:∀ b,H b=none->b≠a:=λb e z=>by subst z;rw[e] at i;show i
 have big:∀ b v,s.heap.get? b=some v->b≠d:=λb v e=>Yj (yk (yO e) l);have h:∀ b q,H b=some q->b≠a->upd (upd H d u) a o b=some q:=λb q e n=>by rw[qo n,qo (qO e nd)];show e
 show I.un ⟨λb v e n _ _=>k b v (j b n) e,λb v e n _ _=>⟨v.slots,k b v (j b n) e⟩,λb v e n _=>by rw[qo (j b n),qo (big b v e)];show n,λb v e _=>?_,λb xs e=>h b _ e (f b _ e λz=>z),λb q xs e=>h b _ e (f b _ e λz=>z),
  λb ps e=>⟨#[],by rw[h b _ e (f b _ e λz=>z)];simp⟩⟩ λb q e=>?_
 .by_cases hb:b=a
  .subst hb;show m
  .show⟨v,k b v hb e⟩
 .by_cases hb:b=a
  .subst hb;rw[qc] at e;cases e;show p
  .rw [qo hb] at e;by_cases g:b=d
   .subst g;rw[qc] at e;cases e;show t
   .rw [qo g] at e;show(I.hok b q e).stay (λc v hc r=>k c v ?_ r) (λc r=>h c _ r (f c _ r λz=>z)) λc xs r=>h c _ r (f c _ r λz=>z);rcases hc with rfl | hc
    .show hb
    .show f c _ hc λz=>z
end
inductive FldR(K:yh)(f:Str)(x:V)(H:Hp)(Q:VK):Prop|mk (a C dx:Addr) (fs:List (Str×V)) (v:V) (_:x=.ref a) (_:H a=some (.ins C dx fs)) (_:Cls K C) (_:NoAttr K C f) (_:fs.lookup f=some v) (_:Q v H)
inductive XFlR(K:yh)(f:Str)(x:V)(H:Hp)(Q:VK):Prop|mk (a C dx:Addr) (fs:List (Str×V)) (v:V) (_:x=.ref a) (_:IsX H a C (some dx)) (_:XAt K C) (_:NoAttr K C f) (_:H dx=some (.xd fs)) (_:fs.lookup f=some v) (_:Q v H)
inductive FlUR(K:yh)(f:Str)(x:V)(H:Hp)(Q:VK):Prop | inl (_:FldR K f x H Q) | inr (_:XFlR K f x H Q)
inductive SFdR(K:yh)(f:Str)(x y:V)(H:Hp)(k:Hp->Prop):Prop|mk (a C dx:Addr) (fs:List (Str×V)) (_:x=.ref a) (_:H a=some (.ins C dx fs)) (_:Cls K C) (_:NoAttr K C f) (_:fs.length<1000) (_:k (upd H a (.ins C dx (jF f y fs))))
inductive SXdR(K:yh)(f:Str)(x y:V)(H:Hp)(k:Hp->Prop):Prop|mk (a C:Addr) (_:x=.ref a) (_:H a=some (XN a C none)) (_:XAt K C) (_:NoAttr K C f) (_:∀ dx,H dx=none->k (upd (upd H dx (.xd [(f,y)])) a (XN a C (some dx))))
inductive SFUR(K:yh)(f:Str)(x y:V)(H:Hp)(k:Hp->Prop):Prop | inl (_:SFdR K f x y H k) | inr (_:SXdR K f x y H k)
def qh1(K:yh)(b:TE)(f:Str):TE:=fun σ H Q=>b σ H λx a=>FlUR K f x a Q
def qh2(K:yh)(c d:TE)(f:Str):TS:=λD σ H=>d σ H λy a=>c σ a λx b=>SFUR K f x y b (D.nx σ)
section
variable{X:Cx}{o e value:Expr}{f:Str}{pos pos':Pos}{ta tv:TE}{K:yh}
theorem qV(w:X.K=K)(z:PE X e ta)(hb:attributeBase e f X.env (eval e X.env)=eval e X.env):PE X (.Attribute e f pos) (qh1 K ta f):=by
 subst w;intro pins s σ H Q I h;show attr_of hb (thn (z pins s σ H _ I h) λu E ⟨x,j,b,m,i⟩=>?_);rcases i with⟨a,C,dx,fs,v,rfl,g,c,n,l,q⟩ | ⟨a,C,dx,fs,v,rfl,g,c,n,y,l,q⟩
 .obtain rfl:u=Value.ref a:=m;show getattr_ok b g c n l λD F p d=>⟨v,j,p,d,q⟩
 .obtain rfl:u=Value.ref a:=m;obtain⟨vs,i⟩:=g.get b.hok;obtain⟨od,B,h1,t,r⟩:=qgR b y;obtain⟨D,A,d⟩:=RelO.some_of (v:=v) (o:=B f) (by rw[<- l];show r f);show xget b.kIn (od:=some od) ⟨i,rfl,rfl,h1⟩ c (PySem.W.findObj_own c.hd n rfl (by rw[t,A])) (qdK d) ⟨v,j,b.tok _,d,q⟩
theorem qaA(J:X.K=K)(L:PE X o ta)(hv:PE X value tv)(M:swapsWith value (some (.Attribute o f pos')) pos.line X.env=pure false):PS X (.Assign [.Attribute o f pos'] value pos) (qh2 K ta tv f):=by
 subst J;intro pins s σ H D I h;show plainObj_wpAny_Assign_Attribute (thn (hv pins s σ H _ I h) λu N ⟨y,A,B,z,q⟩=>thn (L pins N σ A _ B q) λt i ⟨x,p,b,v,e⟩=>?_) M;rcases e with⟨a,C,dx,fs,rfl,d,c,n,l,m⟩ | ⟨a,C,rfl,d,c,n,m⟩
 .obtain rfl:t=Value.ref a:=v;show setattr_ok b d c n l z λO E=>⟨σ,_,E,m⟩
 .obtain rfl:t=Value.ref a:=v;obtain⟨⟨a0,e⟩,_⟩:=(show ObjOk X.prog X.w p i.heap a (XN a C none) from b.hok a _ d);show xset b.kIn e c n λh' r F G=>?_;have nd:p i.heap.objs.size=none:=b.hok.fresh (yi _);have ne:i.heap.objs.size≠a:=xJ (yO e);show⟨σ,_,b.both (o:=XN a C (some i.heap.objs.size)) (u:=.xd [(f,y)]) (by rw[d];show YQ) (yi _) G ⟨_,r⟩ (XN.ok r) ⟨_,F,λg=>?_⟩ ne,m _ nd⟩;by_cases j:g=f
  .subst j;simp only[List.lookup,Y8,XB];show z
  .have hb:(g==f)=false:=Yq.mpr j;simp only[List.lookup,hb,yE j];show YQ
end
def qfK(C:Addr)(sp:Sp)(E:XK)(t:TA):TE:=fun σ H Q=>t σ H λvs a=>vs.length<=1000/\∀ x,a x=none->sp (.ref x::vs) (upd a x (XN x C none)) (λv b=>v=.non/\Q (.ref x) b) E
structure XMk(K:yh)(C f:Addr):Prop where
 at_:XAt K C
 init:PySem.W.findIn K (.ref C) "__init__"=some (some (.ref f))
 fn:PySem.W.isFn K (.ref f)=true
 kp:PySem.W.keepIn K (.ref C)=true
section
variable{X:Cx}{CX:CXT}{k:Nat}{f C:Addr}{fd:FuncData}{ps:LS}{sp:Sp}{E:XK}{x m:Str}{p pos apos:Pos}{e o:Expr}{es:List Expr}{ta:TE}{t:TA}
theorem run_xmake{Q:VK}{vs:List V}(M:XMk X.K C f)(F:FnOk X.prog X.w X.K X.mg X.base CX k f fd ps sp)(t:Room (k+1) X.A)(hb:Binds X.K fd ps [])
  (y:qaQ CX X E) (I:Inv X pins σ H s) (r:Vals vs us) (i:vs.length<=1000) (h:∀ x,H x=none->sp (.ref x::vs) (upd H x (XN x C none)) (λv n=>v=.non/\Q (.ref x) n) E) :
  wpAny (model X.prog X.w) X.A (call (.ref C) us) (EP X pins σ Q) X.xe s:=by
 have l:=h (s.heap.objs.size+1) (I.hok.fresh (YV _));have G:∀ b o,s.heap.get? b=some o->((s.heap.push { cls:=.type "tuple",data:=.seq us.toArray }).push { cls:=.ref C,data:=.fields (xfs s.heap.objs.size) }).get? b=some o:=λb o q=>yv _ (yv _ q);have d:((s.heap.push { cls:=.type "tuple",data:=.seq us.toArray }).push { cls:=.ref C,data:=.fields (xfs s.heap.objs.size) }).get? (s.heap.objs.size+1)=some ⟨.ref C,none,.fields (xfs s.heap.objs.size),#[]⟩:=ke (by rw[YS]) rfl;have g:=I.laid (a:=s.heap.objs.size+1) (o:=XN (s.heap.objs.size+1) C none) (t':=s.toks) G (YV _) (XN.ok d);have m:Vals (V.ref (s.heap.objs.size+1)::vs) (Value.ref (s.heap.objs.size+1)::us):=.cons rfl r
 have hl:(Value.ref (s.heap.objs.size+1)::us++[]).length=ps.length:=by
  have q:=m.length;rw[F.len _ _ _ _ l] at q;rw[Yb];show q.symm
 have j:us.length<=sizeLine:=by rw[<- r.length];show yN (qg i)
 show xcall I.kIn M.at_ M.init M.fn j (xP (Xf (F.run _ X.stack _ _ ⟨Value.ref (s.heap.objs.size+1)::us,[]⟩ (Value.ref (s.heap.objs.size+1)::us) _ _ E (t.make C us [])
  (g.env0.make C us []) (by have z:=hb _ (Value.ref (s.heap.objs.size+1)::us) g.kIn hl;rw[Yb] at z;show z) m l) λr s' c=>?_))
 cases r with
 | error e=>show y pins σ _ _ e s' g c
 | ok fl =>
  cases fl with
  | ret u =>
   obtain⟨v,H',p,D,ev,B⟩:=g.after c;subst ev;show⟨D,⟨V.ref (s.heap.objs.size+1),H',p,rfl,B⟩⟩
  | next=>show False.elim c
  | brk=>show False.elim c
  | cont=>show False.elim c
theorem pe_xmake(M:XMk X.K C f)(F:FnOk X.prog X.w X.K X.mg X.base CX k f fd ps sp)(l:Room (k+1) X.A)(i:Gl X x)(j:X.mg x=some (.ref C))(hb:Binds X.K fd ps [])(m:qaQ CX X E)
  (d:PA X (e::es) t) (a:(x==("__debug__":Str))=false:=by decide) (g:starEach (e::es) X.env=(false,eval e X.env)::starEach es X.env:=by rfl) (b:(backTo pos (starEach es X.env)).any (·.1)=false:=by rfl) :
  PE X (.Call (.Name x p) (e::es) [] pos) (qfK C sp E t):=by
 intro pins s σ H Q I h;show xy (qau I i j ?_ a);show xz (h₀:=X.base) I.ok.mod.kin M.kp (thn (d pos pins s σ H _ I h) λus o ⟨vs,n,c,r,z,q⟩=>⟨c.kIn,?_⟩) g b;show run_xmake M F l hb m c r z q
structure CMeth(K:yh)(C:Addr)(m:Str)(f:Addr):Prop where
 rd:PySem.W.readsIn K C (.type "type")=true
 at_:PySem.W.findCls K (.ref C) (.type "type") m=some (.val (.ref f))
 ga:PySem.W.specialIn K (.ref C) "__getattribute__"=some (some (.builtin "type.__getattribute__"))
 kp:PySem.W.keepIn K (.ref f)=true
theorem pe_clsm(M:CMeth X.K C m f)(F:FnOk X.prog X.w X.K X.mg X.base CX k f fd ps sp)(l:Room k X.A)(i:Gl X x)(j:X.mg x=some (.ref C))(hb:Binds X.K fd ps [])(o:qaQ CX X E)(g:PA X (e::es) t)
  (a:(x==("__debug__":Str))=false:=by decide) (c:starEach (e::es) X.env=(false,eval e X.env)::starEach es X.env:=by rfl) (b:(backTo pos (starEach es X.env)).any (·.1)=false:=by rfl)
  (n:eval (.Call (.Attribute (.Name x p) m apos) (e::es) [] pos) X.env=(do
   let ov <- eval (.Name x p) X.env
   standAt apos.atName
   let (f,first) <- holding [ov] (getMethod ov m pl)
   callWith pos f first (backTo pos (starEach (e::es) X.env)) (backToKw pos (keywordEach [] X.env))):=by rfl) :
  PE X (.Call (.Attribute (.Name x p) m apos) (e::es) [] pos) (qfg sp [] E t):=by
 intro pins s σ H Q I h;show xW (pl:=pl) (qau I i j ?_ a) n;show PySem.W.method_cls I.kIn M.ga (PySem.W.cls_value I.kIn M.rd M.at_ rfl ?_);show xz (first:=[]) (h₀:=X.base) I.ok.mod.kin M.kp (thn (g pos pins _ σ H _ (I.tok (s.toks+1)) h) λus v ⟨vs,u,d,r,q⟩=>⟨d.kIn,?_⟩) c b;show qeE F l hb .nil o d r q
end
def qgS(K:yh)(t:TA):TE:=fun σ H Q=>t σ H λvs b=>∃ a C y,vs=[.ref a,y]/\b a=some (XN a C none)/\XAt K C/\Q .non b
theorem ve_type:PySem.W.Looks M h (typeOf (.type "ValueError")) (.type "type"):=kh (by kernel_rfl)
theorem ve_opaque:PySem.W.Looks M h (opaqueClassAbove (.type "ValueError")) none:=kh (by kernel_rfl)
structure VInit(K:yh):Prop where
 ga:PySem.W.findIn K (.type "type") "__getattribute__"=some (some (.builtin "type.__getattribute__"))
 su:PySem.W.subIn K (.type "type") (.type "type")=some true
 at_:PySem.W.findCls K (.type "ValueError") (.type "type") "__init__"=some (.val (.builtin "ValueError.__init__"))
section
variable{X:Cx}{p pos apos:Pos}{e:Expr}{es:List Expr}{t:TA}{K:yh}
theorem k_vinit(E:X.K=K)(V:VInit K)(G:Gl X "ValueError")(L:X.mg "ValueError"=none)(hv:bootBuiltins "ValueError"=some (.type "ValueError"))(F:PA X (e::es) t)
  (l:starEach (e::es) X.env=(false,eval e X.env)::starEach es X.env:=by rfl) (j:(backTo pos (starEach es X.env)).any (·.1)=false:=by rfl)
  (M:eval (.Call (.Attribute (.Name "ValueError" p) "__init__" apos) (e::es) [] pos) X.env=(do
   let ov <- eval (.Name "ValueError" p) X.env
   standAt apos.atName
   let (f,first) <- holding [ov] (getMethod ov "__init__" pl)
   callWith pos f first (backTo pos (starEach (e::es) X.env)) (backToKw pos (keywordEach [] X.env))):=by rfl) :
  PE X (.Call (.Attribute (.Name "ValueError" p) "__init__" apos) (e::es) [] pos) (qgS K t):=by
 subst E;intro pins s σ H Q I h;show xW (pl:=pl) (qb7 I G L hv ?_) M
 have i:∀{d:Value×List Value->Shared->Prop},d (.builtin "ValueError.__init__",[]) { s with toks:=s.toks+1 }->wpAny (model X.prog X.w) X.A (getMethod (.type "ValueError") "__init__" pl) d X.xe s:=λ{d} q=>by
  unfold getMethod;show yt ((ve_type.andThen (YN I.kIn V.ga)).here ?_);dsimp only;rw[yH PySem.W.canon_tga];show yt (PySem.W.cls_open (hook:=none) I.kIn ve_opaque ve_type V.ga (PySem.W.Looks.now) V.su V.at_ (yA ?_));show wpAny _ _ (handedOut _) _ _ _;show PySem.W.handed_on rfl (yA q)
 show i ?_;have r:=F pos pins _ σ H _ (I.tok (s.toks+1)) h;rw[l] at r ⊢;show X7 (by show(false||(backTo pos (starEach es X.env)).any (·.1))=false;rw[j]<;>rfl) (Calls.evalArgs_plain ?_);show thn r λus z ⟨vs,m,b,O,a,C,y,B,g,c,q⟩=>?_;subst B;obtain⟨u,v,rfl,P,S⟩:=qfw O;cases P;obtain⟨⟨a0,N⟩,_⟩:=(show ObjOk X.prog X.w m z.heap a (XN a C none) from b.hok a _ g);show xbase_init b.kIn N c λh' R n D=>?_;have J:=b.write (x:=a) (e:=a) (o:=XN a C none) (t':=z.toks) (by rw[g];show YQ) (.inl rfl) D ⟨_,n⟩ (XN.ok n);rw[upd_id g] at J;show⟨.non,m,J,rfl,q⟩
end
structure Keep(fs zs:LI)(h h':Heap):Prop where
 keep:∀ b o,h.get? b=some o->b∉zs->b∉fs->h'.get? b=some o
 slot:∀ b o,h.get? b=some o->b∉zs->b∈fs->∃ sl,h'.get? b=some { o with slots:=sl }
structure Trc(h:Heap)(e:Addr)(C:Value)(dx:Option Addr)(T:Addr)(fl:Value):Prop where
 ex:∃ vs,h.get? e=some ⟨C,dx,.fields vs,#[]⟩/\vs[1]?=some (.ref T)/\vs[2]?=some .none
 tb:∃ ts,h.get? T=some ⟨.type "traceback",none,.fields ts,#[]⟩/\ts[3]?=some fl
 ne:T≠e
section
variable{M:Model}{A:Around}{E:Value->Shared->Prop}{s:Shared}{base:Heap}{env:Env}{outer:List Env}{L e:Addr}{C:Value}{dx:Option Addr}{vs:Array Value}
theorem qgT{d:Value}{p:Bool}{Q:Unit->Shared->Prop}(r:A.frames=some (env::outer))(hl:s.heap.FunFrames base (env::outer))(F:env.frame=some L)(w:s.heap.get? e=some ⟨C,dx,.fields vs,#[]⟩)(hsz:1<vs.size)(B:vs[2]?=some .none)
  (h:∀ h' T,s.heap.objs.size<=T->Trc h' e C dx T (rawInt L)->Keep (frs (env::outer)) [e] s.heap h'->Q () { s with heap:=h' }) :
  wpAny M A (do let a <- frameOf env;let pl <- entryPlaceOf L p;let b <- EntryCells.newEntry d a .none (rawInt L) .none pl;setField (.ref e) 1 b) Q E s:=by
 have l:e∉frs (env::outer):=λG=>by
  obtain⟨_,o,y,t⟩:=hl.mem G;rw[w] at y;cases y;show t vs rfl
 show yt (wpAny_frameOf_fun r hl F λc n=>yt (wpAny_entryPlaceOf λpl m=>?_));unfold EntryCells.newEntry newFields;show yt (Xg ?_ (m.sizeOk5 _ _ _ _ _));have i:c.get? e=some ⟨C,dx,.fields vs,#[]⟩:=(n.2.1 e l).trans w;generalize u:([d,.ref L,.none,rawInt L,.none]++(if pl.isEmpty then List.replicate 6 Value.none else pl)).toArray=v;have D:v[3]?=some (rawInt L):=by rw[<- u];first | (simp;done) | (rcases m with rfl | ⟨_,_,_,_,_,_,_,rfl⟩<;>simp)
 have j:=yv (h:=c) { cls:=.type "traceback",dict:=none,data:=.fields v } i;have g:c.objs.size≠e:=xJ (yO i);show wpAny_setField j rfl hsz (h _ c.objs.size (Kv n.1.symm) ⟨⟨vs.setIfInBounds 1 (.ref c.objs.size),?_,by simp[hsz],by rw[Array.getElem?_setIfInBounds_ne (by decide)];show B⟩,⟨v,?_,D⟩,g⟩ ⟨λb o q hb x=>?_,λb o q hb x=>?_⟩)
 .rw [xx _ j rfl];rfl
 .rw [YC _ _ (Yw g)];show yS c rfl
 .have f:b≠e:=λz=>hb (by simp[z]);rw[YC _ _ (Yw f)];show yv _ ((n.2.1 b x).trans q)
 .have f:b≠e:=λz=>hb (by simp[z]);obtain⟨H,z⟩:=n.2.2 b o q;show⟨H,by rw[YC _ _ (Yw f)];show yv _ z⟩
theorem qdY{Q:Unit->Shared->Prop}(a:A.frames=some (env::outer))(hl:s.heap.FunFrames base (env::outer))(c:env.frame=some L)(b:s.heap.get? e=some ⟨C,dx,.fields vs,#[]⟩)(h1:vs[1]?=some .none)(d:vs[2]?=some .none)
  (h:∀ h' T,s.heap.objs.size<=T->Trc h' e C dx T (rawInt L)->Keep (frs (env::outer)) [e] s.heap h'->Q () { s with heap:=h' }):wpAny M A (noteFrame (.ref e) env) Q E s:=by
 unfold noteFrame;simp only[c];show yt (X5 b rfl h1 ?_);rw[yE (by decide)];show qgT a hl c b (xS.mp h1).1 d h
theorem qeQ{T:Addr}{Q:Unit->Shared->Prop}(g:A.frames=some (env::outer))(hl:s.heap.FunFrames base (env::outer))(r:env.frame=some L)(t:Trc s.heap e C dx T .none)
  (h:∀ h' d,s.heap.objs.size<=d->Trc h' e C dx d (rawInt L)->Keep (frs (env::outer)) [e,T] s.heap h'->Q () { s with heap:=h' }):wpAny M A (noteFrame (.ref e) env) Q E s:=by
 obtain⟨⟨vs,p,h1,u⟩,⟨w,f,n⟩,j⟩:=t;unfold noteFrame;simp only[r];show yt (X5 p rfl h1 ?_);rw[yH (show(Value.ref T != Value.none)=true from by simp)];show yt (X5 f rfl n ?_);rw[yE (show ¬ ((Value.none==rawInt L)=true) from by simp[rawInt])];show yt (wpAny_setField f rfl (xS.mp n).1 ?_);have a:∀ b,b≠T->(s.heap.update T (Obj.mapFields (·.setIfInBounds 3 Value.none))).get? b=s.heap.get? b:=λb hb=>YC _ _ (Yw hb);have m:(s.heap.update T (Obj.mapFields (·.setIfInBounds 3 Value.none))).objs.size=s.heap.objs.size:=Heap.size_after_update ..;show qgT (s:={ s with heap:=s.heap.update T (Obj.mapFields (·.setIfInBounds 3 Value.none)) }) g (hl.of_keeps λb o hb l=>?_) r ((a e (Yw j)).trans p) (xS.mp h1).1 u λh' d v t' k=>?_
 .have c:b≠T:=λq=>by rw[q,f] at hb;cases hb;show l w rfl
  show⟨o,(a b c).trans hb,rfl⟩
 .show h h' d (by rw[<- m];show v) t' ⟨λb o q hb i=>?_,λb o q hb i=>?_⟩
  .have c:b≠T:=λz=>hb (by simp[z]);show k.keep b o ((a b c).trans q) (λz=>hb (by simp only[yw] at z;simp[z])) i
  .have c:b≠T:=λz=>hb (by simp[z]);show k.slot b o ((a b c).trans q) (λz=>hb (by simp only[yw] at z;simp[z])) i
theorem qcC{T:Addr}{Q:Unit->Shared->Prop}(t:Trc s.heap e C dx T fl)(h:∀ h',Trc h' e C dx T .none->(∀ b o,b≠T->s.heap.get? b=some o->h'.get? b=some o)->h'.objs.size=s.heap.objs.size->Q () { s with heap:=h' }) :
  wpAny M A (setFlight (.ref e) none) Q E s:=by
 obtain⟨⟨vs,f,h1,i⟩,⟨g,d,j⟩,c⟩:=t;have a:3<g.size:=(xS.mp j).1;unfold setFlight;show yt (X5 f rfl h1 ?_);rw[yH (show(Value.ref T != Value.none)=true from by simp)];show wpAny_setField d rfl a (h _ ⟨⟨vs,?_,h1,i⟩,⟨g.setIfInBounds 3 .none,?_,by simp[a]⟩,c⟩ (λb o hb q=>?_) (Heap.size_after_update ..))
 .rw [YC _ _ c];show f
 .rw [xx _ d rfl];rfl
 .rw [YC _ _ (Yw hb)];show q
end
def CX1(P:Program)(w:World):CXT:=λb H s E ev s'=>∃(a C:Addr) (dx:Option Addr) (T:Addr) (H':Hp),ev=.ref a/\s'.os=s.os/\AllBare s'.gens/\Un (frs b) [] H H' s.heap s'.heap/\HOk P w H' s'.heap /\
 H' a=some (XO a C dx)/\Trc s'.heap a (.ref C) dx T .none/\s.heap.objs.size<=T/\H' T=none/\E (.ref C) dx H'
section
variable{X:Cx}{pins:List (Addr×Obj)}{σ:St}{H:Hp}{s:Shared}
theorem qdc{T:Addr}(I:Inv X pins σ H s)(f:H a=some (XO a C dx))(k:Keep (frs X.stack) zs s.heap h')(g:∀ b∈zs,b=a\/H b=none)(t:Trc h' a (.ref C) dx T fl):HOk X.prog X.w H h':=λb u e=>by
 by_cases hb:b=a
 .subst hb;rw[f] at e;cases e;obtain⟨vs,q,_⟩:=t.ex;show XO.ok q
 .have d:∀ c o,H c=some o->c≠a->c∉zs/\c∉frs X.stack:=λc o q n=>⟨λz=>(g c z).elim n λy=>(by rw[y] at q;cases q),λz=>(by have y:=I.stkFree c z;rw[y] at q;cases q)⟩;show(I.hok b u e).stay (λc v hc r=>?_) (λ_ q=>q) λ_ _ q=>q;rcases hc with rfl | hc
  .show k.keep c v r (d c _ e hb).1 (d c _ e hb).2
  .have n:c≠a:=λz=>by rw[z,f] at hc;cases hc
   show k.keep c v r (d c _ hc n).1 (d c _ hc n).2
theorem qgU{T:Addr}(I:Inv X pins σ H s)(h:X.ex=[])(p:H a=some (XO a C dx))(k:Keep (frs X.stack) zs s.heap h')(r:∀ b∈zs,b=a\/X.s₀.heap.objs.size<=b)(t:Trc h' a (.ref C) dx T fl) :
  Un X.fs [] X.H₀ H X.s₀.heap h':=by
 have B:=I.base;rw[h] at B;have low:∀ b o,X.s₀.heap.get? b=some o->b≠X.env.locals:=λb o e=>Yj (yk (yO e) I.ok.above);have j:∀ b o,X.s₀.heap.get? b=some o->b≠a->b∉zs:=λb o e n z=>(r b z).elim n λy=>absurd (yk (yO e) y) (Yp _);have m:∀ b,H b=none->b≠a:=λb n z=>by rw[z,p] at n;cases n
 have i:∀ b o,X.s₀.heap.get? b=some o->b∉X.fs->b∉frs X.stack:=λb o e n z=>(yF.mp (I.stkSub b z)).elim (low b o e) n;show⟨λb o e n hb c=>?_,λb o e n hb c=>?_,B.free,λb o e c=>?_,B.tups,B.frzs,B.tbls⟩
 .show k.keep b o (B.keep b o e n hb c) (j b o e (m b (B.free b o e n c))) (i b o e hb)
 .obtain⟨v,q⟩:=B.slot b o e n hb c;have g:=j b o e (m b (B.free b o e n c));by_cases d:b∈frs X.stack
  .obtain⟨f,l⟩:=k.slot b _ q g d;show⟨f,l⟩
  .show⟨v,k.keep b _ q g d⟩
 .obtain⟨u,q⟩:=B.there b o e c;by_cases hb:b=a
  .subst hb;obtain⟨vs,z,_⟩:=t.ex;show⟨_,z⟩
  .have g:=j b o e hb;by_cases d:b∈frs X.stack
   .obtain⟨f,l⟩:=k.slot b _ q g d;show⟨_,l⟩
   .show⟨u,k.keep b _ q g d⟩
end
structure XOk(X:Cx)(EK:St->XK):Prop where
 pass:∀(pins:List (Addr×Obj)) (σ:St) (H:Hp) (s:Shared) (e:Value) (s':Shared),Inv X pins σ H s->CX1 X.prog X.w X.stack H s (EK σ) e s'->X.xe e s'
 rais:∀(pins:List (Addr×Obj)) (σ:St) (H:Hp) (s:Shared) (a C:Addr) (dx:Option Addr),Inv X pins σ H s->H a=some (XN a C dx)->EK σ (.ref C) dx (upd H a (XO a C dx))->X.xe (.ref a) s
 calm:X.calm=true
section
variable{P:Program}{w:World}{K:yh}{mg:Str->Option Value}{base:Heap}{N:LS}{qual:Str}{scope:Scope}{f:Addr}{cd:Value}{A:Around}{outer:List Env}{s0:Shared}{H0:Hp}{E:XK}
theorem qZ:XOk (qgN (CX1 P w) P w K mg base N qual scope f cd A outer s0 H0 E) λ_=>E where
 calm:=rfl
 pass:=by
  intro pins σ H s ev s' I m;obtain⟨a,C,dx,T,H',rfl,D,l,un,B,g,t,M,v,q⟩:=m;have J:=I.call' (s':=s') (H':=H') (ch:=[]) D un B l (λb z=>absurd z (by simp));show wpAny _ _ (leaving _ _) _ _ _;unfold leaving;show yt (qeQ (base:=base) J.ok.frames J.stack rfl t λh' d h t' k=>?_);show qcC (s:={ s' with heap:=h' }) t' λu i p L=>?_;have F:s0.heap.objs.size<=s.heap.objs.size:=I.sz;have j:=J.sz
  have r:Keep (frs (envOfC qual scope s0.heap.objs.size f cd::outer)) [a,T,d] s'.heap u:=by
   show⟨λb o e z n=>?_,λb o e z n=>?_⟩
   .simp only[yF,yW,YT,Ku] at z;show p b o z.2.2 (k.keep b o e (by simp[z.1,z.2.1]) n)
   .simp only[yF,yW,YT,Ku] at z;obtain⟨G,y⟩:=k.slot b o e (by simp[z.1,z.2.1]) n;show⟨G,p b _ z.2.2 y⟩
  have c:H' d=none:=J.hok.fresh h;show⟨a,C,dx,d,H',rfl,J.os,l,qgU J rfl g r (λb hb=>?_) i,qdc J g r (λb hb=>?_) i,g,i,yj j h,c,q⟩
  .simp only[yF,yW,YT] at hb;rcases hb with rfl | rfl | rfl
   .show .inl rfl
   .show .inr (yj F M)
   .show .inr (yj j h)
  .simp only[yF,yW,YT] at hb;rcases hb with rfl | rfl | rfl
   .show .inl rfl
   .show .inr v
   .show .inr c
 rais:=by
  intro pins σ H s a C dx I e q;obtain⟨⟨a0,m⟩,_⟩:=(show ObjOk _ _ H s.heap a (XN a C dx) from I.hok a _ e);have J:Inv _ pins σ (upd H a (XO a C dx)) s:=I.write (x:=a) (e:=a) (o:=XO a C dx) (h':=s.heap) (t':=s.toks) (by rw[e];show YQ) (.inl rfl) (λ_ _ _ q=>q) ⟨_,m⟩ (XO.ok m);show wpAny _ _ (leaving _ _) _ _ _;unfold leaving;show yt (qdY (base:=base) J.ok.frames J.stack rfl m rfl rfl λh' d h t' k=>?_);show qcC (s:={ s with heap:=h' }) t' λu i p L=>?_;have j:=J.sz;have g:upd H a (XO a C dx) a=some (XO a C dx):=qc
  have r:Keep (frs (envOfC qual scope s0.heap.objs.size f cd::outer)) [a,d] s.heap u:=by
   show⟨λb o e z n=>?_,λb o e z n=>?_⟩
   .simp only[yF,yW,YT,Ku] at z;show p b o z.2 (k.keep b o e (by simp[z.1]) n)
   .simp only[yF,yW,YT,Ku] at z;obtain⟨G,y⟩:=k.slot b o e (by simp[z.1]) n;show⟨G,p b _ z.2 y⟩
  have c:upd H a (XO a C dx) d=none:=J.hok.fresh h;show⟨a,C,dx,d,_,rfl,J.os,J.bare,qgU J rfl g r (λb hb=>?_) i,qdc J g r (λb hb=>?_) i,g,i,yj j h,c,q⟩
  .simp only[yF,yW,YT] at hb;rcases hb with rfl | rfl
   .show .inl rfl
   .show .inr (yj j h)
  .simp only[yF,yW,YT] at hb;rcases hb with rfl | rfl
   .show .inl rfl
   .show .inr c
end
def qgV(K:yh)(c:St->XK)(te:TE):TS:=λ_ σ H=>te σ H λx b=>∃ a C dx,x=.ref a/\b a=some (XN a C dx)/\XAt K C/\c σ (.ref C) dx (upd b a (XO a C dx))
section
variable{X:Cx}{EK:St->XK}{e:Expr}{te:TE}{pos:Pos}{K:yh}
theorem xraise{x:Sem Value}{Q:Flow->Shared->Prop}(o:A.handled=none)
  (h:wpAny M A x (λv b=>∃ a C dx a0,v=.ref a/\K.In b.heap/\XAt K C/\b.heap.get? a=some ⟨.ref C,dx,.fields (xfs a0),#[]⟩/\E (.ref a) b) E s):wpAny M A (raiseStmt env (some x) none) Q E s:=by
 unfold raiseStmt;show yt (Yx h (λv b h1=>?_) λ_ _ z=>z);obtain⟨a,C,dx,a0,rfl,f,c,n,m⟩:=h1;obtain⟨nm,H,N,bs,l,j,I,q,r,col,t,w,y,B,D,F,i,p⟩:=qeN f c.xc;have e:(Value.ref C::l).contains (.type "BaseException")=true:=by rw[Yt,qbB p (by simp),kG]
 obtain⟨u,g,d,tk,G⟩:=b
 repeat (first | with_reducible show YL n ?_ | with_reducible show YL i ?_ | (with_reducible show xH i ?_;rw[e]) | wp_step)
 show wpAny_raiseNew_none o m
theorem qei(l:X.K=K)(f:XOk X EK)(m:PE X e te):PS X (.Raise (some e) none pos) (qgV K EK te):=by
 subst l;intro pins s σ H D I h;rw[arm_exec_Raise];show yt (XT (xraise (K:=X.K) (I.ok.hd f.calm) ?_));show yt (thn (m pins s σ H _ I h) λv i ⟨x,d,b,o,a,C,dx,j,g,c,q⟩=>yt (XT (yA ?_)));subst j;cases o;obtain⟨⟨a0,n⟩,_⟩:=(show ObjOk _ _ d i.heap a (XN a C dx) from b.hok a _ g);show⟨a,C,dx,a0,rfl,b.kIn,c,n,f.rais pins σ d i a C dx b g q⟩
end
def qgW(sp:Sp)(a:St->XK)(t:TA):TE:=fun σ H Q=>t σ H λvs b=>sp vs b Q (a σ)
def qgX(C:Addr)(m:Str)(sp:Sp)(b:St->XK)(d:TE)(t:TA):TE:=fun σ H Q=>d σ H λx a=>MeR C m x a (t σ a λvs c=>sp (x::vs) c Q (b σ))
def tMakeS(C:Addr)(sp:Sp)(b:St->XK)(t:TA):TE:=fun σ H Q=>t σ H λvs a=>∀ x dx,a x=none->a dx=none->dx≠x ->
 sp (.ref x::vs) (upd (upd a dx (.own x)) x (.ins C dx [])) (λv c=>v=.non/\Q (.ref x) c) (b σ)
theorem FnOk.any{K:yh}{b:Str->Option Value}{base:Heap}{k:Nat}{CX:CXT}(F:FnOk P w K b base CX0 k f fd ps sp):FnOk P w K b base CX k f fd ps sp:=by
 show⟨F.len,λA a s H args us vs Q E d c hb hv g=>Xf (F.run A a s H args us vs Q E d c hb hv g) λr s' q=>?_⟩
 cases r with
 | ok fl=>cases fl<;>show q
 | error e=>show q.elim
structure MethOk(P:Program)(w:World)(K:yh)(mg:Str->Option Value)(base:Heap)(CX:CXT)(k:Nat)(C:Addr)(m:Str)(ps:LS)(sp:Sp):Prop where
 ex:∃ f fd,FnOk P w K mg base CX k f fd ps sp/\Meth K C m f/\Binds K fd ps []
 cl:Cls K C
structure MakeOk(P:Program)(w:World)(K:yh)(mg:Str->Option Value)(base:Heap)(CX:CXT)(k:Nat)(C:Addr)(x:Str)(ps:LS)(sp:Sp):Prop where
 ex:∃ f fd,FnOk P w K mg base CX k f fd ps sp/\Mk K C f/\Binds K fd ps []
 mg_:mg x=some (.ref C)
structure XMakeOk(P:Program)(w:World)(K:yh)(mg:Str->Option Value)(base:Heap)(k:Nat)(C:Addr)(x:Str)(ps:LS)(sp:Sp):Prop where
 ex:∃ f fd,wqqj k f fd ps sp/\XMk K C f/\Binds K fd ps []
 mg_:mg x=some (.ref C)
section
variable{X:Cx}{EK:St->XK}{k:Nat}{f C:Addr}{fd:FuncData}{ps:LS}{sp:Sp}{x m:Str}{p pos apos:Pos}{e o:Expr}{es:List Expr}{ta:TE}{t:TA}
theorem qfL{Q:VK}{vs:List V}(F:FnOk X.prog X.w X.K X.mg X.base (CX1 X.prog X.w) k f fd ps sp)(d:Room k X.A)(hb:Binds X.K fd ps [])(c:XOk X EK)
  (I:Inv X pins σ H s) (r:Vals vs us) (h:sp vs H Q (EK σ)):wpAny (model X.prog X.w) X.A (call (.ref f) us) (EP X pins σ Q) X.xe s:=by
 have hl:(us++[]).length=ps.length:=by rw[Yb,<- r.length];show F.len _ _ _ _ h
 have b:=hb s us I.kIn hl;rw[Yb] at b;show xP (Xf (F.run X.A X.stack s H ⟨us,[]⟩ us vs Q (EK σ) d I.env0 b r h) λr s' a=>?_)
 cases r with
 | error e=>show c.pass pins σ H s e s' I a
 | ok fl =>
  cases fl with
  | ret u=>show I.after a
  | _=>show False.elim a
theorem jc(D:DefOk X.prog X.w X.K X.mg X.base (CX1 X.prog X.w) k x ps sp)(n:Room k X.A)(d:XOk X EK)(g:PA X (e::es) t)(j:Gl X x:=by rfl)(a:(x==("__debug__":Str))=false:=by decide)
  (i:starEach (e::es) X.env=(false,eval e X.env)::starEach es X.env:=by rfl) (b:(backTo pos (starEach es X.env)).any (·.1)=false:=by rfl):PE X (.Call (.Name x p) (e::es) [] pos) (qgW sp EK t):=by
 obtain⟨f,fd,F,m,l,hb⟩:=D.ex;intro pins s σ H Q I h;show xy (qau I j m ?_ a);show xz (h₀:=X.base) I.ok.mod.kin l (thn (g pos pins s σ H _ I h) λus u ⟨vs,o,c,r,q⟩=>⟨c.kIn,?_⟩) i b;show qfL F n hb d c r q
theorem qci(D:MethOk X.prog X.w X.K X.mg X.base (CX1 X.prog X.w) k C m ps sp)(B:Room k X.A)(n:XOk X EK)(z:PE X o ta)(y:PA X (e::es) t)
  (c:starEach (e::es) X.env=(false,eval e X.env)::starEach es X.env:=by rfl) (b:(backTo pos (starEach es X.env)).any (·.1)=false:=by rfl)
  (E:eval (.Call (.Attribute o m apos) (e::es) [] pos) X.env=(do
   let ov <- eval o X.env
   standAt apos.atName
   let (f,first) <- holding [ov] (getMethod ov m pl)
   callWith pos f first (backTo pos (starEach (e::es) X.env)) (backToKw pos (keywordEach [] X.env))):=by rfl) :
  PE X (.Call (.Attribute o m apos) (e::es) [] pos) (qgX C m sp EK ta t):=by
 obtain⟨f,fd,F,i,hb⟩:=D.ex;intro pins s σ H Q I h;show xW (pl:=pl) (thn (z pins s σ H _ I h) λu L ⟨x,j,d,J,a,dx,fs,v,p,l,q⟩=>?_) E;subst v;obtain rfl:u=Value.ref a:=J;show qbZ d p D.cl i l ?_;show xz (first:=[.ref a]) (h₀:=X.base) I.ok.mod.kin i.kp (thn (y pos pins L σ j _ d q) λus N ⟨vs,M,g,r,G⟩=>⟨g.kIn,?_⟩) c b;show qfL (us:=.ref a::us) (vs:=.ref a::vs) F B hb n g (.cons rfl r) G
theorem qhx(D:XMakeOk X.prog X.w X.K X.mg X.base k C x ps sp)(h:Room (k+1) X.A)(c:PA X (e::es) t)(g:Gl X x:=by rfl)(a:(x==("__debug__":Str))=false:=by decide)
  (d:starEach (e::es) X.env=(false,eval e X.env)::starEach es X.env:=by rfl) (b:(backTo pos (starEach es X.env)).any (·.1)=false:=by rfl):PE X (.Call (.Name x p) (e::es) [] pos) (qfK C sp E0 t):=by
 obtain⟨f,fd,F,M,hb⟩:=D.ex;show pe_xmake M F h g D.mg_ hb qv c a d b
theorem qR(D:MethOk X.prog X.w X.K X.mg X.base CX0 k C m ps sp)(h:Room k X.A)(d:PE X o ta)(c:PA X (e::es) t)
  (b:starEach (e::es) X.env=(false,eval e X.env)::starEach es X.env:=by rfl) (a:(backTo pos (starEach es X.env)).any (·.1)=false:=by rfl)
  (i:eval (.Call (.Attribute o m apos) (e::es) [] pos) X.env=(do
   let ov <- eval o X.env
   standAt apos.atName
   let (f,first) <- holding [ov] (getMethod ov m pl)
   callWith pos f first (backTo pos (starEach (e::es) X.env)) (backToKw pos (keywordEach [] X.env))):=by rfl) :
  PE X (.Call (.Attribute o m apos) (e::es) [] pos) (qfx C m sp [] E0 ta t):=by
 obtain⟨f,fd,F,g,hb⟩:=D.ex;show pe_meth (pl:=pl) d D.cl g F h hb .nil qv c b a i
theorem qz(D:MethOk X.prog X.w X.K X.mg X.base CX0 k C m ps sp)(c:Room k X.A)(a:PE X o ta)
  (d:eval (.Call (.Attribute o m apos) [] [] pos) X.env=(do
   let ov <- eval o X.env
   standAt apos.atName
   let (f,first) <- holding [ov] (getMethod ov m pl)
   callWith pos f first (backTo pos (starEach [] X.env)) (backToKw pos (keywordEach [] X.env))):=by rfl) :
  PE X (.Call (.Attribute o m apos) [] [] pos) (qfx C m sp [] E0 ta qfr):=by
 obtain⟨f,fd,F,b,hb⟩:=D.ex;show pe_meth0 (pl:=pl) a D.cl b F c hb .nil qv d
end
section
variable{P:Program}{w:World}{K:yh}{mg:Str->Option Value}{base:Heap}
theorem Fun.ok1{st:Stmt}{k:Nat}(F:Fun K x qual st f fd)(S:FnScope N ps (qf st))(len:∀ vs H Q E,sp vs H Q E->vs.length=ps.length)
  (c:∀(b:Value) (A:Around) (a:List Env) (s:Shared) (H:Hp) (vs:List V) (Q:VK) (E:XK),Room k (A.deeper (envOfC qual (qf st) s.heap.objs.size f b))->sp vs H Q E ->
   ∃ t,PSs (qgN (CX1 P w) P w K mg base N qual (qf st) f b A a s H E) (zD st) t/\t { nx:=λ_ H'=>Q .non H',rt:=Q } (start N vs) H):FnOk P w K mg base (CX1 P w) (k+1) f fd ps sp:=by
 obtain⟨m,od,kV,g,n,l,b,ct,j,rfl,i,d⟩:=F.ex;show qhT i d S len λA a s H vs Q E h e=>c b A a s H vs Q E h e
end
abbrev Cx.tried(X:Cx)(pn:List (Addr×Obj))(E:Value->Shared->Prop):Cx:={ X with pn:=pn,xe:=E }
abbrev Cx.hand(X:Cx)(a:Addr):Cx:={ X with A:=X.A.mark (some (.ref a)),calm:=false,xe:=λ_ _=>False }
section
variable{X:Cx}{pins pins':List (Addr×Obj)}{σ:St}{H:Hp}{s:Shared}{E:Value->Shared->Prop}{a:Addr}
theorem Inv.tried(I:Inv X pins σ H s)(E:Value->Shared->Prop):Inv (X.tried (X.pn++pins) E) [] σ H s:=
 ⟨⟨I.ok.mod,I.ok.kind,I.ok.glob,I.ok.blt,I.ok.above,I.ok.inj,I.ok.has,I.ok.cab,I.ok.hd,I.ok.frames,I.ok.stk,I.ok.exf,I.ok.bs,I.ok.bsz,I.ok.noex,I.ok.exfs,I.ok.funs,I.ok.frf⟩,I.os,I.bare,I.base,I.loc,I.cell,I.free,I.freeC,
  λp a=>I.pin p (by have a:p∈(X.pn++pins)++[]:=a;rw[Yb] at a;show a),I.hok,I.len⟩
theorem Inv.untried(I:Inv (X.tried (X.pn++pins) E) pins' σ H s):Inv X pins σ H s:=
 ⟨⟨I.ok.mod,I.ok.kind,I.ok.glob,I.ok.blt,I.ok.above,I.ok.inj,I.ok.has,I.ok.cab,I.ok.hd,I.ok.frames,I.ok.stk,I.ok.exf,I.ok.bs,I.ok.bsz,I.ok.noex,I.ok.exfs,I.ok.funs,I.ok.frf⟩,I.os,I.bare,I.base,I.loc,I.cell,I.free,I.freeC,
  λp a=>I.pin p (YB _ a),I.hok,I.len⟩
theorem Inv.hand(I:Inv X pins σ H s)(a:Addr):Inv (X.hand a) pins σ H s:=
 ⟨⟨I.ok.mod,I.ok.kind,I.ok.glob,I.ok.blt,I.ok.above,I.ok.inj,I.ok.has,I.ok.cab,(λh=>nomatch h),I.ok.frames,I.ok.stk,I.ok.exf,I.ok.bs,I.ok.bsz,I.ok.noex,I.ok.exfs,I.ok.funs,I.ok.frf⟩,I.os,I.bare,I.base,I.loc,I.cell,I.free,I.freeC,I.pin,I.hok,I.len⟩
theorem Inv.unhand(hc:X.calm=true->X.A.handled=none)(I:Inv (X.hand a) pins σ H s):Inv X pins σ H s:=
 ⟨⟨I.ok.mod,I.ok.kind,I.ok.glob,I.ok.blt,I.ok.above,I.ok.inj,I.ok.has,I.ok.cab,hc,I.ok.frames,I.ok.stk,I.ok.exf,I.ok.bs,I.ok.bsz,I.ok.noex,I.ok.exfs,I.ok.funs,I.ok.frf⟩,I.os,I.bare,I.base,I.loc,I.cell,I.free,I.freeC,I.pin,I.hok,I.len⟩
structure Loose(X:Cx)(pins:List (Addr×Obj))(H:Hp)(T:Addr):Prop where
 hn:H T=none
 lo:X.s₀.heap.objs.size<=T
 nl:T≠X.env.locals
 nf:T∉X.fs
 nc:∀ x c,X.env.cells.lookup x=some c->c≠T
 np:∀ p∈X.pn++pins,p.1≠T
theorem Inv.loose(I:Inv X pins σ H s){T:Addr}(a:s.heap.objs.size<=T)(hn:H' T=none):Loose X pins H' T where
 hn:=hn
 lo:=yj I.sz a
 nl:=xJ (yk I.lt a)
 nf:=I.nofs a
 nc:=λx c e=>by
  obtain⟨v,o,b,_⟩:=I.cell x c e;show Yj (yk (yO b) a)
 np:=λp d=>Yj (yk (yO (I.pin p d).1) a)
theorem Inv.noted{T:Addr}(I:Inv X pins σ H s)(f:H a=some (XO a C dx))(k:Keep (frs X.stack) zs s.heap h')(h:∀ b∈zs,b=a\/Loose X pins H b)(t:Trc h' a (.ref C) dx T fl) :
  Inv X pins σ H { s with heap:=h' }:=by
 have j:=qdc I f k (λb hb=>(h b hb).imp (λe=>e) λl=>l.hn) t;have i:∀ b,H b=none->b∉zs.filter (λb=>decide (b≠a))->b∉zs:=λb n z y=>z (yq.mpr ⟨y,yx λe=>by rw[e,f] at n;cases n⟩);show I.call (g':=s.gens) (t':=s.toks) (d':=s.drawn) (ch:=zs.filter λb=>decide (b≠a)) ⟨λb o e n hb d=>k.keep b o e (i b n d) hb,λb o e n hb d=>k.slot b o e (i b n d) hb,λ_ _ _ n _=>n,λb o e d=>?_,λ_ _ e=>e,λ_ _ _ e=>e,
  λb ps e=>⟨#[],by rw[e];simp⟩⟩ j I.bare λb hb=>?_
 .by_cases c:b=a
  .subst c;obtain⟨vs,q,_⟩:=t.ex;show⟨_,q⟩
  .have z:b∉zs:=λy=>d (yq.mpr ⟨y,yx c⟩);by_cases g:b∈frs X.stack
   .obtain⟨m,q⟩:=k.slot b o e z g;show⟨_,q⟩
   .show⟨o,k.keep b o e z g⟩
 .obtain⟨y,q⟩:=yq.mp hb;rcases h b y with e | l
  .show absurd e (yl q)
  .show⟨.inr l.lo,l.nl,l.nc,l.np⟩
theorem unbind_ok{i:Nat}{Q:Unit->Shared->Prop}(I:Inv X pins σ H s)(J:X.N.Nodup)(B:X.N[i]?=some x)(f:X.env.scope.names.lookup x=some .local)(hv:σ[i]?=some (some v))
  (h:∀ s',Inv X pins (σ.set i none) H s'->Q () s'):wpAny M A (unbindName X.env x) Q E s:=by
 obtain⟨m,L,hl⟩:=id I.loc;obtain⟨u,ru,P⟩:=hl i x v B hv (.inl f)
 have K:m x=some u:=by
  rcases P with⟨_,e⟩ | ⟨k,_⟩
  .show e
  .have k':X.env.scope.names.lookup x=some .cell\/X.env.scope.names.lookup x=some .free:=k;rw[f] at k';rcases k' with z | z<;>cases z
 have r:(X.env.scope.kind==.class||(X.env.scope.kind==.module&&X.env.locals != X.env.globals))=false:=by rw[I.ok.kind];rfl
 show wpAny_unbindName_local f L K r λh' u' F g=>?_;have a:∀ b o,X.s₀.heap.get? b=some o->b≠X.env.locals:=λb o e=>Yj (yk (yO e) I.ok.above);show h _ ⟨I.ok,I.os,I.bare,⟨λb o e n hb f=>?_,λb o e n hb f=>?_,I.base.free,λb o e f=>?_,I.base.tups,I.base.frzs,I.base.tbls⟩,⟨_,F,λj y Z l t G=>?_⟩,λy c e=>?_,I.free,I.freeC,λp O=>?_,λb U e=>?_,by simpa using I.len⟩
 .show(g.2 b (a b o e)).trans (I.base.keep b o e n hb f)
 .obtain⟨Y,l⟩:=I.base.slot b o e n hb f;show⟨Y,(g.2 b (a b o e)).trans l⟩
 .obtain⟨T,l⟩:=I.base.there b o e f;show⟨T,(g.2 b (a b o e)).trans l⟩
 .by_cases C:j=i
  .subst C;have D:j<σ.length:=by rw[I.len];show(yc.mp B).1
   rw[Xu D] at t;cases t
  .rw [xB (Yw C)] at t;obtain⟨w,W,q⟩:=hl j y Z l t G;show⟨w,W,?_⟩;rcases q with⟨k,e⟩ | ⟨k,c,e,z⟩
   .have S:y≠x:=λe=>C (qc8 J l (e ▸ B));show .inl ⟨k,by simp[S,e]⟩
   .show .inr ⟨k,c,e,z.sameBut g (I.cne y c e)⟩
 .obtain⟨w,z⟩:=I.cell y c e;show⟨w,z.sameBut g (I.cne y c e)⟩
 .obtain⟨e,n,ne,R,d⟩:=I.pin p O;show⟨(g.2 p.1 ne).trans e,n,ne,R,d⟩
 .show(I.hok b U e).stay (λc w hc q=>(g.2 c ?_).trans q) (λ_ q=>q) λ_ _ q=>q;rintro rfl;rcases hc with rfl | hc
  .rw [I.free] at e;cases e
  .rw [I.free] at hc;cases hc
end
structure Held(X:Cx)(pins:List (Addr×Obj))(H:Hp)(h:Heap)(a C:Addr)(dx:Option Addr):Prop where
 at_:H a=some (XO a C dx)
 tr:∃ T,Trc h a (.ref C) dx T .none/\Loose X pins H T
def PH(X:Cx)(a C:Addr)(dx:Option Addr)(b:List ExceptHandler)(c:TS):Prop:=
 ∀(pins:List (Addr×Obj)) (s:Shared) (σ:St) (H:Hp) (D:Ends),Inv X pins σ H s->Held X pins H s.heap a C dx->c D σ H->wpAny (model X.prog X.w) X.A (handleBy (.ref a) X.env b) (SP X pins D) X.xe s
def thNil:TS:=λ_ _ _=>False
def thAs(K:yh)(a C D:Addr)(i:Nat)(d rest:TS):TS:=λZ σ H=>∃ b,PySem.W.mroIn K C (.ref D)=some b/\XAt K D/\XAt K C /\
 if b=true then d { nx:=λc H'=>Z.nx (c.set i none) H',rt:=Z.rt,bk:=λc H'=>Z.bk (c.set i none) H',ct:=λc H'=>Z.ct (c.set i none) H' } (σ.set i (some (.ref a))) H else rest Z σ H
def thNo(K:yh)(C D:Addr)(a rest:TS):TS:=λZ σ H=>∃ b,PySem.W.mroIn K C (.ref D)=some b/\XAt K D/\XAt K C/\if b=true then a Z σ H else rest Z σ H
theorem qgY{K:yh}{o:Obj}{Q:Bool->Shared->Prop}(X:K.In s.heap)(l:s.heap.get? a=some o)(hc:o.cls=.ref C)(d:XAt K D)(hb:PySem.W.mroIn K C (.ref D)=some b)(q:Q b s) :
  wpAny M A (excMatches (.ref a) (.ref D)) Q E s:=by
 obtain⟨nm,B,N,bs,i,h,F,m,n,col,p,u,v,w,x,y,e,j⟩:=qeN X d.xc;have c:(Value.ref D::i).contains (.type "BaseException")=true:=by rw[Yt,qbB j (by simp),kG]
 have f:=tc_notTuple;have L:=xG (M:=M) X hb;obtain⟨t,g,r,tk,z⟩:=s;unfold excMatches
 repeat (first | with_reducible show YL e ?_ | (with_reducible show YL l ?_;rw[hc]) | (with_reducible show xH e ?_;rw[c]) | with_reducible show L.at ?_ | wp_step)
 cases b<;>(wp_walk;show q)
section
variable{X:Cx}{a C D:Addr}{dx:Option Addr}{c n:Str}{cp pos:Pos}{b0:Stmt}{body:List Stmt}{rest:List ExceptHandler}{tb tr:TS}{i:Nat}{K:yh}
theorem qfM:PH X a C dx [] thNil:=λ_ _ _ _ _ _ _ h=>h.elim
theorem suite_as{R:Result->Shared->Prop}{e:Value}
  (h:wpAny (model prog w) A (setFlight e none) (λ_ a=>wpAny (model prog w) A (bindName env n e) (λ_ b=>wpAny (model prog w) A (execs (b0::body) env) (λf c=>R (.ok f) c) (λ_ _=>False) b) (λ_ _=>False) a) (λ_ _=>False) s) :
  codeAny (model prog w) A (.handlers e [.ExceptHandler none (some n) (b0::body) pos] env) R s:=by
 show Ki ?_;show wpAny _ A (do return Fin.done (<- (handleWith e env [.ExceptHandler none (some n) (b0::body) pos]).onRaise (λx=>do noteFrame x env;theTreesLotGoes x))) _ _ s;show yt (wpAny_noted ?_);unfold handleWith;show yt (XT (yt (Yx h (λ_ a h1=>yt (Yx h1 (λ_ b d=>yt (wpAny_attempt (Yx d (λf c g=>yA (yA g)) λ_ _ z=>z.elim))) λ_ _ z=>z.elim)) λ_ _ z=>z.elim)))
theorem qgD(W:X.K=K)(y:X.N.Nodup)(x:X.N[i]?=some n)(m:X.env.scope.names.lookup n=some .local)(hg:Gl X c)(hm:X.mg c=some (.ref D))(hb:PSs (X.hand a) (b0::body) tb)(hr:PH X a C dx rest tr)
  (E:(c==("__debug__":Str))=false:=by decide):PH X a C dx (.ExceptHandler (some (.Name c cp)) (some n) (b0::body) pos::rest) (thAs K a C D i tb tr):=by
 subst W;intro pins s σ H Z I hl h;obtain⟨b,B,xd,xc,q⟩:=h;obtain⟨vs,Y⟩:=(show IsX H a C dx from .inr hl.at_).get I.hok;show wpAny_handleBy_cons (codeAny_handlers_test ?_) (by intro q;cases q);have U:=I.hand a;show qau (X:=X.hand a) U hg hm (qgY I.kIn Y rfl xd B ?_) E
 cases b with
 | false=>show hr pins s σ H Z I hl q
 | true =>
  obtain⟨T,t,lo⟩:=hl.tr;show suite_as (qcC t λh1 t1 M aa=>?_);have kk:Keep (frs X.stack) [T] s.heap h1:=⟨λb o e z _=>M b o (by simpa using z) e,λb o e z _=>⟨o.slots,M b o (by simpa using z) e⟩⟩;have P:=I.noted hl.at_ kk (λb hb=>.inr (by rw[yw.mp hb];show lo)) t1;have R:=P.hand a;show wpAny_bindName (qce (X:=X.hand a) R y x (.inl m) (v:=.ref a) rfl (λs2 S=>?_) (.inr m));have q':tb { nx:=λd H'=>Z.nx (d.set i none) H',rt:=Z.rt,bk:=λd H'=>Z.bk (d.set i none) H',ct:=λd H'=>Z.ct (d.set i none) H' } (σ.set i (some (.ref a))) H:=q;show thn (hb pins s2 _ H _ S q') λf O p=>?_
  have j:∀{d:St} {H':Hp} {Q:Unit->Shared->Prop},Inv (X.hand a) pins d H' O->(∀ l,Inv X pins (d.set i none) H' l->Q () l)->wpAny (model X.prog X.w) X.A (do bindName X.env n .none;unbindBehindTheSuite X.env n pos) Q X.xe O:=λ{d H' Q} J k=>by
   have G:=Inv.unhand I.ok.hd J;have F:i<d.length:=by rw[G.len];show(yc.mp x).1
   show yt (wpAny_bindName (qce G y x (.inl m) (v:=.non) rfl (λl g=>?_) (.inr m)));show wpAny_onRaise (unbind_ok g y x m (v:=.non) (by rw[Xu F]) λs5 L=>k s5 ?_);rw[List.set_set] at L;show L
  cases f with
  | next=>obtain⟨d,H',J,z⟩:=p;show j J λl g=>⟨_,H',g,z⟩
  | brk=>obtain⟨d,H',J,z⟩:=p;show j J λl g=>⟨_,H',g,z⟩
  | cont=>obtain⟨d,H',J,z⟩:=p;show j J λl g=>⟨_,H',g,z⟩
  | ret u=>obtain⟨v,d,H',J,r,z⟩:=p;show j J λl g=>⟨v,_,H',g,r,z⟩
theorem qhy(n:X.K=K)(w:Gl X c)(x:X.mg c=some (.ref D))(hb:PSs (X.hand a) (b0::body) tb)(y:PH X a C dx rest tr)(j:(c==("__debug__":Str))=false:=by decide) :
  PH X a C dx (.ExceptHandler (some (.Name c cp)) none (b0::body) pos::rest) (thNo K C D tb tr):=by
 subst n;intro pins s σ H Z I hl h;obtain⟨b,i,xd,L,q⟩:=h;obtain⟨vs,p⟩:=(show IsX H a C dx from .inr hl.at_).get I.hok;show wpAny_handleBy_cons (codeAny_handlers_test ?_) (by intro q;cases q);show qau (X:=X.hand a) (I.hand a) w x (qgY I.kIn p rfl xd i ?_) j
 cases b with
 | false=>show y pins s σ H Z I hl q
 | true =>
  obtain⟨T,t,lo⟩:=hl.tr;show codeAny_handlers_suite (qcC t λh1 F l E=>?_);have A:Keep (frs X.stack) [T] s.heap h1:=⟨λb o e z _=>l b o (by simpa using z) e,λb o e z _=>⟨o.slots,l b o (by simpa using z) e⟩⟩;have m:=I.noted hl.at_ A (λb hb=>.inr (by rw[yw.mp hb];show lo)) F;have B:tb Z σ H:=q;show Yx (hb pins _ σ H Z (m.hand a) B) (λf G g=>?_) λ_ _ z=>z.elim
  cases f with
  | next=>obtain⟨d,H',J,z⟩:=g;show⟨d,H',Inv.unhand I.ok.hd J,z⟩
  | brk=>obtain⟨d,H',J,z⟩:=g;show⟨d,H',Inv.unhand I.ok.hd J,z⟩
  | cont=>obtain⟨d,H',J,z⟩:=g;show⟨d,H',Inv.unhand I.ok.hd J,z⟩
  | ret u=>obtain⟨v,d,H',J,r,z⟩:=g;show⟨v,d,H',Inv.unhand I.ok.hd J,r,z⟩
end
def tTry(X:Cx)(b:List Stmt)(g:List ExceptHandler)(te:TS):TS:=λD σ H=>∃(d:St->XK) (e:TS),(∀ pn xe,XOk (X.tried pn xe) d->PSs (X.tried pn xe) b e) /\
 e { nx:=te D,rt:=D.rt,bk:=D.bk,ct:=D.ct } σ H/\∀(a C:Addr) (dx:Option Addr) (c:St) (H':Hp),d c (.ref C) dx H'->H' a=some (XO a C dx)->∃ f,PH X a C dx g f/\f D c H'
section
variable{X:Cx}{body orelse:List Stmt}{h0:ExceptHandler}{hs:List ExceptHandler}{pos:Pos}{te:TS}
theorem qfN(hc:X.calm=true)(j:X.stack=X.env::X.outer)(y:X.env.frame=some X.env.locals)(ho:PSs X orelse te):PS X (.Try body (h0::hs) orelse [] pos) (tTry X body (h0::hs) te):=by
 intro pins s σ H D I h;obtain⟨R,tb,hb,q,hh⟩:=h;have E:X.A.frames=some (X.env::X.outer):=by rw[<- j];show I.ok.frames
 let m:Value->Shared->Prop:=λe d=>∃(a C:Addr) (dx:Option Addr) (c:St) (H':Hp),e=.ref a/\Inv X pins c H' d/\H' a=some (XO a C dx)/\R c (.ref C) dx H' /\
  ((∃ T,Trc d.heap a (.ref C) dx T .none/\Loose X pins H' T)\/∃ a0,d.heap.get? a=some ⟨.ref C,dx,.fields (xfs a0),#[]⟩)
 have Y:XOk (X.tried (X.pn++pins) m) R:=by
  show⟨λpins' c L d e s2 J l=>?_,λpins' c L d a C dx J e z=>?_,hc⟩
  .obtain⟨a,C,dx,T,H',rfl,P,N,un,O,n,t,hT,M,z⟩:=l;have p:=J.call' (s':=s2) (H':=H') (ch:=[]) P un O N (λb z=>absurd z (by simp));have G:=Inv.untried J;show⟨a,C,dx,c,H',rfl,Inv.untried p,n,z,.inl ⟨T,t,G.loose hT M⟩⟩
  .have G:=Inv.untried J;obtain⟨⟨a0,l⟩,_⟩:=(show ObjOk _ _ L d.heap a (XN a C dx) from G.hok a _ e);have p:Inv X pins c (upd L a (XO a C dx)) d:=G.write (x:=a) (e:=a) (o:=XO a C dx) (h':=d.heap) (t':=d.toks) (by rw[e];show YQ) (.inl rfl) (λ_ _ _ q=>q) ⟨_,l⟩ (XO.ok l);show⟨a,C,dx,c,_,rfl,p,qc,z,.inr ⟨a0,l⟩⟩
 have B:=hb (X.pn++pins) m Y [] s σ H _ (I.tried m) q;show wpAny_Try_except (Yx B (λf d K=>?_) λe d he=>?_)
 .cases f with
  | next=>obtain⟨c,H',J,z⟩:=K;show ho pins d c H' D (Inv.untried J) z
  | brk=>obtain⟨c,H',J,z⟩:=K;show⟨c,H',Inv.untried J,z⟩
  | cont=>obtain⟨c,H',J,z⟩:=K;show⟨c,H',Inv.untried J,z⟩
  | ret u=>obtain⟨v,c,H',J,r,z⟩:=K;show⟨v,c,H',Inv.untried J,r,z⟩
 .obtain⟨a,C,dx,c,H',rfl,J,n,z,tt⟩:=he;obtain⟨th,hp,hq⟩:=hh a C dx c H' z n;have F:d.heap.FunFrames X.base (X.env::X.outer):=by rw[<- j];show J.stack
  have go:∀(h':Heap) (i:Addr) (zs:LI),d.heap.objs.size<=i->Trc h' a (.ref C) dx i (rawInt X.env.locals)->Keep (frs (X.env::X.outer)) zs d.heap h'->(∀ b∈zs,b=a\/Loose X pins H' b) ->
    wpAny (model X.prog X.w) X.A (setFlight (.ref a) none) (λ_ s3=>wpAny (model X.prog X.w) X.A (handleBy (.ref a) X.env (h0::hs)) (SP X pins D) X.xe s3) X.xe { d with heap:=h' }:=λh' i zs g t' k hz=>by
   have lo:=J.loose g (J.hok.fresh g);have p:=J.noted n (by rw[j];show k) hz t';show qcC (s:={ d with heap:=h' }) t' λZ U S aa=>?_;have kk:Keep (frs X.stack) [i] h' Z:=⟨λb o e z _=>S b o (by simpa using z) e,λb o e z _=>⟨o.slots,S b o (by simpa using z) e⟩⟩;have W:=p.noted n kk (λb hb=>.inr (by rw[yw.mp hb];show lo)) U;show hp pins _ c H' D W ⟨n,i,U,lo⟩ hq
  rcases tt with⟨T,t,lo⟩ | ⟨a0,l⟩
  .show qeQ (base:=X.base) E F y t λh' i g t' k=>go h' i _ g t' k λb hb=>?_;simp only[yF,yW,YT] at hb;rcases hb with rfl | rfl
   .show .inl rfl
   .show .inr lo
  .show qdY (base:=X.base) E F y l rfl rfl λh' i g t' k=>go h' i _ g t' k λb hb=>?_;show .inl (yw.mp hb)
end
def TyX(K:yh)(H:Hp)(x:V)(t:Value):Prop:=TyOf K H x t\/∃ a C dx,x=.ref a/\t=.ref C/\IsX H a C dx/\XAt K C/\∀ d,dx=some d->∃ fs,H d=some (.xd fs)
theorem TyX.kit{x:V}(I:Inv X pins σ H s)(e:RelV x u)(ty:TyX X.K H x t):∃ P:Heap->Prop,PySem.W.KitX X.K u t P/\P s.heap/\u≠.builtin "__main__.__loader__#opaque":=by
 rcases ty with ty | ⟨a,C,dx,rfl,rfl,hx,c,hd⟩
 .show ty.kit I e
 .cases e;obtain⟨vs,b⟩:=hx.get I.hok
  cases dx with
  | none=>show⟨_,qeO (od:=none) c,⟨b,rfl,rfl,YQ⟩,λz=>nomatch z⟩
  | some d =>
   obtain⟨fs,f⟩:=hd d rfl;obtain⟨od,g,h1,_⟩:=qgR I f;show⟨_,qeO (od:=some od) c,⟨b,rfl,rfl,h1⟩,λz=>nomatch z⟩
def qh3(K:yh):List V->Hp->VK->Prop:=λxs H Q=>∃ x y t c b,xs=[x,y]/\TyX K H x t/\qdU y=some c/\PySem.W.kitOne K t c=some b/\Q (.bl b) H
def qfO(K:yh):List V->Hp->VK->Prop:=λxs H Q=>∃ x p ys t a b,xs=[x,.ref p]/\TyX K H x t/\H p=some (.tup ys)/\ys.map qdU=a.map some/\PySem.W.kitAny K t a=some b/\Q (.bl b) H
section
variable{X:Cx}{K:yh}
theorem zi(a:X.K=K):zR X (.builtin "isinstance") (qh3 K):=by
 subst a;intro pins s σ H xs us Q I r h;obtain⟨x,y,t,c,b,rfl,ty,d,hb,q⟩:=h;obtain⟨u,v,rfl,f,g⟩:=qfw r;have e:=qc0 d g;subst e;obtain⟨P,Z,p,ne⟩:=ty.kit I f;show PySem.W.kia_one Z I.kIn p hb ne λtk=>⟨.bl b,H,I.tok tk,rfl,q⟩
theorem qdd(i:X.K=K):zR X (.builtin "isinstance") (qfO K):=by
 subst i;intro pins s σ H xs us Q I r h;obtain⟨x,p,ys,t,B,b,rfl,ty,m,y,hb,q⟩:=h;obtain⟨u,v,rfl,A,f⟩:=qfw r;cases f;obtain⟨P,Z,z,ne⟩:=ty.kit I A;obtain⟨_,its,f,o,l,hc,n,j⟩:=(show ObjOk X.prog X.w H s.heap p (.tup ys) from I.hok p _ m);have e:=qcB y f;subst e;obtain⟨c,C,g,D⟩:=o;have a:c=.type "tuple":=hc;have d:g=.seq its.toArray n:=j;subst a d;show PySem.W.kia_tup Z I.kIn z l hb ne λtk=>⟨.bl b,H,I.tok tk,rfl,q⟩
end
mutual
inductive EqD(K:yh)(H:Hp):Nat->V->V->Bool->Prop
 | flat {n:Nat} {x y:V} (fx:zS x=true) (fy:zS y=true):EqD K H n x y (eqV x y)
 | self {n:Nat} {a:Addr}:EqD K H n (.ref a) (.ref a) true
 | deep {n:Nat} {a b:Addr} {k:Bool} (h:EqT K H n a b k) (ne:a≠b):EqD K H n (.ref a) (.ref b) k
inductive EqT(K:yh)(H:Hp):Nat->Addr->Addr->Bool->Prop
 | lst {n:Nat} {a b:Addr} {xs ys:List V} {e:Nat->Bool} (ha:SqL K H a xs) (hb:SqL K H b ys) (hl:xs.length=ys.length) (he:∀ j x y,xs[j]?=some x->ys[j]?=some y->EqD K H n x y (e j)):EqT K H (n+1) a b ((List.range xs.length).all e)
 | lstL {n:Nat} {a b:Addr} {xs ys:List V} (ha:SqL K H a xs) (hb:SqL K H b ys) (hl:xs.length≠ys.length):EqT K H (n+1) a b false
 | tup {n:Nat} {a b:Addr} {xs ys:List V} {e:Nat->Bool} (ha:SqT K H a xs) (hb:SqT K H b ys) (he:∀ j x y,xs[j]?=some x->ys[j]?=some y->EqD K H n x y (e j)):EqT K H (n+1) a b ((List.range (min xs.length ys.length)).all e&&xs.length==ys.length)
 | lt {n:Nat} {a b:Addr} {xs ys:List V} (ha:SqL K H a xs) (hb:SqT K H b ys):EqT K H (n+1) a b false
 | tl {n:Nat} {a b:Addr} {xs ys:List V} (ha:SqT K H a xs) (hb:SqL K H b ys):EqT K H (n+1) a b false
end
theorem jU:∀{xs:List V} {us:List Value} {j:Nat} {u:Value},Vals xs us->us[j]?=some u->∃ x,xs[j]?=some x/\RelV x u
 | _,_,_,_,.nil,e=>by simp at e
 | _,_,0,_,.cons r _,e=>by simp at e;subst e;show⟨_,rfl,r⟩
 | _,_,j+1,u,.cons _ t,e=>by
  obtain⟨x,h1,a⟩:=jU (j:=j) (u:=u) t (by simpa using e);show⟨x,by simpa using h1,a⟩
section
variable{X:Cx}{pins:List (Addr×Obj)}{σ:St}{H:Hp}{s:Shared}
theorem qej(I:Inv X pins σ H s):∀ n,(∀(A:Around) (x y:V) (k:Bool) (u v:Value),EqD X.K H n x y k->RelV x u->RelV y v->A.units+n<cLine->SeqAt.EqAt A s u v k)/\(∀(A:Around) (a b:Addr) (k:Bool),EqT X.K H n a b k->A.units+n<cLine->SeqAt.RcAt A s (.ref a) (.ref b) k):=by
 intro n
 induction n with
 | zero =>
  have G:∀(A:Around) (a b:Addr) (k:Bool),EqT X.K H 0 a b k->A.units+0<cLine->SeqAt.RcAt A s (.ref a) (.ref b) k:=λA a b k h=>by cases h
  show⟨λA x y k u v h g i B=>?_,G⟩
  cases h with
  | flat fx fy=>show qfB g i fx fy
  | self=>cases g;cases i;show kz _
  | deep h ne=>cases h
 | succ n ih =>
  have E:∀(A:Around) (a b:Addr) (k:Bool),EqT X.K H (n+1) a b k->A.units+(n+1)<cLine->SeqAt.RcAt A s (.ref a) (.ref b) k:=λA a b k h B=>by
   have f:A.units<cLine:=by lk
   have o:A.in1.units+n<cLine:=by show A.units+1+n<cLine;lk
   cases h with
   | @lst _ _ _ xs ys e ha hb hl he =>
    obtain⟨its,r,pl,q⟩:=I.list ha;obtain⟨c,m,d,l⟩:=I.list hb;have p:xs.length=its.toArray.size:=by rw[yB];show r.length
    have t:ys.length=c.toArray.size:=by rw[yB];show m.length
    rw[p];show SeqAt.RcAt.lists pl.isList d.isList (by rw[<- p,<- t,hl]) f λj h1 F=>?_;have w:its[j]?=some its.toArray[j]:=by simp
    have z:c[j]?=some c.toArray[j]:=by simp
    obtain⟨x,C,g⟩:=jU r w;obtain⟨y,D,i⟩:=jU m z;show ih.1 A.in1 x y (e j) _ _ (he j x y C D) g i o
   | @lstL _ _ _ xs ys ha hb hl =>
    obtain⟨its,r,pl,q⟩:=I.list ha;obtain⟨c,m,d,l⟩:=I.list hb;show SeqAt.RcAt.lists_lengths pl.isList d.isList ?_ f;rw[yB,yB,<- r.length,<- m.length];simp[hl]
   | @tup _ _ _ xs ys e ha hb he =>
    obtain⟨its,r,pl,q⟩:=I.tuple ha;obtain⟨c,m,d,l⟩:=I.tuple hb;have p:xs.length=its.toArray.size:=by rw[yB];show r.length
    have t:ys.length=c.toArray.size:=by rw[yB];show m.length
    rw[p,t];show SeqAt.RcAt.tuples pl d f λj h1 F=>?_;have w:its[j]?=some its.toArray[j]:=by simp
    have z:c[j]?=some c.toArray[j]:=by simp
    obtain⟨x,C,g⟩:=jU r w;obtain⟨y,D,i⟩:=jU m z;show ih.1 A.in1 x y (e j) _ _ (he j x y C D) g i o
   | lt ha hb =>
    obtain⟨its,r,pl,q⟩:=I.list ha;obtain⟨c,m,d,l⟩:=I.tuple hb;show SeqAt.RcAt.list_tuple pl.isList d f
   | tl ha hb =>
    obtain⟨its,r,pl,q⟩:=I.tuple ha;obtain⟨c,m,d,l⟩:=I.list hb;show SeqAt.RcAt.tuple_list pl d.isList f
  show⟨λA x y k u v h g i B=>?_,E⟩
  cases h with
  | flat fx fy=>show qfB g i fx fy
  | self=>cases g;cases i;show kz _
  | deep h ne=>cases g;cases i;show SeqAt.EqAt.of_refs ne (E A _ _ k h B)
theorem ne_refs(I:Inv X pins σ H s){n:Nat}{A:Around}{a b:Addr}{k:Bool}(h:EqT X.K H n a b k)(B:A.units+n<cLine):SeqAt.RcNeAt A s (.ref a) (.ref b) (!k):=by
 cases n with
 | zero=>cases h
 | succ n =>
  have w:=qej I n;have f:A.units<cLine:=by lk
  have l:A.in1.units+n<cLine:=by show A.units+1+n<cLine;lk
  cases h with
  | @lst _ _ _ xs ys e ha hb hl he =>
   obtain⟨its,r,pl,o⟩:=I.list ha;obtain⟨c,i,d,g⟩:=I.list hb;have m:xs.length=its.toArray.size:=by rw[yB];show r.length
   have p:ys.length=c.toArray.size:=by rw[yB];show i.length
   rw[m];show SeqAt.RcNeAt.lists pl.isList d.isList (by rw[<- m,<- p,hl]) f λj h1 z=>?_;obtain⟨x,q,u⟩:=jU r (show its[j]?=some its.toArray[j] by simp);obtain⟨y,t,v⟩:=jU i (show c[j]?=some c.toArray[j] by simp);show w.1 A.in1 x y (e j) _ _ (he j x y q t) u v l
  | @lstL _ _ _ xs ys ha hb hl =>
   obtain⟨its,r,pl,o⟩:=I.list ha;obtain⟨c,i,d,g⟩:=I.list hb;show SeqAt.RcNeAt.lists_lengths pl.isList d.isList ?_ f;rw[yB,yB,<- r.length,<- i.length];simp[hl]
  | @tup _ _ _ xs ys e ha hb he =>
   obtain⟨its,r,pl,o⟩:=I.tuple ha;obtain⟨c,i,d,g⟩:=I.tuple hb;have m:xs.length=its.toArray.size:=by rw[yB];show r.length
   have p:ys.length=c.toArray.size:=by rw[yB];show i.length
   rw[m,p];show SeqAt.RcNeAt.tuples pl d f λj h1 z=>?_;obtain⟨x,q,u⟩:=jU r (show its[j]?=some its.toArray[j] by simp);obtain⟨y,t,v⟩:=jU i (show c[j]?=some c.toArray[j] by simp);show w.1 A.in1 x y (e j) _ _ (he j x y q t) u v l
  | lt ha hb =>
   obtain⟨its,r,pl,o⟩:=I.list ha;obtain⟨c,i,d,g⟩:=I.tuple hb;show SeqAt.RcNeAt.list_tuple pl.isList d f
  | tl ha hb =>
   obtain⟨its,r,pl,o⟩:=I.tuple ha;obtain⟨c,i,d,g⟩:=I.list hb;show SeqAt.RcNeAt.tuple_list pl d.isList f
theorem qgZ{A:Around}{x y:V}{u v:Value}(e:RelV x u)(c:RelV y v)(f:zS x=true)(d:zS y=true):SeqAt.RcAt A s u v (eqV x y)/\SeqAt.RcNeAt A s u v (!eqV x y):=by
 cases x with
 | non =>
  cases e
  cases y with
  | non=>cases c;show⟨SeqAt.RcAt.none_none,SeqAt.RcNeAt.none_none⟩
  | bl b=>cases c;show⟨SeqAt.RcAt.none_bool b,SeqAt.RcNeAt.none_bool b⟩
  | int b=>obtain⟨t,rfl⟩:=c;show⟨SeqAt.RcAt.none_int b t,SeqAt.RcNeAt.none_int b t⟩
  | str b=>obtain⟨t,rfl⟩:=c;show⟨SeqAt.RcAt.none_str b t,SeqAt.RcNeAt.none_str b t⟩
  | _=>cases d
 | bl a =>
  cases e
  cases y with
  | non=>cases c;show⟨SeqAt.RcAt.bool_none a,SeqAt.RcNeAt.bool_none a⟩
  | bl b=>cases c;show⟨SeqAt.RcAt.bool_bool a b,SeqAt.RcNeAt.bool_bool a b⟩
  | int b=>obtain⟨t,rfl⟩:=c;show⟨SeqAt.RcAt.bool_int a b t,SeqAt.RcNeAt.bool_int a b t⟩
  | str b=>obtain⟨t,rfl⟩:=c;show⟨SeqAt.RcAt.bool_str a b t,SeqAt.RcNeAt.bool_str a b t⟩
  | _=>cases d
 | int a =>
  obtain⟨t',rfl⟩:=e
  cases y with
  | non=>cases c;show⟨SeqAt.RcAt.int_none a t',SeqAt.RcNeAt.int_none a t'⟩
  | bl b=>cases c;show⟨SeqAt.RcAt.int_bool a t' b,SeqAt.RcNeAt.int_bool a t' b⟩
  | int b=>obtain⟨t,rfl⟩:=c;show⟨SeqAt.RcAt.int_int a t' b t,SeqAt.RcNeAt.int_int a t' b t⟩
  | str b=>obtain⟨t,rfl⟩:=c;show⟨SeqAt.RcAt.int_str a t' b t,SeqAt.RcNeAt.int_str a t' b t⟩
  | _=>cases d
 | str a =>
  obtain⟨t',rfl⟩:=e
  cases y with
  | non=>cases c;show⟨SeqAt.RcAt.str_none a t',SeqAt.RcNeAt.str_none a t'⟩
  | bl b=>cases c;show⟨SeqAt.RcAt.str_bool a t' b,SeqAt.RcNeAt.str_bool a t' b⟩
  | int b=>obtain⟨t,rfl⟩:=c;show⟨SeqAt.RcAt.str_int a t' b t,SeqAt.RcNeAt.str_int a t' b t⟩
  | str b=>obtain⟨t,rfl⟩:=c;show⟨SeqAt.RcAt.str_str a t' b t,SeqAt.RcNeAt.str_str a t' b t⟩
  | _=>cases d
 | _=>cases f
end
def qg0(K:yh)(c:Bool):R2:=λx y H Q=>(zS x=true/\zS y=true/\Q (.bl (if c then !eqV x y else eqV x y)) H) \/
 (∃ a b k n,x=.ref a/\y=.ref b/\n<=60/\EqT K H n a b k/\Q (.bl (if c then !k else k)) H) \/
 (∃ a kvs,x=.ref a/\y=.ref a/\H a=some (.dK kvs)/\Q (.bl (!c)) H)
theorem qcD{b:Type}[DecidableEq b]:∀{a:List (b×Value)} {k:b} {v:Value},(a.map (·.1)).Nodup->(k,v)∈a->valueAt a k=some v
 | [],_,_,_,h=>by cases h
 | (k',v')::r,k,v,hn,h=>by
  obtain⟨h1,c⟩:=yp.mp (show(k'::r.map (·.1)).Nodup from hn);unfold valueAt;rw[xD];by_cases e:k'=k
  .subst e;simp only[decide_true];rcases yF.mp h with z | z
   .cases z;rfl
   .show absurd (yJ.mpr ⟨(k',v),z,rfl⟩) h1
  .simp only[e,Kw];rcases yF.mp h with z | z
   .cases z;show absurd rfl e
   .show qcD c z
theorem qek{A:Around}{s:Shared}{c:Type}[DecidableEq c](a:List (c×Value))(d:(a.map (·.1)).Nodup):∀ f:List (c×Value),(∀ p∈f,p∈a)->PySem.W.KeqHits A s a f true
 | [],_=>.nil
 | (k,v)::r,h=>by
  have hv:valueAt a k=some v:=qcD d (h (k,v) yL);show .hit (e:=true) (b:=true) hv (kz v) (qek a d r λp g=>h p (yz _ g))
section
variable{X:Cx}{K:yh}
theorem k_eqU(m:X.K=K)(p:X.A.units+100<cLine):OpR X (compareOp .Eq) (qg0 K false):=by
 subst m;intro pins s σ H x y u v Q I c f h;rcases h with⟨j,l,q⟩ | ⟨a,b,k,n,rfl,rfl,o,e,q⟩ | ⟨a,kvs,rfl,rfl,i,q⟩
 .show(qgZ c f j l).1 _ _ _ _ ⟨.bl _,H,I,rfl,q⟩
 .cases c;cases f;show(qej I n).2 X.A a b k e (by lk) _ _ _ _ ⟨.bl _,H,I,rfl,q⟩
 .cases c;cases f;obtain⟨_,g,vs,r,d⟩:=(show ObjOk X.prog X.w H s.heap a (.dK kvs) from I.hok a _ i);obtain⟨_,_,_,_,_,_,_,_,nd⟩:=id d;show PySem.W.keq_eq g g d d (by lk) (λ_=>qek vs nd vs λ_ h=>h) ?_;rw[Y8];show⟨.bl true,H,I,rfl,q⟩
theorem zT(m:X.K=K)(p:X.A.units+100<cLine):OpR X (compareOp .NotEq) (qg0 K true):=by
 subst m;intro pins s σ H x y u v Q I c f h;rcases h with⟨j,l,q⟩ | ⟨a,b,k,n,rfl,rfl,o,e,q⟩ | ⟨a,kvs,rfl,rfl,i,q⟩
 .show(qgZ c f j l).2 _ _ _ _ ⟨.bl _,H,I,rfl,q⟩
 .cases c;cases f;show ne_refs I e (by lk) _ _ _ _ ⟨.bl _,H,I,rfl,q⟩
 .cases c;cases f;obtain⟨_,g,vs,r,d⟩:=(show ObjOk X.prog X.w H s.heap a (.dK kvs) from I.hok a _ i);obtain⟨_,_,_,_,_,_,_,_,nd⟩:=id d;show PySem.W.keq_ne g g d d (by lk) (λ_=>qek vs nd vs λ_ h=>h) ?_;rw[Y8];show⟨.bl false,H,I,rfl,q⟩
end
section
variable{X:Cx}{K:yh}
def qiE(K:yh):R2:=λx y H Q=>rIx K x y H Q\/∃ a v,x=.ref a/\DGet H a y (some v)/\Q v H
theorem qB(f:X.K=K)(m:X.A.units+100<cLine):IxR X (qiE K):=by
 subst f;show IxR.or ix_seq ?_;intro d c pins s σ H x y v u Q I j l h i;obtain⟨a,z,rfl,g,q⟩:=h;cases j;show tail_any (dict_typeIs I g) PySem.F.slot_dict_getitem.lookup (d_getItem (by lk) I g l λo n e b=>⟨z,H,e,b,q⟩) i
def rSetU:qhP:=λo i v H Q=>rSetL o i v H Q\/∃ a H',o=.ref a/\DPut H a i v H'/\Q H'
theorem qca(j:X.A.units+100<cLine):qih X rSetU:=by
 intro pins s σ H o i v f iv u Q I c b d h;rcases h with h | ⟨a,H',rfl,g,q⟩
 .show set_list pins s σ H o i v f iv u Q I c b d h
 .cases c;show d_setItem (by lk) I g b d λs' e=>⟨H',e,q⟩
def qgE(K:yh)(b:Bool):R2:=λx y H Q=>rIn K b x y H Q\/(∃ a o,y=.ref a/\DGet H a x o/\Q (.bl (if b then !o.isSome else o.isSome)) H) \/
 (∃ p xs e n,y=.ref p/\SqL K H p xs/\n<=60/\(∀ z∈xs,EqD K H n z x (e z))/\Q (.bl (if b then !xs.any e else xs.any e)) H)
theorem qfP{pins:List (Addr×Obj)}{σ:St}{H:Hp}{s:Shared}{xs:List V}{its:List Value}{x:V}{u:Value}{e:V->Bool}{n:Nat}{A:Around}(I:Inv X pins σ H s)(r:Vals xs its)(v:RelV x u)(t:A.units+n<cLine)(p:∀ z∈xs,EqD X.K H n z x (e z)) :
  ∃ i:Value->Bool,(∀ w,w∈its.toArray->SeqAt.EqAt A s w u (i w))/\its.toArray.any i=xs.any e:=by
 classical
 show⟨λw=>decide (∃ z∈xs,RelV z w/\e z=true),λw hw=>?_,?_⟩
 .have f:w∈its:=by simpa using hw
  obtain⟨j,d⟩:=ki.mp f;obtain⟨z,a,b⟩:=jU r d;have l:=yf a
  have o:decide (∃ z∈xs,RelV z w/\e z=true)=e z:=by
   cases q:e z with
   | true=>show yx ⟨z,l,b,q⟩
   | false =>
    show ym λ⟨y,_,g,m⟩=>?_;rw[RelV.inj g b,q] at m;cases m
  show SeqAt.EqAt A s w u (decide (∃ z∈xs,RelV z w/\e z=true));rw[o];show(qej I n).1 A z x (e z) w u (p z l) b v t
 .rw [yT,xA];constructor
  .intro h;have h':its.any (λw=>decide (∃ z∈xs,RelV z w/\e z=true))=true:=by simpa using h
   obtain⟨w,_,q⟩:=xA.mp h';obtain⟨z,a,_,c⟩:=yl q;show⟨z,a,c⟩
  .rintro ⟨z,a,c⟩;obtain⟨j,d⟩:=ki.mp a;obtain⟨w,hw,b⟩:=r.get d;have:its.any (λw=>decide (∃ z∈xs,RelV z w/\e z=true))=true:=xA.mpr ⟨w,yf hw,yx ⟨z,a,b,c⟩⟩;simpa using this
theorem qaO(j:X.K=K)(l:X.A.units+100<cLine):OpR X (compareOp .In) (qgE K false):=by
 subst j;intro pins s σ H x y u v Q I b c h;rcases h with h | ⟨a,o,rfl,g,q⟩ | ⟨p,xs,e,n,rfl,hl,hn,he,q⟩
 .show op_in_seq pins s σ H x y u v Q I b c h
 .cases c;show qic (by lk) I g b λs' d=>⟨.bl _,H,d,rfl,q⟩
 .cases c;obtain⟨its,r,pl,m⟩:=I.list hl;obtain⟨f,h1,i⟩:=qfP (A:=X.A.in1) I r b (by show X.A.units+1+n<cLine;lk) he;show SeqAt.in_listAt f pl.isList h1 (by rw[i];show⟨.bl _,H,I,rfl,q⟩)
theorem zc(j:X.K=K)(l:X.A.units+100<cLine):OpR X (compareOp .NotIn) (qgE K true):=by
 subst j;intro pins s σ H x y u v Q I b c h;rcases h with h | ⟨a,o,rfl,g,q⟩ | ⟨p,xs,e,n,rfl,hl,hn,he,q⟩
 .show op_notIn_seq pins s σ H x y u v Q I b c h
 .cases c;show d_notIn (by lk) I g b λs' d=>⟨.bl _,H,d,rfl,q⟩
 .cases c;obtain⟨its,r,pl,m⟩:=I.list hl;obtain⟨f,h1,i⟩:=qfP (A:=X.A.in1) I r b (by show X.A.units+1+n<cLine;lk) he;show SeqAt.notIn_listAt f pl.isList h1 (by rw[i];show⟨.bl _,H,I,rfl,q⟩)
def rListU(K:yh):List V->Hp->VK->Prop:=λxs H Q=>(∃ p ys,xs=[.ref p]/\(SqL K H p ys\/SqT K H p ys)/\∀ l,H l=none->Q (.ref l) (upd H l (.lst ys))) \/
 (∃ p kvs,xs=[.ref p]/\H p=some (.dK kvs)/\∀ l,H l=none->Q (.ref l) (upd H l (.lst (kvs.map λa=>kV a.1)))) \/
 (∃ x,xs=[.str x]/\x.length<=1000/\∀ l,H l=none->Q (.ref l) (upd H l (.lst (x.cps.toList.map λc=>.str ⟨#[c]⟩))))
theorem qc1{c d:Type}{F:c->d->Prop}:∀{l:List c} {m:List d} {j:Nat} {a:c},Paired F l m->l[j]?=some a->∃ b,m[j]?=some b/\F a b
 | _,_,_,_,.nil,e=>by simp at e
 | _,_,0,_,.cons r _,e=>by simp at e;subst e;show⟨_,rfl,r⟩
 | _,_,j+1,a,.cons _ t,e=>by
  obtain⟨b,h1,f⟩:=qc1 (j:=j) (a:=a) t (by simpa using e);show⟨b,by simpa using h1,f⟩
theorem qb1:∀{ys:List V} {us:List Value},ys.length=us.length->(∀(j:Nat) y u,ys[j]?=some y->us[j]?=some u->RelV y u)->Vals ys us
 | [],[],_,_=>.nil
 | [],_::_,h,_=>by cases h
 | _::_,[],h,_=>by cases h
 | y::ys,u::us,h,q=>.cons (q 0 y u rfl rfl) (qb1 (Nat.succ.inj h) λj c b h1 a=>q (j+1) c b (by simpa using h1) (by simpa using a))
theorem qb2(L:X.K=K)(hc:X.calm=true):zR X (.type "list") (rListU K):=by
 subst L;intro pins s σ H xs us Q I r h;rcases h with h | ⟨p,kvs,rfl,ea,q⟩ | ⟨x,rfl,hx,q⟩
 .show call_list_of pins s σ H xs us Q I r h
 .obtain⟨u,rfl,N⟩:=qbX r;cases N;obtain⟨D,M,vs,E,d⟩:=(show ObjOk X.prog X.w H s.heap p (.dK kvs) from I.hok p _ ea);obtain⟨ep,n⟩:=d.dictAt;have hl:kvs.length=vs.length:=E.length;show PySem.W.kdl_call (PySem.W.kdl_dict (knd:=jm X.prog X.w) (kvs:=vs) (ep:=ep) M) (I.ok.hd hc) n (by rw[<- hl];show D) λh' tk a f A e it=>?_;obtain⟨o,v⟩:=it
  have hv:Vals (kvs.map λb=>kV b.1) a.toList:=by
   show qb1 (by rw[ya,hl,<- o];simp) λj y u h1 g=>?_;obtain⟨k,x,l,G⟩:=v j u (by simpa using g);rw[ye] at h1
   cases B:kvs[j]? with
   | none=>rw[B] at h1;cases h1
   | some b =>
    rw[B] at h1;cases h1;obtain⟨P,C,J,O⟩:=qc1 E B;rw[l] at C;cases C;have F:b.1=k:=J;show RelV (kV b.1) u;rw[F];rcases q8 (show qee k u=true from G) with⟨i,t,rfl,rfl⟩ | ⟨z,t,rfl,rfl⟩
    .show⟨t,rfl⟩
    .show⟨t,rfl⟩
  show⟨.ref s.heap.objs.size,_,I.laid (t':=tk) A (yi _) (show ObjOk X.prog X.w _ h' _ (.lst (kvs.map λb=>kV b.1)) from⟨by rw[ya];show D,a.toList,f,hv,by simpa using e⟩),rfl,q _ (I.hok.fresh (yi _))⟩
 .obtain⟨u,rfl,t,rfl⟩:=qbX r;have hsz:x.cps.size<=sizeLine:=yN (qg hx);show call_list_str (I.ok.hd hc) x t (λh' tk a f A e it=>?_) hsz;obtain⟨o,v⟩:=it
  have hv:Vals (x.cps.toList.map λc=>V.str ⟨#[c]⟩) a.toList:=by
   show qb1 (by rw[ya];simp[o]) λj y u h1 g=>?_;obtain⟨c,t',l,rfl⟩:=v j u (by simpa using g);rw[ye] at h1;have m:x.cps.toList[j]?=some c:=by simpa using l
   rw[m] at h1;cases h1;show⟨t',rfl⟩
  show⟨.ref s.heap.objs.size,_,I.laid (t':=tk) A (yi _) (show ObjOk X.prog X.w _ h' _ (.lst (x.cps.toList.map λc=>V.str ⟨#[c]⟩)) from⟨by rw[ya];simpa using hsz,a.toList,f,hv,by simpa using e⟩),rfl,q _ (I.hok.fresh (yi _))⟩
end
structure CMethOk(P:Program)(w:World)(K:yh)(mg:Str->Option Value)(base:Heap)(CX:CXT)(k:Nat)(C:Addr)(x m:Str)(ps:LS)(sp:Sp):Prop where
 ex:∃ f fd,FnOk P w K mg base CX k f fd ps sp/\CMeth K C m f/\Binds K fd ps []
 mg_:mg x=some (.ref C)
section
variable{X:Cx}{k:Nat}{C:Addr}{ps:LS}{sp:Sp}{x m:Str}{p pos apos:Pos}{e:Expr}{es:List Expr}{t:TA}
theorem qbC(D:MakeOk X.prog X.w X.K X.mg X.base CX0 k C x ps sp)(h:Room (k+1) X.A)(c:PA X (e::es) t)(g:Gl X x:=by rfl)(a:(x==("__debug__":Str))=false:=by decide)
  (d:starEach (e::es) X.env=(false,eval e X.env)::starEach es X.env:=by rfl) (b:(backTo pos (starEach es X.env)).any (·.1)=false:=by rfl):PE X (.Call (.Name x p) (e::es) [] pos) (qhu C sp [] E0 t):=by
 obtain⟨f,fd,F,M,hb⟩:=D.ex;show pe_make M F h g D.mg_ hb .nil qv c a d b
theorem qde{pl:Sem Bool}(D:CMethOk X.prog X.w X.K X.mg X.base CX0 k C x m ps sp)(h:Room k X.A)(d:PA X (e::es) t)(g:Gl X x:=by rfl)(a:(x==("__debug__":Str))=false:=by decide)
  (c:starEach (e::es) X.env=(false,eval e X.env)::starEach es X.env:=by rfl) (b:(backTo pos (starEach es X.env)).any (·.1)=false:=by rfl)
  (i:eval (.Call (.Attribute (.Name x p) m apos) (e::es) [] pos) X.env=(do
   let ov <- eval (.Name x p) X.env
   standAt apos.atName
   let (f,first) <- holding [ov] (getMethod ov m pl)
   callWith pos f first (backTo pos (starEach (e::es) X.env)) (backToKw pos (keywordEach [] X.env))):=by rfl) :
  PE X (.Call (.Attribute (.Name x p) m apos) (e::es) [] pos) (qfg sp [] E0 t):=by
 obtain⟨f,fd,F,M,hb⟩:=D.ex;show pe_clsm (pl:=pl) M F h g D.mg_ hb qv d a c b i
end
theorem own_eq_same{prog:Program}{w:World}{A:Around}{E:Value->Shared->Prop}{s:Shared}{K:yh}{x C:Addr}{ox:Obj}{od:Option Obj}{Q:Value->Shared->Prop}(l:A.units<cLine)(X:K.In s.heap)(I:PySem.W.InstAt s.heap x ox C od)
  (j:PySem.W.findIn K (.ref C) "__eq__"=some (some (.builtin "object.__eq__"))) (g:PySem.W.mroIn K C (.type "object")=some true) (h:Q (.bool true) s):wpAny (model prog w) A (richCompare .Eq (.ref x) (.ref x)) Q E s:=by
 have a:∀{f:Around} {d:Value->Shared->Prop},d (.bool true) s->wpAny (model prog w) f (call (.builtin "object.__eq__") [.ref x,.ref x]) d E s:=λ{f d} q=>by
  show xP (Y9 PySem.F.slot_object_eq.plain PySem.F.entry_object_eq (@PySem.W.check_slot (model prog w) _ _ s "object.__eq__" "object" "__eq__" (.ref x) [.ref x] [] _ (by room) (by room) (I.type.andThen (xG X g)) (PySem.F.args_object_eq_2 _ _) ?_));show yt (yA (yt (wpAny_isSame_ref_self ?_)));show yA q
 have one:wpAny (model prog w) A (tryCompare (.ref x) "__eq__" (.ref x)) (λr s'=>∃ v,r=some v/\Q v s') E s:=by
  unfold tryCompare;show yt ?_;simp only[callSpecialIfBound?,bindSpecialIfBound?];show YG (yt (yt (yt (I.type.here ((YN X j).here ?_)))));show yt (Ka (wpAny_ite ?_));have b:=PySem.F.slot_object_eq.bind (.ref x)
  have c:wpAny (model prog w) A (call (.builtin "object.__eq__") ([.ref x]++[.ref x])>>=λv=>pure (some v)) (λr s'=>wpAny (model prog w) A (match r with | some .notImplemented | none=>pure none | some v=>pure (some v)) (λr s'=>∃ v,r=some v/\Q v s') E s') E s:=
   yt (a (yA (yA ⟨_,rfl,h⟩)))
  split
  .show yt (xu b (yA c))
  .show wpAny_tryCatch (yt (xu b (yA c)))
 unfold richCompare;simp only[oneThing_ref];show YG (yt (wpAny_cRoomFor l ?_));show yt (I.type.here (yt (I.type.here ?_)));rw[yE (by simp)];show yt (yA ?_);simp only[kI,k7];show yt (Yx one (λr s' z=>?_) λ_ _ e=>e);obtain⟨v,rfl,i⟩:=z;show yA i
structure OEq(K:yh)(C:Addr):Prop where
 eq:PySem.W.findIn K (.ref C) "__eq__"=some (some (.builtin "object.__eq__"))
 ob:PySem.W.mroIn K C (.type "object")=some true
def qiF(K:yh):R2:=λx y H Q=>qg0 K false x y H Q\/∃ a C dx fs,x=.ref a/\y=.ref a/\H a=some (.ins C dx fs)/\OEq K C/\Q (.bl true) H
theorem k_eqW{X:Cx}{K:yh}(d:X.K=K)(e:X.A.units+100<cLine):OpR X (compareOp .Eq) (qiF K):=by
 subst d;intro pins s σ H x y u v Q I b c h;rcases h with h | ⟨a,C,dx,fs,rfl,rfl,ea,oe,q⟩
 .show k_eqU rfl e pins s σ H x y u v Q I b c h
 .cases b;cases c;obtain⟨f,O,_⟩:=qbY I.hok ea;obtain⟨od,J,_⟩:=O.look;show own_eq_same (by lk) I.kIn J oe.eq oe.ob ⟨.bl true,H,I,rfl,q⟩
theorem je{X:Cx}:MtR X "list.append" rAppend:=mt_append
theorem mtR_pop{X:Cx}:MtR X "list.pop" rPop:=mt_pop
theorem mtR_popAt{X:Cx}:MtR X "list.pop" rPopAt:=mt_popAt
theorem zL:bootBuiltins "ValueError"=some (.type "ValueError"):=by room
section
variable{D:Ends}{σ:St}{H:Hp}{Q:VK}{t u:TS}{te ta tb tc:TE}{tas:TA}{K:yh}{sp:Sp}{E:XK}{EK:St->XK}{C:Addr}{f m:Str}
theorem vFldU(h:ta σ H λx a=>FlUR K f x a Q):qh1 K ta f σ H Q:=h
theorem vSFldU(h:te σ H λy a=>ta σ a λx b=>SFUR K f x y b (D.nx σ)):qh2 K ta te f D σ H:=h
theorem vXMake(h:tas σ H λvs a=>vs.length<=1000/\∀ x,a x=none->sp (.ref x::vs) (upd a x (XN x C none)) (λv b=>v=.non/\Q (.ref x) b) E):qfK C sp E tas σ H Q:=h
theorem vMake(h:tas σ H λvs a=>∀ x dx,a x=none->a dx=none->dx≠x->sp (.ref x::(vs++[])) (upd (upd a dx (.own x)) x (.ins C dx [])) (λv b=>v=.non/\Q (.ref x) b) E):qhu C sp [] E tas σ H Q:=h
theorem vMeth(h:ta σ H λx a=>MeR C m x a (tas σ a λvs b=>sp (x::(vs++[])) b Q E)):qfx C m sp [] E ta tas σ H Q:=h
theorem vVinit(h:tas σ H λvs b=>∃ a C y,vs=[.ref a,y]/\b a=some (XN a C none)/\XAt K C/\Q .non b):qgS K tas σ H Q:=h
theorem vCallS(h:tas σ H λvs a=>sp vs a Q (EK σ)):qgW sp EK tas σ H Q:=h
theorem vMethS(h:ta σ H λx a=>MeR C m x a (tas σ a λvs b=>sp (x::vs) b Q (EK σ))):qgX C m sp EK ta tas σ H Q:=h
theorem vMakeS(h:tas σ H λvs a=>∀ x dx,a x=none->a dx=none->dx≠x->sp (.ref x::vs) (upd (upd a dx (.own x)) x (.ins C dx [])) (λv b=>v=.non/\Q (.ref x) b) (EK σ)):tMakeS C sp EK tas σ H Q:=h
theorem vRaise(h:te σ H λx b=>∃ a C dx,x=.ref a/\b a=some (XN a C dx)/\XAt K C/\EK σ (.ref C) dx (upd b a (XO a C dx))):qgV K EK te D σ H:=h
theorem qaB{x y:V}{t a:Value}{b:Bool}(ty:TyX K H x t)(c:qdU y=some a)(hb:PySem.W.kitOne K t a=some b)(h:Q (.bl b) H):qh3 K [x,y] H Q:=⟨x,y,t,a,b,rfl,ty,c,hb,h⟩
end
section
variable{prog:Program}{w:World}{A:Around}{E:Value->Shared->Prop}{s:Shared}
theorem none_dict{a:Addr}{Q:Value->Shared->Prop}(d:s.TypeIs (.ref a) "dict")(e:A.units<cLine)(h:Q (.bool false) s):wpAny (model prog w) A (richCompare .Eq .none (.ref a)) Q E s:=by
 show SeqAt.rc_eq_decline_or (k:=false) rfl d (by decide) PySem.F.sub_dict_NoneType Y7 PySem.F.slot_dict_eq_refl
  (λ_ c=>call_gives Y7 rfl PySem.F.entry_NoneType_eq (PySem.F.args_NoneType_eq_2 _ _) (SeqAt.NoneType___eq___none_ref_0 a) c) (λf c=>?_) (λ_ c=>xu (rfl:isSame .none (.ref a)=pure false) c) (.inr e) h
 show wpAny_call_entry PySem.F.slot_dict_eq_refl d PySem.F.entry_dict_eq ?_ (PySem.F.args_dict_eq_2 _ _);show wpAny _ _ (Builtin.Dict.dictSlotArgs "__eq__" ⟨[.ref a,.none],[]⟩>>=_) _ _ s;show yt ?_;unfold Builtin.Dict.dictSlotArgs;show yt (wpAny_notOrdered_dict d ?_);show wpAny _ _ (pure (Value.ref a,Value.none)) _ _ s;show yA ?_;show yt (wpAny_isInstance (T:="NoneType") (b:=false) rfl PySem.F.sub_NoneType_dict ?_);simp only[Bool.not_false,XB];show yt (wpAny_rule (yA ⟨_,rfl,c⟩))
theorem none_own{K:yh}{x C:Addr}{ox:Obj}{od:Option Obj}{Q:Value->Shared->Prop}(i:A.units<cLine)(X:K.In s.heap)(I:PySem.W.InstAt s.heap x ox C od)(f:OEq K C)(g:PySem.W.mroIn K C (.type "NoneType")=some false)
  (h:Q (.bool false) s):wpAny (model prog w) A (richCompare .Eq .none (.ref x)) Q E s:=by
 have j:wpAny (model prog w) A (tryCompare .none "__eq__" (.ref x)) (λr s'=>r=none/\s'=s) E s:=by
  unfold tryCompare;show yt ?_;simp only[callSpecialIfBound?,bindSpecialIfBound?];show YG (yt (yt ?_));show yt (xu (rfl:typeOf .none=pure (.type "NoneType")) ?_);show xu Y7.lookup ?_;show yt (Ka (wpAny_ite ?_))
  have a:wpAny (model prog w) A (call (.builtin "NoneType.__eq__") ([.none]++[.ref x])>>=λv=>pure (some v)) (λr s'=>wpAny (model prog w) A (match r with | some .notImplemented | none=>pure none | some v=>pure (some v)) (λr s'=>r=none/\s'=s) E s') E s:=
   yt (call_gives Y7 rfl PySem.F.entry_NoneType_eq (PySem.F.args_NoneType_eq_2 _ _) (SeqAt.NoneType___eq___none_ref_0 x) (yA (yA ⟨rfl,rfl⟩)))
  split
  .show yt (xu (Y7.bind .none) (yA a))
  .show wpAny_tryCatch (yt (xu (Y7.bind .none) (yA a)))
 have l:wpAny (model prog w) A (tryCompare (.ref x) "__eq__" .none) (λr s'=>r=none/\s'=s) E s:=by
  unfold tryCompare;show yt ?_;simp only[callSpecialIfBound?,bindSpecialIfBound?];show YG (yt (yt (yt (I.type.here ((YN X f.eq).here ?_)))));show yt (Ka (wpAny_ite ?_));have b:=PySem.F.slot_object_eq.bind (.ref x)
  have c:∀{d:Value->Shared->Prop},d .notImplemented s->wpAny (model prog w) A (call (.builtin "object.__eq__") [.ref x,.none]) d E s:=λ{d} q=>by
   show xP (Y9 PySem.F.slot_object_eq.plain PySem.F.entry_object_eq (@PySem.W.check_slot (model prog w) _ _ s "object.__eq__" "object" "__eq__" (.ref x) [.none] [] _ (by room) (by room) (I.type.andThen (xG X f.ob)) (PySem.F.args_object_eq_2 _ _) ?_));show yt (yA (yt (xu (rfl:isSame (.ref x) .none=pure false) ?_)));show yA q
  have a:wpAny (model prog w) A (call (.builtin "object.__eq__") ([.ref x]++[.none])>>=λv=>pure (some v)) (λr s'=>wpAny (model prog w) A (match r with | some .notImplemented | none=>pure none | some v=>pure (some v)) (λr s'=>r=none/\s'=s) E s') E s:=
   yt (c (yA (yA ⟨rfl,rfl⟩)))
  split
  .show yt (xu b (yA a))
  .show wpAny_tryCatch (yt (xu b (yA a)))
 unfold richCompare;show YG (yt (wpAny_cRoomFor i ?_));show wpAny _ _ (typeOf .none>>=_) _ _ _;show yt (xu (rfl:typeOf .none=pure (.type "NoneType")) (yt (I.type.here ?_)));rw[yH (by rfl)];show yt ((xG X g).here ?_);simp only[kI,k7];show yt (Yx j (λr s' z=>?_) λ_ _ e=>e);obtain⟨rfl,rfl⟩:=z;simp only[Bool.not_false,XB];show yt (Yx l (λr s' z=>?_) λ_ _ e=>e);obtain⟨rfl,rfl⟩:=z;show yt (wpAny_rule (yt (xu (rfl:isSame .none (.ref x)=pure false) (yA h))))
end
def rNoneRef(K:yh):R2:=λx y H Q=>∃ a,x=.non/\y=.ref a/\((∃ xs,SqL K H a xs\/SqT K H a xs)\/(∃ kvs,H a=some (.dK kvs))\/∃ C dx fs,H a=some (.ins C dx fs)/\OEq K C/\PySem.W.mroIn K C (.type "NoneType")=some false)/\Q (.bl false) H
def qgF(K:yh):R2:=λx y H Q=>qiF K x y H Q\/rNoneRef K x y H Q
theorem jo{X:Cx}{K:yh}(e:X.K=K)(j:X.A.units+100<cLine):OpR X (compareOp .Eq) (qgF K):=by
 intro pins s σ H x y u v Q I f g h;rcases h with h | ⟨a,rfl,rfl,h,q⟩
 .show k_eqW e j pins s σ H x y u v Q I f g h
 .subst e;cases f;cases g;have b:EP X pins σ Q (.bool false) s:=⟨.bl false,H,I,rfl,q⟩;rcases h with⟨xs,hl | hl⟩ | ⟨kvs,c⟩ | ⟨C,dx,fs,c,l,i⟩
  .obtain⟨its,r,pl,_⟩:=I.list hl;show SeqAt.RcAt.none_list pl.isList (by lk) _ _ _ _ b
  .obtain⟨its,r,pl,_⟩:=I.tuple hl;show SeqAt.RcAt.none_tuple pl (by lk) _ _ _ _ b
  .obtain⟨_,_,vs,_,d⟩:=(show ObjOk X.prog X.w H s.heap a (.dK kvs) from I.hok a _ c);show none_dict d.typeIs (by lk) b
  .obtain⟨m,O,_⟩:=qbY I.hok c;obtain⟨od,J,_⟩:=O.look;show none_own (by lk) I.kIn J l i b
def XL(K:yh)(C:Addr)(d:List Value):Prop:=∃ nm l N bs a m b c col e f g h i j,K.lookup C=some (excClassObj nm l C N bs d a m b c col e f g h i j "ValueError.__new__")
section
variable{K:yh}{C D:Addr}{bm bn:List Value}
theorem XL.xat(x:XL K C bm)(hb:qdz bm=true)
  (c:PySem.W.findIn K (.ref C) "__getattribute__"=some (some (.builtin "BaseException.__getattribute__"))) (d:PySem.W.findIn K (.ref C) "__getattr__"=some none)
  (bx:PySem.W.mroIn K C (.type "BaseException")=some true) (g:PySem.W.mroIn K C (.type "object")=some true) (f:PySem.W.hasDictIn K C=true) (cl:PySem.W.findIn K (.ref C) "__class__"=some (some (.builtin "object.__class__")))
  (b:PySem.W.specialIn K (.builtin "object.__class__") "__get__"=some (some (.builtin "getset_descriptor.__get__"))) (ct:PySem.W.takesIn K (.builtin "object.__class__")=some true)
  (h:PySem.W.findIn K (.ref C) "__setattr__"=some (some (.builtin "object.__setattr__"))):XAt K C:=by
 obtain⟨nm,r,N,bs,a,s,i,j,col,l,m,n,o,p,q,e⟩:=x;show⟨c,d,bx,g,f,cl,b,ct,h,?_,?_⟩
 .unfold PySem.W.clsIn;rw[e];show hb
 .unfold qie;rw[e];simp[hb]
theorem XL.kit(x:XL K C bm)(y:XL K D bn):PySem.W.kitOne K (.ref C) (.ref D)=some ((Value.ref C::bm).contains (.ref D)):=by
 obtain⟨nm,I,N,bs,d,J,u,w,col,A,B,E,F,G,H,e⟩:=x;obtain⟨p,s,v,h,a,t,f,g,b,i,j,l,m,n,o,c⟩:=y;unfold PySem.W.kitOne PySem.W.kitCls;split
 .rename_i z
  have z:C=D:=Xz (Yo.mp z);subst z;simp
 .dsimp only;have q:(PySem.W.clsIn K D).isSome=true:=by unfold PySem.W.clsIn;rw[c];rfl
  have r:(PySem.W.typeIn K (.ref D)==some (.type "type"))=true:=by show((K.lookup D).map (·.cls)==_)=true;rw[c];rfl
  rw[yH (by rw[q,r];rfl)];unfold PySem.W.subIn PySem.W.mroIn PySem.W.clsIn;dsimp only;rw[e];rfl
theorem XL.kitT(x:XL K C bm){T:String}(h:PySem.W.kitMeta T=true):PySem.W.kitOne K (.ref C) (.type T)=some (bm.contains (.type T)):=by
 obtain⟨nm,m,N,bs,a,n,b,c,col,d,f,g,i,j,l,e⟩:=x;unfold PySem.W.kitOne PySem.W.kitCls;split
 .rename_i z
  show absurd (Yo.mp z) nofun
 .dsimp only;rw[yH h];unfold PySem.W.subIn PySem.W.mroIn PySem.W.clsIn;dsimp only;rw[e];show some ((Value.ref C::bm).contains _)=_;rw[Yt];rfl
abbrev qcS:List Value:=[.type "ValueError",.type "Exception",.type "BaseException",.type "object"]
theorem qfQ:qdz qcS=true:=by decide
theorem qdf{c:Addr}:qdz (.ref c::qcS)=true:=qfQ
theorem kits{K:yh}{a:LI}{c:Addr}(n:(a++[c]).Nodup)(h:∀ i,i<a.length->XL K (a.getD i c) (.ref c::qcS))(hc:XL K c qcS) :
  (∀ i j,i<a.length->j<a.length->PySem.W.kitOne K (.ref (a.getD i c)) (.ref (a.getD j c))=some (decide (i=j)))/\(∀ i,i<a.length+1->PySem.W.kitOne K (.ref (a.getD i c)) (.ref c)=some true) /\
  (∀ i,i<a.length+1->PySem.W.kitOne K (.ref (a.getD i c)) (.type "ValueError")=some true)/\∀ j,j<a.length->PySem.W.kitOne K (.ref c) (.ref (a.getD j c))=some false:=by
 have m:∀(j:Nat) (b:j<a.length),a.getD j c=a[j]:=λj b=>by simp[List.getD,b]
 have hl:a.getD a.length c=c:=by simp
 have g:∀ j,j<a.length->c≠a.getD j c:=λj b e=>by
  have s:=(YD.mp n).2.2 (a.getD j c) (by rw[m j b];show Xo b) c (by simp);show s e.symm
 show⟨λi j f b=>?_,λi f=>?_,λi f=>?_,λj b=>?_⟩
 .rw [(h i f).kit (h j b)]
  congr 1
  rw[Yt,Yt];have l:((Value.ref (a.getD j c))==Value.ref c)=false:=Yq.mpr λe=>g j b (Xz e).symm;have p:List.contains qcS (Value.ref (a.getD j c))=false:=rfl;rw[l,p];by_cases d:i=j
  .subst d;simp
  .have r:((Value.ref (a.getD j c))==Value.ref (a.getD i c))=false:=Yq.mpr λe=>by
    have e:=Xz e;rw[m i f,m j b] at e;have o:=YO.mp (YD.mp n).1;rcases Nat.lt_or_gt_of_ne d with q | q
    .show o i j f b q e.symm
    .show o j i b f q e
   rw[r];simp[d]
 .rcases Nat.lt_or_ge i a.length with hi' | hi'
  .rw [(h i hi').kit hc,Yt,Yt];simp
  .have:i=a.length:=by lk
   subst this;rw[hl,hc.kit hc];simp
 .rcases Nat.lt_or_ge i a.length with hi' | hi'
  .rw [(h i hi').kitT (by room)];rfl
  .have:i=a.length:=by lk
   subst this;rw[hl,hc.kitT (by room)];rfl
 .rw [hc.kit (h j b),Yt];have l:((Value.ref (a.getD j c))==Value.ref c)=false:=Yq.mpr λe=>g j b (Xz e).symm;rw[l];rfl
end
end L2
namespace HT
open PySem PySem.Spec PyProof.Rows
section
variable{prog:Program}{w:World}{A:Around}{E:Value->Shared->Prop}{s:Shared}
end
end HT
namespace L2
open PySem PySem.Spec PyProof.Rows
variable{H:Hp}{X:Cx}{es:List Expr}{pos:Pos}{σ:St}
def tRev(K:yh)(d:TE)(e:TO):TE:=fun σ H Q=>d σ H λx c=>e σ c λo b=>o=some (-1)/\∃ a y z,x=.ref a/\SqT K b a [y,z]/\∀ p,b p=none->Q (.ref p) (upd b p (.tup [z,y]))
theorem vRev{K:yh}{c:TE}{d:TO}{Q:VK}(h:c σ H λx e=>d σ e λo b=>o=some (-1)/\∃ a y z,x=.ref a/\SqT K b a [y,z]/\∀ p,b p=none->Q (.ref p) (upd b p (.tup [z,y]))):tRev K c d σ H Q:=h
section
variable{X:Cx}{K:yh}{e st:Expr}{te:TE}{ts:TO}{p2 pos:Pos}
def qel(K:yh):List V->Hp->VK->Prop:=λxs H Q=>∃ p ys,xs=[.ref p]/\((SqL K H p ys/\∀ l,H l=none->Q (.ref l) (upd H l (.tup ys)))\/(SqT K H p ys/\Q (.ref p) H))
theorem qaC(a:X.K=K):zR X (.type "tuple") (qel K):=by subst a;show call_tuple_of
end
theorem Inv.turnedL{a:List (Addr×Obj)}{s:Shared}{h':Heap}{t':Nat}{fp:LI}(I:Inv X a σ H s)(k:∀ b o,b∉fp->s.heap.get? b=some o->h'.get? b=some o)(f:∀ b∈fp,qea X a H b):Inv X a σ H { s with heap:=h',toks:=t' }:=by
 have d:∀ b u,H b=some u->b∉fp:=λb u e z=>by rw[(f b z).1] at e;cases e
 have l:X.env.locals∉fp:=λz=>(f _ z).2.1 rfl;show I.step (g':=s.gens) (d':=s.drawn) (ch:=fp) (λb hb=>?_) (λb o _ _ hc e _=>k b o hc e) (λb o _ _ hc e _=>⟨o.slots,k b o hc e⟩) (λ_ _ _ _ n=>n)
  (λb o hc e=>⟨o,k b o hc e⟩) (λ_ _ e=>e) (λ_ _ _ e=>e) (λb y e=>⟨#[],by rw[e];simp⟩) (λm p=>?_) (λb u e=>?_) I.bare
 .obtain⟨w,g,x,h,i,j⟩:=f b hb;show⟨h,g,i,j⟩
 .obtain⟨o,es,ep,t,r⟩:=p;show⟨o,es,ep,k _ o l t,r⟩
 .show(I.hok b u e).stay (λc v hc q=>k c v ?_ q) (λ_ q=>q) λ_ _ q=>q;rcases hc with z | z
  .rw [z];show d b u e
  .show d c _ z
def Ite(K:yh)(a:Addr):It:=
 ⟨λi H=>∃ xs x,SqL K H a xs/\xs[i]?=some x,λi H x H'=>∃ t y,x=.ref t/\H t=none/\H'=upd H t (.tup [.int i,y])/\∀ xs,SqL K H a xs->xs[i]?=some y,λi H=>∃ xs,SqL K H a xs/\xs.length<=i⟩
theorem qdZ{h:Heap}{o v:Obj}{b:Addr}(e:(h.push o).get? b=some v)(ne:b≠h.objs.size):h.get? b=some v:=(Heap.get?_push_cases e).elim (λz=>absurd z.1 ne) λz=>z
theorem turn_enum{P:Program}{w:World}{K:yh}{x1}(a e it:Addr)(q:e≠it):Turn P w K (.Tuple es x1 pos) (Ite K a) [e,it] e (λi h=>(∃ g,IsEnum h e it i g)/\h.IsListIter it a i) where
 mem:=by simp
 obj:=λi h st b hb=>by
  obtain⟨⟨g,m⟩,o,D,c,d⟩:=st;simp only[yF,yW,YT] at hb;rcases hb with rfl | rfl
  .show⟨_,m,λv z=>by
    have T:Data.fields _=Data.cell v:=z;cases T⟩
  .show⟨o,D,λv z=>by rw[d] at z;cases z⟩
 keep:=λi h h' st k=>by
  obtain⟨⟨g,m⟩,j⟩:=st;show⟨⟨g,k e (by simp) _ m⟩,j.at λo x=>k it (by simp) o x⟩
 item:=by
  intro X G hw F hc i l s σ H E I L st M;subst G hw F;obtain⟨⟨g,m⟩,j⟩:=st;obtain⟨xs,x,B,N⟩:=M;obtain⟨O,S,p,C⟩:=I.list B;obtain⟨u,hu,ru⟩:=S.get N;show wpAny_pyNext_enum_item m j p.isList (x:=u) (by simpa using hu) q λh' ho t hT hsz hk=>?_;show⟨_,rfl,wpAny_letOwnedTupleGo_enum ho λU J n=>?_⟩;have fre:H s.heap.objs.size=none:=I.hok.fresh (yi _);have A:s.heap.objs.size≠e:=xJ (yO m);have R:s.heap.objs.size≠it:=by obtain⟨o,D,_⟩:=j;show xJ (yO D)
  have W:Inv X l σ (upd H s.heap.objs.size (.tup [.int i,x])) { s with heap:=s.heap.push { cls:=.type "tuple",data:=.seq #[.int i s.toks,u] },toks:=s.toks+1 }:=
   I.laid (λb u e=>yv _ e) (yi _) ⟨wqqn,[.int i s.toks,u],.cons ⟨_,rfl⟩ (.cons ru .nil),⟨_,yS _ rfl,rfl,_,rfl⟩⟩
  have r:∀ b∈[e,it],qea X l (upd H s.heap.objs.size (.tup [.int i,x])) b:=λb hb=>by
   obtain⟨f0,f⟩:=L b hb;show⟨?_,f⟩;rw[qo]
   .show f0
   .simp only[yF,yW,YT] at hb;rcases hb with rfl | rfl
    .show A.symm
    .show R.symm
  have kk:∀ b o,b∉[e,it]->(s.heap.push { cls:=.type "tuple",data:=.seq #[.int i s.toks,u] }).get? b=some o->U.get? b=some o:=λb o hb z=>by
   simp only[yF,yW,YT,Ku] at hb;by_cases C:b=s.heap.objs.size
   .subst C;rw[yS _ rfl] at z;cases z;show(n.2 _ A).trans hT
   .show(n.2 b hb.1).trans (hk b o hb.1 hb.2 (qdZ z C))
  have Y:=W.turnedL (h':=U) (t':=s.toks+1) (fp:=[e,it]) kk r;show⟨.ref s.heap.objs.size,_,Y,rfl,⟨_,x,rfl,fre,rfl,λys hy=>by rw[I.list_inj hy B];show N⟩,⟨⟨_,by simpa using J⟩,t.at λo y=>(n.2 it q.symm).trans y⟩,λb hb=>(r b hb).1⟩
 done:=by
  intro X G hw F hc i l s σ H E I L st M;subst G hw F;obtain⟨⟨g,m⟩,j⟩:=st;obtain⟨xs,B,N⟩:=M;obtain⟨O,S,p,C⟩:=I.list B;have hl:=S.length;show wpAny_pyNext_enum_end (I.ok.hd hc) m j p.isList (kf (by simp;lk)) λh' Z=>⟨rfl,I.turnedL (t':=s.toks) (fp:=[e,it]) (λb o hb z=>Z b o (λT=>hb (by simp[T])) z) L⟩
 self:=λ_ _ _ _ _ st h=>by
  obtain⟨⟨g,m⟩,_⟩:=st;show wpAny_pyIter_enum m h
theorem boot_enumerate:bootBuiltins "enumerate"=some (.type "enumerate"):=by room
def qh4(K:yh)(c:TA):TI:=fun σ H R=>c σ H λvs b=>∃ a xs,vs=[.ref a]/\SqL K b a xs/\R (Ite K a) b
theorem qfR{K:yh}{a:Expr}{i:TA}{x1}{A p:Pos}(l:X.K=K)(n:Gl X "enumerate")(u:X.mg "enumerate"=none)(m:PA X [a] i)(w:starEach [a] X.env=[(false,eval a X.env)]:=by rfl):PI X (.Tuple es x1 A) (.Call (.Name "enumerate" p) [a] [] pos) (qh4 K i):=by
 subst l;intro d s σ H R I h;show Call_ (qb7 I n u boot_enumerate (xj (thn (m pos d s σ H _ I h) λus f ⟨vs,j,c,z,y⟩=>?_) w rfl));obtain⟨a,xs,e,v,q⟩:=y;subst e
 cases z with
 | cons r rr =>
  cases rr;cases r;obtain⟨x,C,pl,B⟩:=c.list v;show call_enumerate_list pl.isList λh' g o hsz t=>wpAny_pyIter_enum g ?_;show⟨_,[f.heap.objs.size+1,f.heap.objs.size],_,_,j,rfl,c.kept (t':=f.toks) t,turn_enum a _ _ (Nat.succ_ne_self _),⟨⟨_,g⟩,o⟩,λb hb=>?_,q⟩;simp only[yF,yW,YT] at hb;rcases hb with rfl | rfl
  .show c.fpOk (YV _) (c.hok.fresh (YV _))
  .show c.fpOk (yi _) (c.hok.fresh (yi _))
theorem qeR{K:yh}{a:Addr}{xs:List V}{g:TG}{l:TS}{D:Ends}(b:Nat->St->Hp->Prop)(n:b 0 σ H)(hl:∀ i σ H,i<=xs.length->b i σ H->SqL K H a xs)
  (s:∀ i x t σ H,xs[i]?=some x->H t=none->b i σ H->g (.ref t) σ (upd H t (.tup [.int i,x])) λd h=>l { D with nx:=b (i+1),ct:=b (i+1),bk:=D.nx } d h) (o:∀ σ H,b xs.length σ H->D.nx σ H) :
  ∃ W:Nat->Nat->St->Hp->Prop,(∃ m,W 0 m σ H)/\∀ i m σ H,W i m σ H ->
   ((Ite K a).stop i H/\D.nx σ H)\/((Ite K a).go i H/\∃ N:St->Hp->Prop,(∀ c H',N c H'->∃ j,j<m/\W (i+1) j c H')/\∀ x H',(Ite K a).yld i H x H'->g x σ H' λd h=>l { D with nx:=N,ct:=N,bk:=D.nx } d h):=by
 show⟨λi m σ H=>m=xs.length-i/\i<=xs.length/\b i σ H,⟨xs.length,by simp,Y5 _,n⟩,?_⟩;rintro i m σ H ⟨rfl,r,p⟩;have q:=hl i σ H r p;by_cases f:i<xs.length
 .show .inr ⟨⟨xs,xs[i],q,by simp[f]⟩,b (i+1),λc H' w=>⟨xs.length-(i+1),by lk,rfl,f,w⟩,λx H' y=>?_⟩;obtain⟨t,v,rfl,u,rfl,y⟩:=y;show s i v t σ _ (y xs q) u p
 .have e:i=xs.length:=by lk
  subst e;show .inl ⟨⟨xs,q,yi _⟩,o σ H p⟩
theorem vEnum{K:yh}{b:TA}{R:It->Hp->Prop}(h:b σ H λvs c=>∃ a xs,vs=[.ref a]/\SqL K c a xs/\R (Ite K a) c):qh4 K b σ H R:=h
section
variable{X:Cx}
end
end L2
namespace L2
open PySem PySem.Spec PyProof.Rows PySem.Builtin PySem.Builtin.Str
theorem vDGet2{e ty f:TE}{b:St}{H:Hp}{Q:VK}(h:e b H λx c=>∃ a,x=.ref a/\IsD c a/\ty b c λy g=>f b g λz d=>∃ o,DGet d a y o/\Q (o.getD z) d):tDGet2 e ty f b H Q:=h
end L2
namespace L2
open PySem PySem.Spec PyProof.Rows
theorem eqV_strD(a b:Str):eqV (.str a) (.str b)=decide (a=b):=by
 have e:eqV (.str a) (.str b)=(a==b):=by simp[eqV]
 rw[e,yT,Yo,yC]
theorem qd0:∀(ys:LS) (y:Str) (m:Nat) (b:m<ys.length),m<ys.idxOf y->ys[m]≠y
 | [],_,_,b,_=>by simp at b
 | a::r,y,m,b,h=>by
  rw[List.idxOf_cons] at h;by_cases e:a=y
  .subst e;simp at h
  .have hb:(a==y)=false:=Yq.mpr e;rw[hb] at h
   cases m with
   | zero=>show e
   | succ k =>
    have c:k<r.idxOf y:=by
     have h:k+1<r.idxOf y+1:=h;lk
    show qd0 r y k (by simpa using b) c
section
variable{X:Cx}{K:yh}
def rIndex(K:yh):V->List V->Hp->VK->Prop:=λx vs H Q=>∃(p:Addr) (ys:LS) (y:Str),x=.ref p/\vs=[.str y]/\SqL K H p (ys.map V.str)/\y∈ys/\Q (.int (ys.idxOf y:Nat)) H
theorem qem(B:X.K=K):MtR X "list.index" (rIndex K):=by
 subst B;intro z s O H x vs v us Q I L J h;obtain⟨p,ys,y,rfl,rfl,C,E,q⟩:=h;cases L;obtain⟨u,rfl,G⟩:=J.one;obtain⟨a,r,pl,t⟩:=I.list C;obtain⟨⟨cls,A,data,M⟩,o,hc,n,l⟩:=id pl.isList;simp only at hc l;subst hc l;have fs:(ys.map V.str).all zS=true:=by rw[kc];show Yr.mpr λ_ _=>rfl
 have b:(ys.map V.str).length=a.length:=r.length;rw[ya] at b;have d:ys.idxOf y<ys.length:=List.idxOf_lt_length_iff.mpr E
 have at_:∀(m:Nat) (i:m<ys.length) (c:m<a.toArray.size),eqU (.str y) a.toArray[m]=decide (ys[m]=y):=λm i c=>by
  have g:(ys.map V.str)[m]?=some (.str ys[m]):=by rw[ye,yb i];rfl
  obtain⟨w,hw,j⟩:=r.get g
  have e:a.toArray[m]=w:=by
   have:a.toArray[m]?=some w:=by simpa using hw
   rw[Array.getElem?_eq_getElem c] at this;show yn this
  rw[e,qfC j rfl,eqV_strD]
 have N:ys.length<=sizeLine:=by rw[ya] at t;show t
 have D:sizeLine<2 ^ 63-1:=by decide
 show km Xp ⟨_,o,rfl⟩ PySem.F.entry_list_index (PySem.F.args_list_index_2 _ _)
  (SeqAt.list_indexAt p a.toArray n A M u (eqU (.str y)) (ys.idxOf y) (by simpa [<- b] using d) (by lk) ?_ ?_) ⟨o,λw hw=>qa0 G rfl r fs w (by simpa using hw),.int _,H,I.tok _,⟨_,rfl⟩,q⟩
 .rw [at_ _ d];show yx (Yu d)
 .intro m i f;rw[at_ m (by lk)];show ym λe=>qd0 ys y m (by lk) f e
end
theorem qcE(xs:List V)(k:Nat):qfz xs (some (k:Int)) none=xs.drop k:=by
 unfold qfz;rw[HT.sIx_none,HT.sIx_nat];by_cases h:k<=xs.length
 .rw [Kj h,xm (by rw[Yz];lk)]
 .rw [Nat.min_eq_right (by lk),List.drop_length,List.drop_of_length_le (by lk)];simp
section
variable{X:Cx}{K:yh}
def rNotT(K:yh):R2:=λx y H Q=>∃ p xs e n,y=.ref p/\SqT K H p xs/\n<=60/\(∀ z∈xs,EqD K H n z x (e z))/\Q (.bl (!xs.any e)) H
theorem k_notinT(d:X.K=K)(m:X.A.units+100<cLine):OpR X (compareOp .NotIn) (rNotT K):=by
 subst d;intro a s t H x y u v Q I i j h;obtain⟨p,xs,e,n,rfl,hl,l,f,q⟩:=h;cases j;obtain⟨g,r,pl,o⟩:=I.tuple hl;obtain⟨b,h1,c⟩:=qfP (A:=X.A.in1) I r i (by show X.A.units+1+n<cLine;lk) f;show SeqAt.notIn_tupleAt b pl h1 (by rw[c];show⟨.bl _,H,I,rfl,q⟩)
theorem qeS:∀{ns:LQ} {us:List Value},Vals (ns.map V.int) us->IntsAre us ns
 | [],_,.nil=>.nil
 | n::ns,_,.cons r t=>by
  obtain⟨tk,rfl⟩:=r;show .cons n tk (qeS t)
end
end L2
namespace HT
open PySem PySem.Spec PyProof.Rows
section
variable{prog:Program}{w:World}{A:Around}{E:Value->Shared->Prop}{s:Shared}
end
end HT
namespace L2
open PySem PySem.Spec PyProof.Rows
def tStep(K:yh)(e:TE)(f:TO):TE:=λc H Q=>e c H λx d=>f c d λo b=>∃ a y z,x=.ref a/\SqT K b a [y,z]/\((o=some (-1)/\∀ p,b p=none->Q (.ref p) (upd b p (.tup [z,y])))\/(o=some 1/\Q (.ref a) b))
theorem vStep{K:yh}{d:TE}{e:TO}{c:St}{H:Hp}{Q:VK}(h:d c H λx f=>e c f λo b=>∃ a y z,x=.ref a/\SqT K b a [y,z]/\((o=some (-1)/\∀ p,b p=none->Q (.ref p) (upd b p (.tup [z,y])))\/(o=some 1/\Q (.ref a) b))):tStep K d e c H Q:=h
section
variable{X:Cx}{K:yh}{e st:Expr}{te:TE}{ts:TO}{p2 pos:Pos}
end
def FG(K:yh)(nm:Str)(st:Stmt):Prop:=∃ f a,PySem.W.nsIn K mainGlobals nm=some (some (.ref f))/\Fun K nm nm st f a
def FM(K:yh)(C:Addr)(m b:Str)(st:Stmt):Prop:=∃ f a,PySem.W.findIn K (.ref C) m=some (some (.ref f))/\PySem.W.isFn K (.ref f)=true/\Fun K m b st f a
def FC(K:yh)(C:Addr)(m b:Str)(st:Stmt):Prop:=∃ f a,PySem.W.findCls K (.ref C) (.type "type") m=some (.val (.ref f))/\Fun K m b st f a
structure XQ(K:yh)(C:Addr):Prop where
 xa:PySem.W.findIn K (.ref C) "__getattribute__"=some (some (.builtin "BaseException.__getattribute__"))
 xb:PySem.W.findIn K (.ref C) "__getattr__"=some none
 xd:PySem.W.mroIn K C (.type "BaseException")=some true
 xe:PySem.W.mroIn K C (.type "object")=some true
 xf:PySem.W.hasDictIn K C=true
 xg:PySem.W.findIn K (.ref C) "__class__"=some (some (.builtin "object.__class__"))
 xh:PySem.W.findIn K (.ref C) "__setattr__"=some (some (.builtin "object.__setattr__"))
 p:PySem.W.keepIn K (.ref C)=true
section
variable{P:Program}{w:World}{K:yh}{mg:Str->Option Value}{base h:Heap}{CX:CXT}{k:Nat}{sp:Sp}{st:Stmt}{f:Addr}{fd:FuncData}{ps:LS}{nm m ql x:Str}{C:Addr}
theorem lN0{P:List Value->Prop}(h:P []):∀ us:List Value,us.length=0->P us:=λus e=>by rw[List.eq_nil_of_length_eq_zero e];show h
theorem lNs{P:List Value->Prop}{n:Nat}(h:∀ a r,r.length=n->P (a::r)):∀ us:List Value,us.length=n+1->P us:=λus e=>by
 cases us with
 |nil=>cases e
 |cons a r=>show h a r (Nat.succ.inj e)
theorem lN1{P:List Value->Prop}(h:∀ a,P [a]):∀ us:List Value,us.length=1->P us:=lNs λa=>lN0 (h a)
theorem lN2{P:List Value->Prop}(h:∀ a b,P [a,b]):∀ us:List Value,us.length=2->P us:=lNs λa=>lN1 (h a)
theorem lN3{P:List Value->Prop}(h:∀ a b c,P [a,b,c]):∀ us:List Value,us.length=3->P us:=lNs λa=>lN2 (h a)
theorem lN4{P:List Value->Prop}(h:∀ a b c d,P [a,b,c,d]):∀ us:List Value,us.length=4->P us:=lNs λa=>lN3 (h a)
theorem lN5{P:List Value->Prop}(h:∀ a b c d e,P [a,b,c,d,e]):∀ us:List Value,us.length=5->P us:=lNs λa=>lN4 (h a)
abbrev BA(x ql:Str)(st:Stmt)(ps:LS):Prop:=∀(kV b d:Value) (c:Option Addr) (a ct:Value) (us:List Value),us.length=ps.length->bindArgs (PySem.W.fnOf x ql (qbk st) (zD st) (qf st) .none kV b d c a ct) ⟨us,[]⟩=pure (ps.zip us)
theorem fg_mk(X:K.In h)(G:h.Ns mainGlobals mg)(a:PySem.W.nsIn K mainGlobals nm=some (some (.ref f)))(F:Fun K nm nm st f fd)(o:FnOk P w K mg base CX k f fd ps sp)
  (hb:BA nm nm st ps:=by first | (show λ_ _ _ _ _ _=>lN1 λ_=>rfl) | (show λ_ _ _ _ _ _=>lN2 λ_ _=>rfl) | (show λ_ _ _ _ _ _=>lN3 λ_ _ _=>rfl) | (show λ_ _ _ _ _ _=>lN4 λ_ _ _ _=>rfl)) :
  DefOk P w K mg base CX k nm ps sp:=⟨_,_,o,kY X G a,F.kp,F.binds hb⟩
theorem fm_mk(b:Cls K C)(a:PySem.W.findIn K (.ref C) m=some (some (.ref f)))(n:PySem.W.isFn K (.ref f)=true)(F:Fun K m ql st f fd)(o:FnOk P w K mg base CX k f fd ps sp)
  (hb:BA m ql st ps:=by first | (show λ_ _ _ _ _ _=>lN1 λ_=>rfl) | (show λ_ _ _ _ _ _=>lN2 λ_ _=>rfl) | (show λ_ _ _ _ _ _=>lN3 λ_ _ _=>rfl) | (show λ_ _ _ _ _ _=>lN4 λ_ _ _ _=>rfl)) :
  MethOk P w K mg base CX k C m ps sp:=⟨⟨_,_,o,⟨a,n,F.kp⟩,F.binds hb⟩,b⟩
theorem fw_mk(X:K.In h)(G:h.Ns mainGlobals mg)(c:PySem.W.nsIn K mainGlobals x=some (some (.ref C)))(b:PySem.W.makesIn K C=true)(d:PySem.W.keepIn K (.ref C)=true)(a:PySem.W.findIn K (.ref C) "__init__"=some (some (.ref f)))(n:PySem.W.isFn K (.ref f)=true)(F:Fun K "__init__" ql st f fd)(o:FnOk P w K mg base CX k f fd ps sp)
  (hb:BA "__init__" ql st ps:=by first | (show λ_ _ _ _ _ _=>lN1 λ_=>rfl) | (show λ_ _ _ _ _ _=>lN2 λ_ _=>rfl) | (show λ_ _ _ _ _ _=>lN3 λ_ _ _=>rfl)) :
  MakeOk P w K mg base CX k C x ps sp:=⟨⟨_,_,o,⟨b,a,n,d⟩,F.binds hb⟩,kY X G c⟩
theorem qhz(X:K.In h)(G:h.Ns mainGlobals mg)(c:PySem.W.nsIn K mainGlobals x=some (some (.ref C)))(Y:XAt K C)(q:XQ K C)(a:PySem.W.findIn K (.ref C) "__init__"=some (some (.ref f)))(n:PySem.W.isFn K (.ref f)=true)(F:Fun K "__init__" ql st f fd)(o:wqqj k f fd ps sp)
  (hb:BA "__init__" ql st ps:=by first | (show λ_ _ _ _ _ _=>lN1 λ_=>rfl) | (show λ_ _ _ _ _ _=>lN2 λ_ _=>rfl)) :
  XMakeOk P w K mg base k C x ps sp:=⟨⟨_,_,o,⟨Y,a,n,q.p⟩,F.binds hb⟩,kY X G c⟩
theorem fc_mk(X:K.In h)(G:h.Ns mainGlobals mg)(c:PySem.W.nsIn K mainGlobals x=some (some (.ref C)))(a:PySem.W.readsIn K C (.type "type")=true)(b:PySem.W.findCls K (.ref C) (.type "type") m=some (.val (.ref f)))(d:PySem.W.specialIn K (.ref C) "__getattribute__"=some (some (.builtin "type.__getattribute__")))(F:Fun K m ql st f fd)(o:FnOk P w K mg base CX k f fd ps sp)
  (hb:BA m ql st ps:=by(show λ_ _ _ _ _ _=>lN2 λ_ _=>rfl)) :
  CMethOk P w K mg base CX k C x m ps sp:=⟨⟨_,_,o,⟨a,b,d,F.kp⟩,F.binds hb⟩,kY X G c⟩
theorem qfS{c:List Value}(x:XL K C c)(hb:qdz c=true)(q:XQ K C)(a:PySem.W.specialIn K (.builtin "object.__class__") "__get__"=some (some (.builtin "getset_descriptor.__get__")))(b:PySem.W.takesIn K (.builtin "object.__class__")=some true):XAt K C:=x.xat hb q.xa q.xb q.xd q.xe q.xf q.xg a b q.xh
end
end L2
namespace HT
open PySem PySem.Spec PyProof.Rows
section
variable{prog:Program}{w:World}{A:Around}{E:Value->Shared->Prop}{s:Shared}
end
end HT
namespace L2
open PySem PySem.Spec PyProof.Rows
variable{H:Hp}{R:It->Hp->Prop}{X:Cx}{es:List Expr}{pos:Pos}{te:TE}{σ:St}
section
variable{X:Cx}{K:yh}{pos p:Pos}{x:Str}
end
section
variable{X:Cx}{K:yh}{e lo st:Expr}{te:TE}{tl ts:TO}{p2 pos:Pos}
def qiG(K:yh)(te:TE):TI:=fun σ H R=>te σ H λv b=>∃ a xs,v=.ref a/\SqL K b a xs/\R (Itl K a) b
theorem qfl{K:yh}(h:te σ H λv b=>∃ a xs,v=.ref a/\SqL K b a xs/\R (Itl K a) b):qiG K te σ H R:=h
theorem qc2{t:Expr}(j:X.K=K)(l:PE X e te):PI X t e (qiG K te):=by
 subst j;intro c s σ H R I h;show thn (l c s σ H _ I h) λv d ⟨y,g,f,r,a,xs,i,m,q⟩=>?_;subst i;cases r
 have fp:∀ b∈[d.heap.objs.size],qea X c g b:=λb hb=>by
  have e:b=d.heap.objs.size:=by simpa using hb
  subst e;show f.fpOk (yi _) (f.hok.fresh (yi _))
 obtain⟨n,w,p,u⟩:=f.list m;show X9 p.isList ⟨d.heap.objs.size,[d.heap.objs.size],_,_,g,rfl,f.kept (t':=d.toks) λb o e=>yv _ e,qdD a _,⟨_,yS _ rfl,rfl,rfl⟩,fp,q⟩
end
def Itz(K:yh)(a b:Addr):It:=
 ⟨λi H=>∃ xs ys x y,SqL K H a xs/\SqL K H b ys/\xs[i]?=some x/\ys[i]?=some y,λi H v H'=>∃ t x y,v=.ref t/\H t=none/\H'=upd H t (.tup [x,y])/\(∀ xs,SqL K H a xs->xs[i]?=some x)/\∀ ys,SqL K H b ys->ys[i]?=some y,λi H=>∃ xs ys,SqL K H a xs/\SqL K H b ys/\(xs.length<=i\/ys.length<=i)⟩
def tnZ(z TI TO c d a b:Addr)(i:Nat)(h:Heap):Prop:=IsZip h z TI TO .none/\IsPair h TI (.ref c) (.ref d)/\(∃ u v,IsPair h TO u v)/\h.IsListIter c a i/\h.IsListIter d b i
theorem turn_zip{P:Program}{w:World}{K:yh}{x1}(a b z TI TO q r:Addr)(D:ZipApart z TI TO q r a b):Turn P w K (.Tuple es x1 pos) (Itz K a b) [z,TI,TO,q,r] z (tnZ z TI TO q r a b) where
 mem:=by simp
 obj:=λi h st c hc=>by
  obtain⟨l,d,⟨u,v,g⟩,⟨o1,e1,c1,d1⟩,⟨o2,e2,c2,d2⟩⟩:=st;simp only[yF,yW,YT] at hc;rcases hc with rfl | rfl | rfl | rfl | rfl
  .show⟨_,l,λv z=>by have G:Data.fields _=Data.cell v:=z;cases G⟩
  .show⟨_,d,λv z=>by have G:Data.seq _ _=Data.cell v:=z;cases G⟩
  .show⟨_,g,λv z=>by have G:Data.seq _ _=Data.cell v:=z;cases G⟩
  .show⟨o1,e1,λv z=>by rw[d1] at z;cases z⟩
  .show⟨o2,e2,λv z=>by rw[d2] at z;cases z⟩
 keep:=λi h h' st k=>by
  obtain⟨l,d,⟨u,v,g⟩,h1,A⟩:=st;show⟨k z (by simp) _ l,k TI (by simp) _ d,⟨u,v,k TO (by simp) _ g⟩,h1.at λo x=>k q (by simp) o x,A.at λo x=>k r (by simp) o x⟩
 item:=by
  intro X T hw S hc i m s σ H E I U st W;subst T hw S;obtain⟨l,d,⟨u,v,g⟩,h1,A⟩:=st;obtain⟨xs,ys,x,y,L,n,hx,hy⟩:=W;obtain⟨ae,rv,p,_⟩:=I.list L;obtain⟨F,t,p2,_⟩:=I.list n;obtain⟨M,Y,ah⟩:=rv.get hx;obtain⟨N,Z,ai⟩:=t.get hy;show wpAny_pyNext_zip_item D l d g h1 A p.isList p2.isList (x:=M) (y:=N) (by simpa using Y) (by simpa using Z) λh' ac B O R hT hsz J=>?_;show⟨_,rfl,wpAny_letOwnedTupleGo_zip ac λh3 ad j=>?_⟩;have fre:H s.heap.objs.size=none:=I.hok.fresh (yi _);have lt:∀{c o},s.heap.get? c=some o->s.heap.objs.size≠c:=λe=>xJ (yO e);have nz:=lt l;have af:=lt d;have ag:=lt g;have n1:s.heap.objs.size≠q:=by obtain⟨_,e,_⟩:=h1;show lt e
  have n2:s.heap.objs.size≠r:=by obtain⟨_,e,_⟩:=A;show lt e
  have I1:Inv X m σ (upd H s.heap.objs.size (.tup [x,y])) { s with heap:=s.heap.push { cls:=.type "tuple",data:=.seq #[M,N] },toks:=s.toks }:=
   I.laid (λb u e=>yv _ e) (yi _) ⟨wqqn,[M,N],.cons ah (.cons ai .nil),⟨_,yS _ rfl,rfl,_,rfl⟩⟩
  have C:∀ c∈[z,TI,TO,q,r],qea X m (upd H s.heap.objs.size (.tup [x,y])) c:=λc hc=>by
   obtain⟨f0,f⟩:=U c hc;show⟨?_,f⟩;rw[qo]
   .show f0
   .simp only[yF,yW,YT] at hc;rcases hc with rfl | rfl | rfl | rfl | rfl
    .show nz.symm
    .show af.symm
    .show ag.symm
    .show n1.symm
    .show n2.symm
  have kk:∀ c o,c∉[z,TI,TO,q,r]->(s.heap.push { cls:=.type "tuple",data:=.seq #[M,N] }).get? c=some o->h3.get? c=some o:=λc o hc e=>by
   simp only[yF,yW,YT,Ku] at hc;show j.extBut _ _ hc.1 ?_;by_cases l:c=s.heap.objs.size
   .subst l;rw[yS _ rfl] at e;cases e;show hT
   .show J c o hc.1 hc.2.2.1 hc.2.2.2.1 hc.2.2.2.2 (qdZ e l)
  have I2:=I1.turnedL (h':=h3) (t':=s.toks) (fp:=[z,TI,TO,q,r]) kk C;show⟨.ref s.heap.objs.size,_,I2,rfl,⟨_,x,y,rfl,fre,rfl,λaj aa=>by rw[I.list_inj aa L];show hx,λys' ab=>by rw[I.list_inj ab n];show hy⟩,⟨ad,?_,⟨_,_,j.extBut _ _ D.TOz B⟩,O.extBut j.extBut D.i1z,R.extBut j.extBut D.i2z⟩,λc hc=>(C c hc).1⟩;show j.extBut _ _ D.TIz (J _ _ D.TIz D.TITO D.TIi1 D.TIi2 d)
 done:=by
  intro X T hw S hc i m s σ H E I U st W;subst T hw S;obtain⟨l,d,⟨u,v,g⟩,h1,A⟩:=st;obtain⟨xs,ys,L,n,he⟩:=W;obtain⟨ae,rv,p,_⟩:=I.list L;obtain⟨F,t,p2,_⟩:=I.list n;have l1:=rv.length;have l2:=t.length;show wpAny_pyNext_zip_end (I.ok.hd hc) D l d g h1 A p.isList p2.isList (he.imp (λe=>kf (by simp;lk)) λe=>kf (by simp;lk)) λh' J=>⟨rfl,I.turnedL (t':=s.toks) (fp:=[z,TI,TO,q,r]) (λc o hc e=>?_) U⟩;simp only[yF,yW,YT,Ku] at hc;show J c o hc.1 hc.2.2.1 hc.2.2.2.1 hc.2.2.2.2 e
 self:=λ_ _ _ _ _ st h=>wpAny_pyIter_zip st.1 h
theorem boot_zip:bootBuiltins "zip"=some (.type "zip"):=by room
def qiH(K:yh)(d:TA):TI:=fun σ H R=>d σ H λvs c=>∃ a b xs ys,vs=[.ref a,.ref b]/\SqL K c a xs/\SqL K c b ys/\R (Itz K a b) c
theorem vZip{K:yh}{c:TA}(h:c σ H λvs d=>∃ a b xs ys,vs=[.ref a,.ref b]/\SqL K d a xs/\SqL K d b ys/\R (Itz K a b) d):qiH K c σ H R:=h
theorem pi_zip{K:yh}{a b:Expr}{y:TA}{x1}{O p:Pos}(A:X.K=K)(C:Gl X "zip")(E:X.mg "zip"=none)(B:PA X [a,b] y)(G:starEach [a,b] X.env=[(false,eval a X.env),(false,eval b X.env)]:=by rfl)(g:starEach [b] X.env=[(false,eval b X.env)]:=by rfl):PI X (.Tuple es x1 O) (.Call (.Name "zip" p) [a,b] [] pos) (qiH K y):=by
 subst A;intro i s σ H R I h;show Call_ (qb7 I C E boot_zip (xj (thn (B pos i s σ H _ I h) λus f ⟨vs,z,d,M,L⟩=>?_) (by rw[G,g]) (by rw[g];rfl)));obtain⟨a,b,xs,ys,e,F,t,q⟩:=L;subst e
 cases M with
 | cons r rr =>
  cases rr with
  | cons r2 rr =>
   cases rr;cases r;cases r2;obtain⟨J,P,pl,_⟩:=d.list F;obtain⟨x,N,j,_⟩:=d.list t;have u:a<f.heap.objs.size:=by obtain⟨_,e,_⟩:=pl.isList;show yO e
   have v:b<f.heap.objs.size:=by obtain⟨_,e,_⟩:=j.isList;show yO e
   show call_zip_2 pl.isList j.isList λh' w l m n o hsz D=>wpAny_pyIter_zip w ?_;show⟨_,[f.heap.objs.size+4,f.heap.objs.size+2,f.heap.objs.size+3,f.heap.objs.size,f.heap.objs.size+1],_,_,z,rfl,d.kept (t':=f.toks) D,turn_zip a b _ _ _ _ _ (PySem.W.ktu_apart _ _ _ u v),⟨w,l,⟨_,_,m⟩,n,o⟩,λc hc=>?_,q⟩;simp only[yF,yW,YT] at hc;rcases hc with rfl | rfl | rfl | rfl | rfl
   .show d.fpOk (Xq _ _) (d.hok.fresh (Xq _ _))
   .show d.fpOk (Xq _ _) (d.hok.fresh (Xq _ _))
   .show d.fpOk (Xq _ _) (d.hok.fresh (Xq _ _))
   .show d.fpOk (yi _) (d.hok.fresh (yi _))
   .show d.fpOk (YV _) (d.hok.fresh (YV _))
def qiI(K:yh)(te:TE)(d:TO):TE:=fun σ H Q=>te σ H λx c=>d σ c λo b=>o=some (-1)/\∃ a xs,x=.ref a/\SqL K b a xs/\∀ p,b p=none->Q (.ref p) (upd b p (.lst xs.reverse))
theorem qif{K:yh}{c:TO}{Q:VK}(h:te σ H λx d=>c σ d λo b=>o=some (-1)/\∃ a xs,x=.ref a/\SqL K b a xs/\∀ p,b p=none->Q (.ref p) (upd b p (.lst xs.reverse))):qiI K te c σ H Q:=h
theorem qeT:∀{xs:List V} {us:List Value},Vals xs us->Vals xs.reverse us.reverse
 | _,_,.nil=>.nil
 | _,_,.cons r t=>by
  rw[X8,X8];show(qeT t).append (.cons r .nil)
section
variable{X:Cx}{K:yh}{e st:Expr}{te:TE}{ts:TO}{p2 pos:Pos}
theorem qeU(y:X.K=K)(z:PE X e te)(B:PO X (some st) ts):PE X (.Subscript e (.Slice none none (some st) p2) pos) (qiI K te ts):=by
 subst y;intro c s σ H Q I h;show Subscript_ (thn (z c s σ H _ I h) λv L ⟨x,l,n,J,G⟩=>?_);show wpAny_Slice ?_;rw[evalPart_none];show yA ?_;show yA ?_;show thn (B c L σ l _ n G) λj d ⟨o,m,p,pt,t,a,xs,u,C,q⟩=>?_;subst t u;cases J;have f:Inv X c σ m { d with heap:=d.heap.push { cls:=.type "slice",data:=.fields #[.none,.none,j] } }:=p.kept (t':=d.toks) λb F q=>yv _ q;obtain⟨E,r,i,D⟩:=f.list C;have g:=r.length;show wpAny (model X.prog X.w) X.A (subscriptTail e (.Slice none none (some st) p2) (.ref a) (.ref d.heap.objs.size)) (EP X c σ Q) X.xe { d with heap:=d.heap.push { cls:=.type "slice",data:=.fields #[.none,.none,j] } };show tail_any (ops:=[.ref a,.ref d.heap.objs.size]) i.isList.typeIs kQ.lookup (wpAny_getItem_list_slice i.isList (Heap.IsSliceOf.new ..) .none .none pt (by decide) ?_ (by rw[yB]<;>lk)) (by with_unfolding_all rfl);rw[PySem.W.krv_pick];show⟨.ref _,_,f.laid (t':=d.toks) (o:=.lst xs.reverse) (λb F q=>yv _ q) (yi _) ?_,rfl,q _ (f.hok.fresh (yi _))⟩;show⟨by rw[YI];show D,_,0,qeT r,yS _ rfl⟩
end
section
variable{X:Cx}{a:Expr}{ta:TA}{p p2 pos pos2:Pos}
theorem mtR_reverse:MtR X "list.reverse" rReverse:=mt_reverse
end
end L2
namespace L2
variable{L:LN}{b n v x:Nat}
theorem qbl(x:Nat):x ^^^ x=0:=Nat.xor_self x
theorem qbm(x y:Nat):x ^^^ y=y ^^^ x:=Nat.xor_comm x y
theorem q9(x y z:Nat):(x ^^^ y) ^^^ z=x ^^^ (y ^^^ z):=Kq x y z
theorem jV(x y:Nat):(x ^^^ y) ^^^ y=x:=by rw[q9,qbl,xL]
theorem qbn(x y z:Nat):(x ^^^ y) ^^^ z=(x ^^^ z) ^^^ y:=by rw[q9,qbm y z,<- q9]
structure Sb(V:Nat->Prop):Prop where
 z:V 0
 a:∀ x y,V x->V y->V (x ^^^ y)
def jn(V:Nat->Prop)(x:Nat):Nat->Prop:=λy=>V y\/V (y ^^^ x)
def Spn:LN->Nat->Prop
 | []=>λy=>y=0
 | a::L=>jn (Spn L) a
theorem Sb.jn{V:Nat->Prop}(s:Sb V)(x:Nat):Sb (jn V x):=by
 show⟨.inl s.z,λy z h1 h2=>?_⟩;rcases h1 with h1 | h1<;>rcases h2 with h2 | h2
 .show .inl (s.a _ _ h1 h2)
 .show .inr ?_;have:=s.a _ _ h1 h2
  rwa[<- q9] at this
 .show .inr ?_;have:=s.a _ _ h1 h2
  rwa[qbn] at this
 .show .inl ?_;have:=s.a _ _ h1 h2;rw[qbn,<- q9,qbn,q9,qbl,xL] at this
  first | show this | (rw[qbm];show this)
theorem zW:∀ L,Sb (Spn L)
 | []=>⟨rfl,λx y h1 b=>by rw[show x=0 from h1,show y=0 from b];rfl⟩
 | a::L=>(zW L).jn a
theorem zM:∀{L:LN} {a:Nat},a∈L->Spn L a
 | b::L,a,h=>by
  rcases yF.mp h with rfl | h
  .show .inr ?_;rw[qbl];show(zW L).z
  .show .inl (zM h)
theorem qbD{V:Nat->Prop}(s:Sb V):∀{L:LN},(∀ a∈L,V a)->∀ x,Spn L x->V x
 | [],_,x,h=>by rw[show x=0 from h];show s.z
 | b::L,hl,x,h=>by
  rcases h with h | h
  .show qbD s (λa c=>hl a (yz _ c)) x h
  .have:=s.a _ _ (qbD s (λa c=>hl a (yz _ c)) _ h) (hl b (yL ..))
   rwa[jV] at this
theorem qdg{a:Nat}:Spn (L++[a]) x↔jn (Spn L) a x:=by
 constructor
 .show λh=>qbD ((zW L).jn a) (λb hb=>?_) x h;rcases yP.mp hb with z | z
  .show .inl (zM z)
  .rw [yw.mp z];show .inr ?_;rw[qbl];show(zW L).z
 .have c:∀ y,Spn L y->Spn (L++[a]) y:=λy d=>qbD (zW _) (λb hb=>zM (YB _ hb)) y d;rintro(h | h)
  .show c _ h
  .have:=(zW (L++[a])).a _ _ (c _ h) (zM (yU _ (yw.mpr rfl)))
   rwa[jV] at this
open Classical in
def qcT:Nat->Nat->(Nat->Prop)->Nat
 | 0,_,_=>0
 | n+1,b,V=>if ∃ v,V v/\v.testBit b=true then 1+qcT n (b+1) (λv=>V v/\v.testBit b=false) else qcT n (b+1) V
theorem Sb.low{V:Nat->Prop}(s:Sb V)(b:Nat):Sb (λv=>V v/\v.testBit b=false):=
 ⟨⟨s.z,YA b⟩,λx y h1 c=>⟨s.a _ _ h1.1 c.1,by rw[Yh,h1.2,c.2];rfl⟩⟩
def Bnd(b n v:Nat):Prop:=∀ i,v.testBit i=true->b<=i/\i<b+n
theorem Bnd.zero(h:Bnd b 0 v):v=0:=by
 show YW λi=>?_;rw[YA]
 cases e:v.testBit i with
 | false=>rfl
 | true=>have:=h i e;lk
theorem Bnd.low(h:Bnd b (n+1) v)(hb:v.testBit b=false):Bnd (b+1) n v:=λi a=>by
 have h1:=h i a;by_cases e:i=b
 .rw [e,hb] at a;cases a
 .omega
theorem Bnd.xor{w:Nat}(h:Bnd b n v)(h':Bnd b n w):Bnd b n (v ^^^ w):=λi a=>by
 rw[Yh] at a
 cases e:v.testBit i with
 | true=>show h i e
 | false =>
  rw[e] at a;show h' i ?_
  cases c:w.testBit i with
  | true=>rfl
  | false=>rw[c] at a;cases a
theorem qbE{V W:Nat->Prop}(h:∀ v,V v↔W v):qcT n b V=qcT n b W:=by
 have:V=W:=funext λv=>propext (h v);rw[this]
open Classical in
theorem qfT:∀(n b:Nat) {V:Nat->Prop} {x:Nat},Sb V->(∀ v,V v->Bnd b n v)->Bnd b n x->qcT n b (jn V x)=qcT n b V+if V x then 0 else 1
 | 0,b,V,x,s,hV,hx=>by
  have:x=0:=hx.zero;rw[this,yH s.z];rfl
 | n+1,b,V,x,s,hV,hx=>by
  by_cases hv:∃ v,V v/\v.testBit b=true
  .obtain⟨p,d,r⟩:=hv;have j:qcT (n+1) b V=1+qcT n (b+1) (λv=>V v/\v.testBit b=false):=yH ⟨p,d,r⟩;have g:qcT (n+1) b (jn V x)=1+qcT n (b+1) (λv=>jn V x v/\v.testBit b=false):=yH ⟨p,.inl d,r⟩
   have key:∃ f,f.testBit b=false/\Bnd b (n+1) f/\(V f↔V x)/\∀ v,jn V x v↔jn V f v:=by
    cases e:x.testBit b with
    | false=>show⟨x,e,hx,Ky,λ_=>Ky⟩
    | true =>
     show⟨x ^^^ p,by rw[Yh,e,r];rfl,hx.xor (hV p d),⟨λh=>?_,λh=>s.a _ _ h d⟩,λv=>⟨λh=>?_,λh=>?_⟩⟩
     .have:=s.a _ _ h d;rwa[jV] at this
     .show h.imp id λh=>?_;rw[<- q9];show s.a _ _ h d
     .show h.imp id λh=>?_;have:=s.a _ _ h d
      rwa[<- q9,jV] at this
   obtain⟨f,l,o,i,t⟩:=key;have u:=qfT n (b+1) (x:=f) (s.low b) (λv hv=>(hV v hv.1).low hv.2) (o.low l);rw[j,g,qbE (W:=jn (λv=>V v/\v.testBit b=false) f) λv=>?_,u]
   .by_cases h:V x
    .rw [yH h,yH ⟨i.mpr h,l⟩];rfl
    .rw [yE h,yE λz=>h (i.mp z.1)];lk
   .constructor
    .rintro ⟨h,hb⟩;rcases(t v).mp h with h | h
     .show .inl ⟨h,hb⟩
     .show .inr ⟨h,by rw[Yh,hb,l];rfl⟩
    .rintro (⟨h,hb⟩ | ⟨h,hb⟩)
     .show⟨.inl h,hb⟩
     .show⟨(t v).mpr (.inr h),?_⟩;rw[Yh,l] at hb
      cases e:v.testBit b with
      | false=>rfl
      | true=>rw[e] at hb;cases hb
  .have c:∀ v,V v->v.testBit b=false:=λv h=>by
    cases e:v.testBit b with
    | false=>rfl
    | true=>show absurd ⟨v,h,e⟩ hv
   have j:qcT (n+1) b V=qcT n (b+1) V:=yE hv;have m:∀ v,V v->Bnd (b+1) n v:=λv h=>(hV v h).low (c v h)
   cases e:x.testBit b with
   | false =>
    have g:qcT (n+1) b (jn V x)=qcT n (b+1) (jn V x):=yE λ⟨v,h,hb⟩=>by
     rcases h with h | h
     .rw [c v h] at hb;cases hb
     .have:=c _ h;rw[Yh,hb,e] at this;cases this
    rw[j,g];show qfT n (b+1) s m (hx.low e)
   | true =>
    have g:qcT (n+1) b (jn V x)=1+qcT n (b+1) (λv=>jn V x v/\v.testBit b=false):=yH ⟨x,.inr (by rw[qbl];show s.z),e⟩;have q:¬ V x:=λh=>by rw[c x h] at e;cases e
    rw[j,g,yE q,qbE (W:=V) λv=>?_,Nat.add_comm];constructor
    .rintro ⟨h | h,hb⟩
     .show h
     .have:=c _ h;rw[Yh,hb,e] at this;cases this
    .show λh=>⟨.inl h,c v h⟩
def swp:Nat->Nat->LN->Nat
 | 0,_,_=>0
 | n+1,b,L=>match L.filter (λv=>v.testBit b) with
  | []=>swp n (b+1) L
  | p::t=>1+swp n (b+1) (L.filter (λv=>!v.testBit b)++t.map λv=>v ^^^ p)
open Classical in
theorem qdh:∀(n b:Nat) (L:LN),swp n b L=qcT n b (Spn L)
 | 0,_,_=>rfl
 | n+1,b,L=>by
  cases e:L.filter (λv=>v.testBit b) with
  | nil =>
   have h1:swp (n+1) b L=swp n (b+1) L:=by
    show(match L.filter (λv=>v.testBit b) with | []=>_ | p::t=>_)=_;rw[e]
   have s:qcT (n+1) b (Spn L)=qcT n (b+1) (Spn L):=yE λ⟨v,h,hb⟩=>by
    have:=qbD (V:=λv=>Spn L v/\v.testBit b=false) ((zW L).low b) (λa d=>⟨zM d,by
     cases w:a.testBit b with
     | false=>rfl
     | true =>
      have:a∈L.filter (λv=>v.testBit b):=yq.mpr ⟨d,w⟩;rw[e] at this;cases this⟩) v h
    rw[this.2] at hb;cases hb
   rw[h1,s,qdh n (b+1) L]
  | cons p t =>
   have h1:swp (n+1) b L=1+swp n (b+1) (L.filter (λv=>!v.testBit b)++t.map λv=>v ^^^ p):=by
    show(match L.filter (λv=>v.testBit b) with | []=>_ | p::t=>_)=_;rw[e]
   have u:∀ q∈p::t,q∈L/\q.testBit b=true:=λq l=>by rw[<- e] at l;show yq.mp l
   have j:=u p (yL ..);have s:qcT (n+1) b (Spn L)=1+qcT n (b+1) (λv=>Spn L v/\v.testBit b=false):=yH ⟨p,zM j.1,j.2⟩;rw[h1,s,qdh n (b+1)]
   congr 1
   show qbE λv=>⟨λh=>?_,λh=>?_⟩
   .show qbD (V:=λv=>Spn L v/\v.testBit b=false) ((zW L).low b) (λa d=>?_) v h;rcases yP.mp d with z | z
    .have:=yq.mp z;show⟨zM this.1,by simpa using this.2⟩
    .obtain⟨q,l,rfl⟩:=yJ.mp z;have i:=u q (yz _ l);show⟨(zW L).a _ _ (zM i.1) (zM j.1),by rw[Yh,i.2,j.2];rfl⟩
   .generalize A:L.filter (λv=>!v.testBit b)++t.map (λv=>v ^^^ p)=r;have S:=zW r
    have hw:Sb (λv=>(v.testBit b=false->Spn r v)/\(v.testBit b=true->Spn r (v ^^^ p))):=by
     show⟨⟨λ_=>S.z,λh=>by rw[YA] at h;cases h⟩,λx y m o=>?_⟩;have c:=Yh x y b;cases f:x.testBit b<;>cases g:y.testBit b<;>rw[f,g] at c
     .show⟨λ_=>S.a _ _ (m.1 f) (o.1 g),λh=>by rw[c] at h;cases h⟩
     .show⟨λh=>(by rw[c] at h;cases h),λ_=>?_⟩;rw[q9];show S.a _ _ (m.1 f) (o.2 g)
     .show⟨λh=>(by rw[c] at h;cases h),λ_=>?_⟩;rw[qbn];show S.a _ _ (m.2 f) (o.1 g)
     .show⟨λ_=>?_,λh=>by rw[c] at h;cases h⟩;have:=S.a _ _ (m.2 f) (o.2 g);rw[qbm y p,<- q9,jV] at this;show this
    have:=qbD hw (L:=L) (λa d=>?_) v h.1
    .show this.1 h.2
    .subst A;show⟨λhb=>zM (YB _ (yq.mpr ⟨d,by rw[hb];rfl⟩)),λhb=>?_⟩;have:a∈p::t:=by rw[<- e];show yq.mpr ⟨d,hb⟩
     rcases yF.mp this with rfl | h3
     .rw [qbl];show S.z
     .show zM (yU _ (yJ.mpr ⟨a,h3,rfl⟩))
def rk(L:LN):Nat:=swp 30 0 L
theorem qh5(h:v<2 ^ 30):Bnd 0 30 v:=λi a=>⟨Y5 _,by
 by_cases hl:i<30
 .omega
 .have:=YX (yk h (xi (by decide) (XI hl)));rw[this] at a;cases a⟩
theorem bnd_sb:Sb (Bnd b n):=⟨λi a=>(by rw[YA] at a;cases a),λx y c d=>c.xor d⟩
open Classical in
theorem qg1(b:∀ v∈L,v<2 ^ 30)(d:x<2 ^ 30):rk (L++[x])=rk L+if Spn L x then 0 else 1:=by
 unfold rk;rw[qdh,qdh,qbE λv=>qdg];show qfT 30 0 (zW L) (qbD bnd_sb λa c=>qh5 (b a c)) (qh5 d)
theorem rk_in(a:∀ v∈L,v<2 ^ 30)(b:x<2 ^ 30)(h:Spn L x):rk (L++[x])=rk L:=by
 rw[qg1 a b,yH h];rfl
theorem rk_out(a:∀ v∈L,v<2 ^ 30)(b:x<2 ^ 30)(h:¬ Spn L x):rk (L++[x])=rk L+1:=by
 rw[qg1 a b,yE h]
def les:Nat×Nat->List (Nat×Nat)->Nat×Nat
 | s,[]=>s
 | s,o::os=>if s.1 ^^^ o.1<s.1 then les (s.1 ^^^ o.1,s.2 ^^^ o.2) os else les s os
structure Ech(os:List (Nat×Nat)):Prop where
 nz:∀ o∈os,o.1≠0
 pw:os.Pairwise λa b=>b.1.testBit a.1.log2=false
theorem qfU{y i:Nat}(c:x.testBit i=false)(d:y.testBit i=true)(h:∀ j,i<j->x.testBit j=y.testBit j):x<y:=by
 have e:x / 2 ^ (i+1)=y / 2 ^ (i+1):=YW λj=>by
  rw[Nat.testBit_div_two_pow,Nat.testBit_div_two_pow];show h _ (by lk)
 have h1:x % 2 ^ (i+1)<2 ^ i:=XJ _ λj g=>by
  rw[Nat.testBit_mod_two_pow];by_cases e:j=i
  .rw [e,c,Kn]
  .rw [ym (by lk)];rfl
 have f:2 ^ i<=y % 2 ^ (i+1):=XI λz=>by
  have:=YX z;rw[Nat.testBit_mod_two_pow,d,yx (by lk)] at this;cases this
 have a:=Kk x (2 ^ (i+1));have b:=Kk y (2 ^ (i+1));rw[e] at a;lk
theorem qa1{o:Nat}(c:o≠0):x ^^^ o<x↔x.testBit o.log2=true:=by
 have hb:o.testBit o.log2=true:=Kb c;have b:∀ j,o.log2<j->o.testBit j=false:=λj a=>YX (yk Nat.lt_log2_self (xi (by decide) a));constructor
 .intro h
  cases e:x.testBit o.log2 with
  | true=>rfl
  | false =>
   have:x<x ^^^ o:=qfU (i:=o.log2) e (by rw[Yh,e,hb];rfl) λj a=>by rw[Yh,b j a,YJ]
   lk
 .intro h;show qfU (i:=o.log2) (by rw[Yh,h,hb];rfl) h λj a=>by rw[Yh,b j a,YJ]
theorem Ech.tail{o:Nat×Nat}{b:List (Nat×Nat)}(h:Ech (o::b)):Ech b:=⟨λa c=>h.nz a (yz _ c),(Xv.mp h.pw).2⟩
theorem bit_sb(b:Nat):Sb (λv=>v.testBit b=false):=⟨YA b,λx y h1 a=>by rw[Yh,h1,a];rfl⟩
theorem qcF:∀(a:List (Nat×Nat)) (s:Nat×Nat),Spn (a.map (·.1)) (s.1 ^^^ (les s a).1)
 | [],s=>qbl s.1
 | o::a,s=>by
  unfold les;split
  .have:=qcF a (s.1 ^^^ o.1,s.2 ^^^ o.2);show .inr ?_;rw[qbn];show this
  .show .inl (qcF a s)
theorem qcj:∀(b:List (Nat×Nat)) (s:Nat×Nat),Ech b->Spn (b.map (·.1)) s.1->(les s b).1=0
 | [],s,_,h=>h
 | o::b,s,e,h=>by
  have d:=e.nz o (yL ..)
  have c:∀ v,Spn (b.map (·.1)) v->v.testBit o.1.log2=false:=qbD (bit_sb _) λa g=>by
   obtain⟨q,i,rfl⟩:=yJ.mp g;show(Xv.mp e.pw).1 q i
  have hb:o.1.testBit o.1.log2=true:=Kb d;unfold les;rcases h with h | h
  .rw [yE λz=>by have:=c _ h;rw[(qa1 d).mp z] at this;cases this];show qcj b s e.tail h
  .have:s.1.testBit o.1.log2=true:=by
    have:=c _ h;rw[Yh,hb] at this
    cases f:s.1.testBit o.1.log2 with
    | true=>rfl
    | false=>rw[f] at this;cases this
   rw[yH ((qa1 d).mpr this)];show qcj b _ e.tail h
theorem qck:∀(c:List (Nat×Nat)) (s:Nat×Nat) (b:Nat),(∀ o∈c,o.1.testBit b=false)->(les s c).1.testBit b=s.1.testBit b
 | [],s,b,_=>rfl
 | o::c,s,b,h=>by
  unfold les;split
  .rw [qck c _ b λa d=>h a (yz _ d),Yh,h o (yL ..),YJ]
  .show qck c s b λa d=>h a (yz _ d)
theorem qen:∀(b:List (Nat×Nat)) (s:Nat×Nat),Ech b->∀ o∈b,(les s b).1.testBit o.1.log2=false
 | o::b,s,e,q,hq=>by
  have c:=e.nz o (yL ..);have hb:o.1.testBit o.1.log2=true:=Kb c;rcases yF.mp hq with rfl | hq
  .have d:∀ a∈b,a.1.testBit q.1.log2=false:=(Xv.mp e.pw).1;unfold les;split
   .rename_i h
    rw[qck b _ _ d,Yh,hb,(qa1 c).mp h];rfl
   .rename_i h
    rw[qck b _ _ d]
    cases f:s.1.testBit q.1.log2 with
    | false=>rfl
    | true=>show absurd ((qa1 c).mpr f) h
  .unfold les;split
   .show qen b _ e.tail q hq
   .show qen b _ e.tail q hq
def csm:LN->Nat->Nat->Nat
 | [],_,_=>0
 | a::L,k,c=>(if c.testBit k then a else 0) ^^^ csm L (k+1) c
theorem qeo:∀(L:LN) (k c d:Nat),csm L k (c ^^^ d)=csm L k c ^^^ csm L k d
 | [],_,_,_=>(xL 0).symm
 | a::L,k,c,d=>by
  unfold csm;rw[qeo L,Yh];cases c.testBit k<;>cases d.testBit k
  .show 0 ^^^ (csm L (k+1) c ^^^ csm L (k+1) d)=(0 ^^^ csm L (k+1) c) ^^^ (0 ^^^ csm L (k+1) d);rw[YY,YY,YY]
  .show a ^^^ (csm L (k+1) c ^^^ csm L (k+1) d)=(0 ^^^ csm L (k+1) c) ^^^ (a ^^^ csm L (k+1) d);rw[YY,<- q9,<- q9,qbm a]
  .show a ^^^ (csm L (k+1) c ^^^ csm L (k+1) d)=(a ^^^ csm L (k+1) c) ^^^ (0 ^^^ csm L (k+1) d);rw[YY,<- q9]
  .show 0 ^^^ (csm L (k+1) c ^^^ csm L (k+1) d)=(a ^^^ csm L (k+1) c) ^^^ (a ^^^ csm L (k+1) d);rw[YY,qbm a (csm L (k+1) d),<- q9,qbm a,qbn (csm L (k+1) c) a,jV]
theorem qeV:∀(L:LN) (k:Nat),csm L k 0=0
 | [],_=>rfl
 | a::L,k=>by unfold csm;rw[qeV L,YA,yE (by decide),xL]
theorem qb3(n i:Nat):(1 <<< n).testBit i=decide (i=n):=by
 rw[Nat.testBit_shiftLeft];by_cases h:i=n
 .subst h;simp
 .by_cases a:n<=i
  .have:i-n=(i-n-1)+1:=by lk
   rw[yx a,ym h,this,Nat.testBit_succ];simp
  .rw [ym a,ym h];rfl
theorem qeW:∀(L:LN) (k n:Nat),n<k->csm L k (1 <<< n)=0
 | [],_,_,_=>rfl
 | a::L,k,n,h=>by
  unfold csm;rw[qeW L (k+1) n (by lk),qb3,ym (by lk),yE (by decide),xL]
theorem qfV:∀(L:LN) (k n:Nat) {v:Nat},L[n]?=some v->csm L k (1 <<< (k+n))=v
 | a::L,k,0,v,h=>by
  cases h;unfold csm;rw[qeW L (k+1) _ (by lk),qb3,yx (by lk)];show xL _
 | a::L,k,n+1,v,h=>by
  unfold csm;rw[qb3,ym (by lk),show k+(n+1)=(k+1)+n by lk,qfV L (k+1) n h];show YY _
theorem qep:∀(b:List (Nat×Nat)) (s:Nat×Nat),(∀ o∈b,csm L 0 o.2=o.1)->csm L 0 s.2=s.1->csm L 0 (les s b).2=(les s b).1
 | [],s,_,h=>h
 | o::b,s,ho,h=>by
  unfold les;split
  .show qep b _ (λa c=>ho a (yz _ c)) (by rw[qeo,h,ho o (yL ..)])
  .show qep b s (λa c=>ho a (yz _ c)) h
theorem qeq:∀(b:List (Nat×Nat)) (s:Nat×Nat),(∀ o∈b,csm L 0 o.2=o.1)->csm L 0 (les s b).2 ^^^ (les s b).1=csm L 0 s.2 ^^^ s.1
 | [],s,_=>rfl
 | o::b,s,ho=>by
  unfold les;split
  .rw [qeq b _ λa c=>ho a (yz _ c)];show csm L 0 (s.2 ^^^ o.2) ^^^ (s.1 ^^^ o.1)=_;rw[qeo,ho o (yL ..),<- q9,qbn (csm L 0 s.2) o.1,jV]
  .show qeq b s λa c=>ho a (yz _ c)
theorem qdi:∀(b:List (Nat×Nat)) (s:Nat×Nat) (n i:Nat),(∀ o∈b,o.2<2 ^ n)->n<=i->(les s b).2.testBit i=s.2.testBit i
 | [],s,_,_,_,_=>rfl
 | o::b,s,n,i,h,hi=>by
  unfold les;split
  .rw [qdi b _ n i (λa c=>h a (yz _ c)) hi,Yh,YX (yk (h o (yL ..)) (xi (by decide) hi)),YJ]
  .show qdi b s n i (λa c=>h a (yz _ c)) hi
def stp(st:List (Nat×Nat))(n v:Nat):List (Nat×Nat):=if (les (v,1 <<< n) st).1=0 then st else st++[les (v,1 <<< n) st]
def sts(L:LN):Nat->List (Nat×Nat)
 | 0=>[]
 | n+1=>stp (sts L n) n (L.getD n 0)
structure Stp(L:LN)(n:Nat)(st:List (Nat×Nat)):Prop where
 ech:Ech st
 sum:∀ o∈st,csm L 0 o.2=o.1
 low:∀ o∈st,o.2<2 ^ n
 lt:∀ o∈st,o.1<2 ^ 30
 spn:∀ v,Spn (st.map (·.1)) v↔Spn (L.take n) v
 free:st.map (λo=>o.2.log2)=(List.range n).filter λi=>decide (rk (L.take i)<rk (L.take (i+1)))
 len:st.length<=n
theorem lt_bits(h:∀ i,n<=i->v.testBit i=false):v<2 ^ n:=XJ v h
theorem qfW:∀(b:List (Nat×Nat)) (s:Nat×Nat),(∀ o∈b,o.1<2 ^ n)->s.1<2 ^ n->(les s b).1<2 ^ n
 | [],s,_,h=>h
 | o::b,s,ho,h=>by
  unfold les;split
  .show qfW b _ (λa c=>ho a (yz _ c)) (kL h (ho o (yL ..)))
  .show qfW b s (λa c=>ho a (yz _ c)) h
theorem qeX(u:∀ v∈L,v<2 ^ 30):∀ n,n<=L.length->Stp L n (sts L n)
 | 0,_=>⟨⟨λ_ h=>(nomatch h),.nil⟩,λ_ h=>(nomatch h),λ_ h=>(nomatch h),λ_ h=>(nomatch h),λ_=>by rw[List.take_zero];show Ky,rfl,yi _⟩
 | n+1,hn=>by
  have I:=qeX u n (by lk);obtain⟨v,hv⟩:∃ v,L[n]?=some v:=⟨_,yb (by lk)⟩;have ev:L.getD n 0=v:=by rw[Yg,hv];rfl
  have m:v<2 ^ 30:=u v (yf hv);have s:L.take (n+1)=L.take n++[v]:=by rw[yI,hv];rfl
  have p:∀ a∈L.take n,a<2 ^ 30:=λa w=>u a (Xh w);show Stp L (n+1) (stp (sts L n) n (L.getD n 0));rw[ev];generalize sts L n=st at I
  have B:(les (v,1 <<< n) st).1=0↔Spn (L.take n) v:=by
   rw[<- I.spn];constructor
   .intro h;have:=qcF st (v,1 <<< n);rw[h,xL] at this;show this
   .show qcj st (v,1 <<< n) I.ech
  have c:∀ o∈st,o.2<2 ^ (n+1):=λo d=>yk (I.low o d) (xi (by decide) (by lk));unfold stp;split
  .rename_i h
   have t:=B.mp h;have C:rk (L.take (n+1))=rk (L.take n):=by rw[s];show rk_in p m t
   show⟨I.ech,I.sum,c,I.lt,λx=>?_,?_,Nat.le_succ_of_le I.len⟩
   .rw [I.spn,s,qdg];show⟨.inl,λh=>h.elim id λh=>?_⟩;have:=(zW (L.take n)).a _ _ h t
    rwa[jV] at this
   .rw [Xd,yZ,<- I.free];have:decide (rk (L.take n)<rk (L.take (n+1)))=false:=ym (by lk);rw[yR,this];simp
  .rename_i h
   have t:¬ Spn (L.take n) v:=λz=>h (B.mpr z);have C:rk (L.take (n+1))=rk (L.take n)+1:=by rw[s];show rk_out p m t
   have j:=qep (L:=L) st (v,1 <<< n) I.sum (by have:=qfV L 0 n hv;rw[xM] at this;show this);have hb:(les (v,1 <<< n) st).2.testBit n=true:=by rw[qdi st _ n n I.low (yi _)];show(1 <<< n).testBit n=true;rw[qb3];simp
   have l:(les (v,1 <<< n) st).2<2 ^ (n+1):=lt_bits λi F=>by rw[qdi st _ n i I.low (by lk)];show(1 <<< n).testBit i=false;rw[qb3];simp;lk
   have e:=qen st (v,1 <<< n) I.ech;have f:=qfW (n:=30) st (v,1 <<< n) I.lt m;have r:=qcF st (v,1 <<< n);generalize les (v,1 <<< n) st=y at h j hb l e f r
   have q:y.2.log2=n:=by
    have A:y.2≠0:=λz=>by rw[z,YA] at hb;cases hb
    have h1:y.2.log2<n+1:=(Nat.log2_lt A).mpr l
    have E:n<=y.2.log2:=by
     show XI λD=>?_;have:=YX (x:=y.2) (i:=n) ((Nat.log2_lt A).mp D);rw[this] at hb;cases hb
    lk
   show⟨⟨λo d=>?_,?_⟩,λo d=>?_,λo d=>?_,λo d=>?_,λx=>?_,?_,?_⟩
   .rcases yP.mp d with z | z
    .show I.ech.nz o z
    .rw [yw.mp z];show h
   .show kt.mpr ⟨I.ech.pw,List.pairwise_singleton _ _,λa w b hb=>?_⟩;rw[yw.mp hb];show e a w
   .rcases yP.mp d with z | z
    .show I.sum o z
    .rw [yw.mp z];show j
   .rcases yP.mp d with z | z
    .show c o z
    .rw [yw.mp z];show l
   .rcases yP.mp d with z | z
    .show I.lt o z
    .rw [yw.mp z];show f
   .rw [yu,s,qdg];show Spn (st.map (·.1)++[y.1]) x↔_;rw[qdg];have g:Spn (L.take n) (v ^^^ y.1):=(I.spn _).mp r;show⟨λz=>z.imp (I.spn _).mp λz=>?_,λz=>z.imp (I.spn _).mpr λz=>?_⟩
    .have:=(zW (L.take n)).a _ _ ((I.spn _).mp z) g
     rwa[qbm v,<- q9,jV] at this
    .show(I.spn _).mpr ?_;have:=(zW (L.take n)).a _ _ z g
     rwa[<- q9,jV] at this
   .rw [Xd,yZ,<- I.free,yu];have:decide (rk (L.take n)<rk (L.take (n+1)))=true:=yx (by lk);rw[yR,this];simp[q]
   .rw [yK];have:=I.len;simp;lk
def qcU(L:LN)(g:Nat):Nat:=(les (g,0) (sts L L.length)).2
theorem qcG(a:∀ v∈L,v<2 ^ 30)(g:Nat):(les (g,0) (sts L L.length)).1=0↔Spn L g:=by
 have I:=qeX a L.length (yi _);have e:=I.spn g;rw[yD] at e;rw[<- e];constructor
 .intro h;have:=qcF (sts L L.length) (g,0);rw[h,xL] at this;show this
 .show qcj (sts L L.length) (g,0) I.ech
theorem pick_sum(a:∀ v∈L,v<2 ^ 30){g:Nat}(h:Spn L g):csm L 0 (qcU L g)=g:=by
 have I:=qeX a L.length (yi _);have e:=qeq (L:=L) (sts L L.length) (g,0) I.sum;rw[(qcG a g).mpr h,xL,qeV,YY] at e;show e
def xsm(L:LN):Nat:=L.foldl (· ^^^ ·) 0
theorem qa2:∀(L:LN) (a:Nat),L.foldl (· ^^^ ·) a=a ^^^ xsm L
 | [],a=>(xL a).symm
 | b::L,a=>by
  show L.foldl (· ^^^ ·) (a ^^^ b)=a ^^^ L.foldl (· ^^^ ·) (0 ^^^ b);rw[qa2 L (a ^^^ b),YY,qa2 L b,q9]
theorem xsm_snoc(L:LN)(a:Nat):xsm (L++[a])=xsm L ^^^ a:=by unfold xsm;rw[List.foldl_append];rfl
theorem qg2:∀(L:LN) (k c:Nat),csm L k c=xsm (((List.range L.length).filter λi=>c.testBit (k+i)).map λi=>L.getD i 0)
 | [],k,c=>rfl
 | a::L,k,c=>by
  have b:∀ ys:LN,(ys.map Nat.succ).map (λi=>(a::L).getD i 0)=ys.map λi=>L.getD i 0:=λys=>by rw[YE];rfl
  have d:((List.range L.length).map Nat.succ).filter (λi=>c.testBit (k+i))=((List.range L.length).filter λi=>c.testBit (k+1+i)).map Nat.succ:=by
   rw[Kl]
   congr 1
   show xn λi _=>?_;show c.testBit (k+(i+1))=_;rw[show k+(i+1)=k+1+i by lk]
  unfold csm;rw[qg2 L,Yk,List.range_succ_eq_map,yR,d,Nat.add_zero];cases c.testBit k
  .rw [yE (by decide),yE (by decide),YY,b]
  .rw [yH rfl,yH rfl,Ys,b];show _=(List.map _ _).foldl (· ^^^ ·) (0 ^^^ a);rw[qa2,YY]
end L2
namespace L2
open PySem PySem.Spec PyProof.Rows
variable{n:Nat}
section
variable{X:Cx}
end
section
variable{X:Cx}{K:yh}
end
theorem qd1{b i j:Nat}{K:yh}(o:i<b:=by decide)(p:j<b:=by decide):qfH b (qia K n (qht (qcR i) (qht (qcR j) qiu))):=by
 intro x t H Q ⟨a,xs,e,h,g,v,r,c,m,l,d,q⟩;obtain⟨f,q⟩:=q;show⟨a,xs,e,h,g,v,r,c,m,l,d,f,q,?_,λk s=>?_⟩
 .rw [ky,ky]
 .rw [xB (by lk),xB (by lk)]
section
variable{K:yh}{a:Addr}{xs:List V}{g:TG}{tc:TT}{te:TE}{σ':St}{H1:Hp}{Q:V->Hp->Prop}
end
theorem xor_and_add(a b:Nat):(a ^^^ b)+2*(a &&& b)=a+b:=by
 induction a using Nat.strongRecOn generalizing b with
 | ind a ih =>
  by_cases h:a=0
  .subst h;simp
  .have i:=ih (a / 2) (by lk) (b / 2);have x:=@Nat.xor_div_two a b;have y:=@Nat.and_div_two a b;have c:=@Nat.xor_mod_two_eq_one a b;have d:=@Nat.and_mod_two_eq_one a b;rw[<- x,<- y] at i;generalize a ^^^ b=p at *;generalize a &&& b=q at *;lk
theorem qeY(a b:Nat):Builtin.bitXor (a:Int) (b:Int)=((a ^^^ b:Nat):Int):=by
 have h:=xor_and_add a b;rw[PyProof.Rows.bitXor_and,PyProof.Rows.bitAnd_pp (by lk) (by lk),Ye,Ye];lk
theorem bit_nat(m j:Nat):decide (Builtin.bitAnd ((m:Int) / 2 ^ (j:Int).toNat) 1=1)=m.testBit j:=by
 rw[PyProof.Rows.bitAnd_m1,Nat.testBit_eq_decide_div_mod_eq];rw[Ye]
 have e:((m:Int) / 2 ^ j) % 2=((m / 2 ^ j % 2:Nat):Int):=by
  rw[Int.natCast_emod,Int.natCast_ediv,XW];rfl
 rw[e];by_cases h:m / 2 ^ j % 2=1
 .rw [h];rfl
 .rw [ym h,ym (by lk)]
section
variable{K:yh}{a b:Addr}{xs ys:List V}{g:TG}{tc:TT}{te:TE}{σ':St}{H1:Hp}{Q:V->Hp->Prop}
theorem comp_zip(E:ys.length<=xs.length)(d:Nat->List V->Hp->Prop)(s:d 0 [] H1)(hl:∀ i c H,i<=ys.length->d i c H->SqL K H a xs/\SqL K H b ys)
  (A:∀ i x y t c H,xs[i]?=some x->ys[i]?=some y->H t=none->d i c H->g (.ref t) σ' (upd H t (.tup [x,y])) λh o=>tc h o λb n=>if b=true then te h n λv r=>c.length<sizeLine/\d (i+1) (c++[v]) r else d (i+1) c n)
  (w:∀ c H,d ys.length c H->c.length<=sizeLine/\∀ p,H p=none->Q (.ref p) (upd H p (.lst c))):qfj (Itz K a b) g tc te σ' H1 Q:=by
 show⟨λi m c H=>m=ys.length-i/\i<=ys.length/\d i c H,⟨ys.length,by simp,Y5 _,s⟩,?_⟩;rintro i m c H ⟨rfl,z,p⟩;obtain⟨q,l⟩:=hl i c H z p;by_cases f:i<ys.length
 .have j:i<xs.length:=by lk
  show .inr ⟨⟨xs,ys,xs[i],ys[i],q,l,by simp[j],by simp[f]⟩,d (i+1),λys' H' C=>⟨ys.length-(i+1),by lk,rfl,f,C⟩,λx H' y=>?_⟩;obtain⟨t,v,u,rfl,B,rfl,y,D⟩:=y;show A i v u t c _ (y xs q) (D ys l) B p
 .have e:i=ys.length:=by lk
  subst e;show .inl ⟨⟨xs,ys,q,l,.inr (yi _)⟩,w c H p⟩
end
section
variable{X:Cx}{K:yh}
def rSorted(K:yh):List V->Hp->VK->Prop:=λxs H Q=>∃(p:Addr) (ns:LQ),xs=[.ref p]/\SqL K H p (ns.map V.int)/\ns.length<64/\∀(l:Addr) (a:LQ),H l=none->a.Perm ns->a.Pairwise (·<=·)->Q (.ref l) (upd H l (.lst (a.map V.int)))
theorem qdj(n:X.K=K):zR X (.builtin "sorted") (rSorted K):=by
 subst n;intro g s A H xs us Q I r h;obtain⟨p,ns,rfl,x,l,q⟩:=h;obtain⟨u,rfl,y⟩:=qbX r;cases y;obtain⟨a,i,pl,z⟩:=I.list x;have m:IntsAre a ns:=intsAre_of i;have hl:a.length<64:=by have:=i.length;rw[ya] at this;lk
 show PyProof.Rows.sorted_ints (vs:=a) pl.isList m hl λc d h1 f j=>?_;obtain⟨e,t⟩:=PyProof.Rows.sortedAll_at s.heap a c;have v:H (s.heap.objs.size+1)=none:=I.hok.fresh (YV _);have hv:=qcy h1
 have new:ObjOk X.prog X.w (upd H (s.heap.objs.size+1) (.lst (d.map V.int))) (PyProof.Rows.sortedAll s.heap a c) (s.heap.objs.size+1) (.lst (d.map V.int)):=by
  show⟨?_,c.toList,e,hv,?_⟩
  .rw [ya,f.length_eq];show yN (qg (by lk))
  .rw [t]
 show⟨.ref (s.heap.objs.size+1),_,I.laid (t':=s.toks) (λb o e=>PyProof.Rows.sortedAll_old e) (YV _) new,rfl,q _ d v f j⟩
end
section
variable{X:Cx}{K:yh}{e st:Expr}{te:TE}{ts:TO}{p2 pos:Pos}
end
mutual
inductive Dat(H:Hp):V->PyData->Prop
 | non:Dat H .non .none
 | bl (b:Bool):Dat H (.bl b) (.bool b)
 | int (i:Int):Dat H (.int i) (.int i)
 | str (x:Str):Dat H (.str x) (.str x)
 | lst {a:Addr} {xs:List V} {ds:List PyData}:H a=some (.lst xs)->DatS H xs ds->Dat H (.ref a) (.list ds)
 | tup {a:Addr} {xs:List V} {ds:List PyData}:H a=some (.tup xs)->DatS H xs ds->Dat H (.ref a) (.tuple ds)
 | dnil {a:Addr}:H a=some (.dK [])->Dat H (.ref a) (.dict [])
inductive DatS(H:Hp):List V->List PyData->Prop
 | nil:DatS H [] []
 | cons {v:V} {vs:List V} {d:PyData} {ds:List PyData}:Dat H v d->DatS H vs ds->DatS H (v::vs) (d::ds)
end
section
variable{X:Cx}{K:yh}{pins:List (Addr×Obj)}{σ:List (Option V)}{H:Hp}{s:Shared}
end
section
variable{X:Cx}{tg elt iter:Expr}{ifs:List Expr}{scope sc1:Scope}{pos:Pos}{N N1:LS}{nl:Nat}{ixs:LN}{wi:TI}{g:TG}{tc:TT}{te:TE}{C1:Addr}{s1:Shared}{H1:Hp}{ex1:LI}
end
section
variable{X:Cx}{K:yh}
end
section
variable{prog:Program}{w:World}{A:Around}{E:Value->Shared->Prop}{s:Shared}
end
section
variable{prog:Program}{w:World}{A:Around}{R:Result->Shared->Prop}{z TI TO i1 i2 a b S N:Nat}{xs ys:Array Value}{h0:Heap}
end
section
variable{prog:Program}{w:World}{A:Around}{E:Value->Shared->Prop}{s:Shared}
end
theorem Inv.freeze{X:Cx}{f:List (Addr×Obj)}{m:St}{H:Hp}{s:Shared}{d:Addr}{kvs:List (Key×V)}{o:Obj}(I:Inv X f m H s)(e:H d=some (.dK kvs))(A:s.heap.get? d=some o):Inv X f m (upd H d (.frz o (.dK kvs))) s:=by
 have i:∀ b,H b=none->upd H d (.frz o (.dK kvs)) b=none:=λb hb=>by
  rw[qo (λz=>by rw[z,e] at hb;cases hb)];show hb
 have g:∀ b u,u≠.dK kvs->H b=some u->upd H d (.frz o (.dK kvs)) b=some u:=λb u C hb=>by
  rw[qo (λz=>by rw[z,e] at hb;show C (yn hb).symm)];show hb
 have st:∀ a u,ObjOk X.prog X.w H s.heap a u->ObjOk X.prog X.w (upd H d (.frz o (.dK kvs))) s.heap a u:=λa u x =>
  x.stay (λ_ _ _ q=>q) (λb q=>g b _ (λz=>by cases z) q) λb xs q=>g b _ (λz=>by cases z) q
 show⟨I.ok,I.os,I.bare,⟨I.base.keep,I.base.slot,λb j q n D=>i b (I.base.free b j q n D),I.base.there,λb xs q=>g b _ (λz=>by cases z) (I.base.tups b xs q),λb j u q=>g b _ (λz=>by cases z) (I.base.frzs b j u q),λb E q=>?_⟩,I.loc,I.cell,i _ I.free,λx c q=>i _ (I.freeC x c q),λp B=>?_,λa u q=>?_,I.len⟩
 .obtain⟨h,z⟩:=I.base.tbls b E q;show⟨h,g b _ (λz=>by cases z) z⟩
 .obtain⟨h1,r,t,v,y⟩:=I.pin p B;show⟨h1,i _ r,t,v,y⟩
 .by_cases l:a=d
  .subst l;rw[qc] at q;cases q;show⟨A,st _ _ (I.hok _ _ e)⟩
  .rw [qo l] at q;show st _ _ (I.hok _ _ q)
def Itk(d:Addr)(o:Obj)(kvs:List (Key×V)):It:=
 ⟨λi H=>H d=some (.frz o (.dK kvs))/\i<kvs.length,λi H x H'=>H'=H/\∃ k v,kvs[i]?=some (k,v)/\x=kV k,λi H=>H d=some (.frz o (.dK kvs))/\kvs.length=i⟩
theorem qan{a b:Type}{F:a->b->Prop}:∀{l:List a} {m:List b},Paired F l m->l.length=m.length
 | _,_,.nil=>rfl
 | _,_,.cons _ t=>congrArg (· + 1) (qan t)
theorem qd2{a b:Type}{F:a->b->Prop}:∀{l:List a} {m:List b},Paired F l m->∀{i:Nat} {x:a},l[i]?=some x->∃ y,m[i]?=some y/\F x y
 | _,_,.nil,i,x,h=>by simp at h
 | _,_,.cons r t,0,x,h=>by simp at h;subst h;show⟨_,rfl,r⟩
 | _,_,.cons r t,i+1,x,h=>by simp at h;simpa using qd2 t h
theorem turn_keys{P:Program}{w:World}{K:yh}{tg:Expr}(d it:Addr)(o:Obj)(kvs:List (Key×V)){es:Array DictEntry}{ep:Nat}(B:o.data=.dict es ep):Turn P w K tg (Itk d o kvs) [it] it (λi h=>h.IsKeyIter it d i kvs.length ep) where
 mem:=by simp
 obj:=λi h st b hb=>by
  have e:b=it:=by simpa using hb
  subst e;obtain⟨o,e,c,d⟩:=st;show⟨o,e,λv z=>by rw[d] at z;cases z⟩
 keep:=λi h h' st k=>by
  obtain⟨o,e,c,d⟩:=st;show⟨o,k it (by simp) o e,c,d⟩
 item:=by
  intro X R hw O hc i j s σ H E I C st S;subst R hw O;obtain⟨N,Z⟩:=S;obtain⟨g,hz,Y,vs,A,o',es',D,f,l,a,T,W,m⟩:=I.hok d _ N;rw[g] at f;cases f;rw[B] at a;cases a;obtain⟨⟨k,v⟩,y⟩:∃ q,kvs[i]?=some q:=⟨_,yb Z⟩;obtain⟨⟨k',u⟩,hu,U,ru⟩:=qd2 A y;have r:k=k':=U;subst r;obtain⟨F,G,f2,J,L,M⟩:=C it (by simp);rw[qan A] at st;show wpAny_pyNext_dict_item (knd:=jm X.prog X.w) st ⟨o,es,g,l,B,T,W,m⟩ hu λkey h' p n sb=>?_;have I1:Inv X j σ H { s with heap:=h' }:=I.turned (t':=s.toks) (λb o hb e=>(sb.2 b hb).trans e) F G J L M
  have rk:RelV (kV k) key:=by
   rcases q8 p with⟨i,t,rfl,rfl⟩ | ⟨x,t,rfl,rfl⟩
   .show⟨t,rfl⟩
   .show⟨t,rfl⟩
  rw[<- qan A] at n;obtain⟨o2,e2,c2,d2⟩:=id n;show⟨key,rfl,qgu (s:={ s with heap:=h' }) e2 c2 d2 (by decide) ⟨kV k,H,I1,rk,⟨rfl,k,v,y,rfl⟩,n,λb hb=>(C b hb).1⟩⟩
 done:=by
  intro X R hw O hc i j s σ H E I C st S;subst R hw O;obtain⟨N,Z⟩:=S;obtain⟨g,hz,Y,vs,A,o',es',D,f,l,a,T,W,m⟩:=I.hok d _ N;rw[g] at f;cases f;rw[B] at a;cases a;obtain⟨F,G,f2,J,L,M⟩:=C it (by simp);have hl:=qan A;rw[hl] at st;show wpAny_pyNext_dict_end (knd:=jm X.prog X.w) (I.ok.hd hc) st ⟨o,es,g,l,B,T,W,m⟩ (by rw[List.getElem?_eq_none_iff];lk) λh' eb=>⟨rfl,I.turned (t':=s.toks) (λb o hb e=>eb b o hb e) F G J L M⟩
 self:=λ_ _ _ _ _ st h=>wpAny_pyIter_keyiter st h
def qiJ(c:TE):TI:=λd H R=>c d H λv b=>∃ a kvs,v=.ref a/\b a=some (.dK kvs)/\∀ o,R (Itk a o kvs) (upd b a (.frz o (.dK kvs)))
theorem qg3{X:Cx}{C e:Expr}{r:TE}(t:PE X e r):PI X C e (qiJ r):=by
 intro d s D H R I h;show thn (t d s D H _ I h) λv f ⟨y,E,m,A,z⟩=>?_;obtain⟨a,kvs,rfl,n,q⟩:=z;cases A;obtain⟨F,l,vs,B,o,es,ep,p,i,c,u,x,j⟩:=m.hok a _ n;have hl:=qan B;have g:=m.freeze n p;show wpAny_pyIter_dict (knd:=jm X.prog X.w) l ⟨o,es,p,i,c,u,x,j⟩ ?_;show⟨f.heap.objs.size,[f.heap.objs.size],_,_,_,rfl,g.kept (t':=f.toks) λb o e=>yv _ e,turn_keys a _ o kvs c,⟨_,yS _ rfl,rfl,by rw[hl];rfl⟩,λb hb=>?_,q o⟩;have e:b=f.heap.objs.size:=by simpa using hb
 subst e;show g.fpOk (yi _) (g.hok.fresh (yi _))
theorem qh6{c:TE}{d:St}{H:Hp}{R:It->Hp->Prop}(h:c d H λv b=>∃ a kvs,v=.ref a/\b a=some (.dK kvs)/\∀ o,R (Itk a o kvs) (upd b a (.frz o (.dK kvs)))):qiJ c d H R:=h
section
variable{X:Cx}
end
theorem qd3{d:Addr}{o:Obj}{kvs:List (Key×V)}{g:TG}{s:TT}{t:TE}{h:St}{n:Hp}{Q:V->Hp->Prop}(c:Nat->List V->Hp->Prop)(z:c 0 [] n)(hl:∀ i a H,i<=kvs.length->c i a H->H d=some (.frz o (.dK kvs)))
  (C:∀ i k v a H,kvs[i]?=some (k,v)->c i a H->g (kV k) h H λj u=>s j u λb r=>if b=true then t j r λv w=>a.length<sizeLine/\c (i+1) (a++[v]) w else c (i+1) a r)
  (A:∀ a H,c kvs.length a H->a.length<=sizeLine/\∀ p,H p=none->Q (.ref p) (upd H p (.lst a))):qfj (Itk d o kvs) g s t h n Q:=by
 show⟨λi m a H=>m=kvs.length-i/\i<=kvs.length/\c i a H,⟨kvs.length,by simp,Y5 _,z⟩,?_⟩;rintro i m a H ⟨rfl,B,p⟩;have q:=hl i a H B p;by_cases f:i<kvs.length
 .show .inr ⟨⟨q,f⟩,c (i+1),λys' H' D=>⟨kvs.length-(i+1),by lk,rfl,f,D⟩,λx H' y=>?_⟩;obtain⟨e,k,v,l,rfl⟩:=y;subst e;show C i k v a _ l p
 .have e:i=kvs.length:=by lk
  subst e;show .inl ⟨⟨q,rfl⟩,A a H p⟩
structure MkO(K:yh)(C:Addr):Prop where
 makes:PySem.W.makesIn K C=true
 init:PySem.W.findIn K (.ref C) "__init__"=some (some (.builtin "object.__init__"))
 kp:PySem.W.keepIn K (.ref C)=true
structure MakeO(K:yh)(mg:Str->Option Value)(C:Addr)(x:Str):Prop where
 mk_:MkO K C
 mg_:mg x=some (.ref C)
def qg4(C:Addr):TE:=λ_ H Q=>∀ x a,H x=none->H a=none->a≠x->Q (.ref x) (upd (upd H a (.own x)) x (.ins C a []))
section
variable{X:Cx}{C:Addr}{x:Str}{p pos:Pos}
theorem run_makeO{a:List (Addr×Obj)}{c:St}{H:Hp}{s:Shared}{Q:VK}(M:MkO X.K C)(I:Inv X a c H s)(h:qg4 C c H Q):wpAny (model X.prog X.w) X.A (call (.ref C) []) (EP X a c Q) X.xe s:=by
 have g:=h (s.heap.objs.size+1) s.heap.objs.size (I.hok.fresh (YV _)) (I.hok.fresh (yi _)) (Yj (XH _));have d:=Inv.made (C:=C) I;have Y:=kZ (M:=model X.prog X.w) I.kIn M.makes;show xP (make_map0 I.kIn M.makes M.init (λz=>kh (PySem.W.oi_bind z)) ?_);have lt:(s.heap.push PySem.W.emptyDict).objs.size=s.heap.objs.size+1:=YS ..;have f:((s.heap.push PySem.W.emptyDict).push (PySem.W.instObj C s.heap.objs.size)).get? (s.heap.objs.size+1)=some (PySem.W.instObj C s.heap.objs.size):=ke lt.symm rfl;have ty:PySem.W.Looks (model X.prog X.w) ((s.heap.push PySem.W.emptyDict).push (PySem.W.instObj C s.heap.objs.size)) (typeOf (.ref (s.heap.objs.size+1))) (.ref C):=(PySem.W.Looks.ld f).andThen .now;have i:PySem.W.Looks (model X.prog X.w) ((s.heap.push PySem.W.emptyDict).push (PySem.W.instObj C s.heap.objs.size)) (isInstance (.ref (s.heap.objs.size+1)) (.type "object")) true:=ty.andThen (Y.top.keeps λb o e=>yv _ (yv _ e));show Y9 PySem.W.oi_plain PySem.W.entry_oi (@PySem.W.check_slot _ _ _ _ "object.__init__" "object" "__init__" (.ref (s.heap.objs.size+1)) [] [] _ PySem.W.oi_kind PySem.W.oi_split i (PySem.W.oi_args (.ref (s.heap.objs.size+1))) ?_);rw[PySem.W.oi_run];show yA ⟨rfl,⟨V.ref (s.heap.objs.size+1),_,d,rfl,g⟩⟩
theorem qcm(D:MakeO X.K X.mg C x)(c:Gl X x:=by rfl)(a:(x==("__debug__":Str))=false:=by decide):PE X (.Call (.Name x p) [] [] pos) (qg4 C):=by
 intro b s d H Q I h;show xy (qau I c D.mg_ ?_ a);show PySem.W.callWith_K0 I.kIn D.mk_.kp (run_makeO D.mk_ I h)
end
section
variable{prog:Program}{w:World}{A:Around}{E:Value->Shared->Prop}{s:Shared}
end
section
variable{X:Cx}{K:yh}{pins:List (Addr×Obj)}{σ:List (Option V)}{H:Hp}{s:Shared}
theorem qg5(f:Nat->Int):∀ i,(firstMet f i).length<=i/\((firstMet f i).length=i↔((List.range i).map f).Nodup)
 | 0=>by simp[firstMet_zero]
 | i+1=>by
  obtain⟨h1,b⟩:=qg5 f i;have c:=firstMet_any f i (f i);rw[firstMet_succ,step_length,c,Xd,yu]
  have e:(((List.range i).map f).any λx=>x==f i)=true↔f i∈(List.range i).map f:=by
   rw[xA];show⟨λ⟨x,a,z⟩=>by rw[<- (Yo.mp z)];show a,λh=>⟨_,h,Y8 _⟩⟩
  by_cases h:f i∈(List.range i).map f
  .rw [yH (e.mpr h)];show⟨by lk,⟨λz=>by lk,λz=>?_⟩⟩;have:=(YD.mp z).2.2 _ h _ (yw.mpr rfl);show absurd rfl this
  .rw [yE (λz=>h (e.mp z))];show⟨by lk,⟨λz=>?_,λz=>?_⟩⟩
   .show YD.mpr ⟨b.mp (by lk),by simp,λx a y d z=>h ?_⟩;rw[<- show y=f i from yw.mp d,<- z];show a
   .have:=b.mpr (YD.mp z).1;lk
theorem range_getD(ns:LQ):(List.range ns.length).map (λi=>ns.getD i 0)=ns:=by
 show List.ext_getElem (by simp) λi h1 a=>?_;simp[List.getD,a]
def rSetJ(K:yh):List V->Hp->VK->Prop:=λxs H Q=>∃(p:Addr) (ns:LQ),xs=[.ref p]/\SqL K H p (ns.map V.int)/\ns.length<=100/\∀(l:Addr) (S:Int->Bool) (m:Nat),H l=none->m<=ns.length->(m=ns.length↔ns.Nodup)->Q (.ref l) (upd H l (.set S m))
theorem qg6(j:X.K=K)(hc:X.calm=true):zR X (.type "set") (rSetJ K):=by
 subst j;intro pins s σ H xs us Q I r h;obtain⟨p,ns,rfl,t,h1,q⟩:=h;obtain⟨u,rfl,v⟩:=qbX r;cases v;obtain⟨a,f,pl,w⟩:=I.list t;have m:=qeS f;have hl:a.length=ns.length:=by rw[<- f.length,ya]
 show call_set_list (ns:=ns) (I.ok.hd hc) pl.isList m (by unfold scanBound;simp only[yB];lk) λh' tk d n=>?_;have l:=I.hok.fresh (yi s.heap.objs.size);simp only[yB,hl] at d;obtain⟨g,c⟩:=qg5 (λi=>ns.getD i 0) ns.length;rw[range_getD] at c;show⟨.ref _,_,I.laid (o:=.set (λk'=>(firstMet (λi=>ns.getD i 0) ns.length).any λx=>x==k') (firstMet (λi=>ns.getD i 0) ns.length).length) (t':=tk) (λb o e=>n b o (yO e) e) (yi _) d,rfl,q _ _ _ l g c⟩
def rLenJ:List V->Hp->VK->Prop:=λxs H Q=>∃(p:Addr) (S:Int->Bool) (n:Nat),xs=[.ref p]/\H p=some (.set S n)/\Q (.int (n:Int)) H
theorem qg7:zR X (.builtin "len") rLenJ:=by
 intro pins s σ H xs us Q I r h;obtain⟨p,S,n,rfl,e,q⟩:=h;obtain⟨u,rfl,g⟩:=qbX r;cases g;obtain⟨o,es,ep,t,d,f,a,_,_,hb,b,c⟩:=(I.hok p _ e:s.heap.SetOf (intKind X.prog X.w) p S n);show call_len_set d f a b (by unfold scanBound at hb;lk) ?_;subst c;show⟨.int _,H,I.tok _,⟨_,rfl⟩,q⟩
end
section
variable{X:Cx}{a b:Expr}{ta:TA}{p p2 pos pos2:Pos}
end
section
variable{prog:Program}{w:World}{A:Around}{E:Value->Shared->Prop}{s:Shared}{a:Addr}
def TxS(w:World)(h:Heap)(a:Addr)(ss:LS):Prop:=
 ∃(es:Array (Int×Value)) (ep:Nat) (t:SetTable),h.get? a=some { cls:=.type "set",dict:=none,data:=.set es ep t } /\
  (∀ e∈es.toList,∃ k u,e=(hashStr w k,Value.str k u))/\(es.toList.map λe=>strOf e.2).Perm ss/\t.fits es.size=true/\(es.size=0\/t.plain=false)/\es.size<scanBound
theorem TxS.keep{h h':Heap}{ss:LS}(x:TxS w h a ss)(e:∀ o,h.get? a=some o->h'.get? a=some o):TxS w h' a ss:=by
 obtain⟨es,ep,t,b,r⟩:=x;show⟨es,ep,t,e _ b,r⟩
theorem TxS.len{h:Heap}{ss:LS}{es:Array (Int×Value)}(p:(es.toList.map λe=>strOf e.2).Perm ss):es.size=ss.length:=by
 rw[<- p.length_eq,ya,YZ]
theorem or_plain{t:SetTable}{n:Nat}(a:t.plain=false):(t.orStandIn n).plain=false:=by
 unfold SetTable.orStandIn;split
 .show a
 .rfl
theorem lay_plain{t:SetTable}{es:Array (Int×Value)}{h:Int}{x:Value}(a:t.plain=false):(layNew t es h x).2.1.plain=false:=by
 unfold layNew;split
 .show or_plain a
 .rfl
theorem laid_plain{m f v:Nat}{l p:Bool}{a:Array Int}{r:SetTable×Array Nat}(h:SetTable.laid m f v l p a=some r):r.1.plain=p:=by
 unfold SetTable.laid at h
 cases hc:SetTable.layClean m a with
 | none=>rw[hc] at h;cases h
 | some o=>rw[hc] at h;cases h;rfl
theorem relay_plain{t:SetTable}{es:Array (Int×Value)}{n:Nat}(a:t.plain=false):(relayAll t es n).2.1.plain=false:=by
 unfold relayAll;split
 .rename_i t' order h
  dsimp only;split
  .rw [laid_plain (r:=(t',order)) h];show a
  .rfl
 .rfl
theorem elems_of{es:List (Int×Value)}(h:∀ e∈es,∃ k u,e=(hashStr w k,Value.str k u)):ElemsOf (PySem.strKind prog w) es:=by
 intro e a;obtain⟨k,u,rfl⟩:=h e a;show⟨⟨k,strKind_is _ _ _ _,rfl⟩,rfl⟩
theorem qg8{h:Heap}{es es':Array (Int×Value)}{ep:Nat}{t t':SetTable}(b:h.get? a=some { cls:=.type "set",dict:=none,data:=.set es ep t }):(h.update a (Obj.putSet es' t')).get? a=some { cls:=.type "set",dict:=none,data:=.set es' (ep+1) t' }:=by
 have:=xx (Obj.putSet es' t') b rfl;show this
theorem add_txt{ss:LS}{k:Str}{u:Tok}{Q:Bool->Shared->Prop}(hS:TxS w s.heap a ss)(hk:k∉ss)(hb:ss.length+1<scanBound)
  (h:∀ h',Heap.SameBut a s.heap h'->TxS w h' a (ss++[k])->Q true { s with heap:=h' }) :
  wpAny (model prog w) A (setAddHashed a (.str k u) (hashStr w k)) Q E s:=by
 obtain⟨es,ep,t,O,p,hp,Z,aa,hsz⟩:=hS;have l:=elems_of (prog:=prog) p;unfold setAddHashed setAddHashedIn;show YG (yt (wpAny_setState_of O rfl Z ?_));dsimp only;rw[byScan_of (knd:=PySem.strKind prog w) rfl hsz l];simp only[↓reduceIte];unfold setAddByScan;show yt ?_;show yt (wpAny_rule ?_);show yt (wpAny_setScan_of (knd:=PySem.strKind prog w) (k:=k) (strKind_is _ _ _ _) O rfl Z l ?_)
 have X:es.toList.findIdx? (λe=>(PySem.strKind prog w).is k e.2)=none:=by
  rw[List.findIdx?_eq_none_iff];intro e D;obtain⟨k',u',rfl⟩:=p e D;have W:k≠k':=λS=>hk (hp.mem_iff.mp (yJ.mpr ⟨_,D,S.symm⟩))
  cases hc:(PySem.strKind prog w).is k (Value.str k' u') with
  | false=>rfl
  | true=>show absurd ((PySem.strKind prog w).inj _ _ _ hc (strKind_is _ _ _ _)) W
 rw[X];dsimp only;have d:=layNew_perm t es (hashStr w k) (.str k u);have f:=layNew_fits t es (hashStr w k) (.str k u);have I:=@lay_plain t es (hashStr w k) (.str k u);generalize layNew t es (hashStr w k) (.str k u)=L at d f I ⊢;obtain⟨c,t1,N,Y⟩:=L;dsimp only at d f I ⊢;rw[Array.toList_push] at d
 have H:∀(b:Bool) {j:Shared} {P:Unit->Shared->Prop},P () j->wpAny (model prog w) A (match b with | true=>rule "set.scan.the-table-gave-way" | false=>pure ()) P E j:=
  λb j P hq=>by cases b<;>first | show yA hq | show wpAny_rule hq
 have m:∀ e∈c.toList,∃ k u,e=(hashStr w k,Value.str k u):=λe D=>by
  rcases yP.mp (d.mem_iff.mp D) with h1 | h1
  .show p e h1
  .show⟨k,u,yw.mp h1⟩
 have z:(c.toList.map λe=>strOf e.2).Perm (ss++[k]):=by
  show(d.map _).trans ?_;rw[yu];show hp.append_right _
 have C:c.size<scanBound:=by rw[TxS.len (h:=s.heap) z,yK];show hb
 have M:=fits_of_scanBound C;show yt (H _ ?_)
 have tail:∀ g:SetTable,g.fits c.size=true->g.plain=false->wpAny (model prog w) A (do
    storeSet a c g
    if (!N&&g.tooFull)=true then do
      (match (relayAll g c (SetTable.grown c.size)).2.2 with | true=>rule "set.scan.the-table-gave-way" | false=>pure ())
      storeSet a (relayAll g c (SetTable.grown c.size)).1 (relayAll g c (SetTable.grown c.size)).2.1
      pure (some true)
     else pure (some true)) (λr s'=>∃ h',r=some true/\s'={ s with heap:=h' }/\Heap.SameBut a s.heap h'/\TxS w h' a (ss++[k])) E s:=by
  intro g U J;show yt (wpAny_storeSet_of O rfl ?_ M);have y:=qg8 (es':=c) (t':=g) O;have o:=Heap.SameBut.update s.heap a (Obj.putSet c g);split
  .have i:=relayAll_perm g c (SetTable.grown c.size);have v:=relayAll_fits g c (SetTable.grown c.size);have B:=relay_plain (es:=c) (n:=SetTable.grown c.size) J;generalize relayAll g c (SetTable.grown c.size)=R at i v B ⊢;obtain⟨F,t3,g2⟩:=R;dsimp only at i v B ⊢;have K:F.size=c.size:=by rw[<- YZ,i.length_eq,YZ]
   show yt (H _ ?_);show yt (wpAny_storeSet_of y rfl ?_ (by rw[K];show M));show yA ⟨_,rfl,rfl,o.trans (Heap.SameBut.update _ a _),F,_,t3,qg8 y,λe D=>m e (i.mem_iff.mp D),(i.map _).trans z,v,.inr B,by rw[K];show C⟩
  .show yA ⟨_,rfl,rfl,o,c,_,g,y,m,z,U,.inr J,C⟩
 have G:∀{r:Option Bool} {s':Shared},(∃ h',r=some true/\s'={ s with heap:=h' }/\Heap.SameBut a s.heap h'/\TxS w h' a (ss++[k]))->Q true s'/\r=some true:=λ⟨h',e,S,T,hT⟩=>by
  subst S;show⟨h h' T hT,e⟩
 split
 .show yt ?_;rw[hashByValue_scannable 8 rfl];show yA ?_;show Yx (tail _ ?_ ?_) (λr s' x=>?_) λ_ _ e=>e
  .show SetTable.fits_plain_off f
  .rfl
  .obtain⟨q,rfl⟩:=G x;show yA q
 .rename_i hpf
  show yt (yA ?_);simp only[↓reduceIte];show Yx (tail _ f (by simpa using hpf)) (λr s' x=>?_) λ_ _ e=>e;obtain⟨q,rfl⟩:=G x;show yA q
theorem loop_txt{I:Addr}{fp z:LI}{G:Array GenState->Array GenState->Prop}{P:Nat->Value->Prop}{St:Nat->Shared->Prop}{R:Result->Shared->Prop}{ks:LS}(W:WalksS prog w A.in1 I fp z G ks.length P St)(l:a∉fp)
  (y:∀ i v,P i v->∃(k:Str) (t:Tok),ks[i]?=some k/\v=.str k t) (Y:ks.Nodup) (hb:ks.length+1<scanBound) :
  ∀(n i:Nat) (s:Shared),ks.length-i=n->i<=ks.length->St i s->TxS w s.heap a (ks.take i) ->
   (∀ s',Moved (a::z) G s s'->TxS w s'.heap a ks->R (.ok (.ret .none)) s') ->
   codeAny (model prog w) A (.builtin "set.update.loop" ⟨[.ref a,.ref I],[]⟩) R s:=by
 have m:a∉z:=λh=>l (W.sub _ h);have f:∀ b∈z,b∈a::z:=λb hb=>yz _ hb;intro n
 induction n with
 | zero =>
  intro i s X T d B C;have e:ks.take i=ks:=xm (by lk);rw[e] at B;have J:i=ks.length:=by lk
  rw[J] at d;show Km PyProof.Rows.F.entry_set_update_loop ?_;rw[Around.under_plainId xI _];show wpAny _ A.in1 (pyNext (.ref I)>>=_) _ _ s;show yt (W.done s _ _ d λs' q=>?_);show wpAny _ A.in1 (ret Value.none) _ _ s';show yA (C s' (q.mono f) (B.keep λo e=>q.heap a _ m e))
 | succ n ih =>
  intro i s X T d B C;have c:i<ks.length:=by lk
  show Km PyProof.Rows.F.entry_set_update_loop ?_;rw[Around.under_plainId xI _];show wpAny _ A.in1 (pyNext (.ref I)>>=_) _ _ s;show yt (W.item i s _ _ c d λv s' S x q=>?_);obtain⟨k,t,N,rfl⟩:=y i v S;have p:ks[i]=k:=by rw[yb c] at N;show yn N
  have D:TxS w s'.heap a (ks.take i):=B.keep λo e=>q.heap a _ m e;show wpAny _ A.in1 (holding [Value.str k t] (setAdd a (.str k t))>>=_) _ _ s';show yt (YG ?_);unfold setAdd;show YG ?_;show yt ((PySem.strKind prog w).pyHash (k:=k) (strKind_is _ _ _ _) ?_);show add_txt (s:={ s' with toks:=s'.toks+1 }) D (λL=>?_) (by rw[yM];lk) λh' u E=>?_
  .obtain⟨j,U,O⟩:=List.mem_take_iff_getElem.mp L;have K:j<i:=yk U (Nat.min_le_left _ _);show(YO.mp Y) j i (by lk) c K (O.trans p.symm)
  .have H:TxS w h' a (ks.take (i+1)):=by rw[List.take_succ_eq_append_getElem c,p];show E
   show yA ⟨plainId_quiet xI _,ih (i+1) _ (by lk) c (W.frame _ s' _ _ x (YV _) λb hb o e=>?_) H λM r g=>?_⟩
   .rw [u.2 b (λh:b=a=>l (by rw[<- h];show hb))];show e
   .show C M (Moved.trans W.gtrans ((q.mono f).then_heap (YV _) λb o hb e=>?_) r) g;rw[u.2 b (λh:b=a=>hb (by rw[h];show yL))];show e
theorem fresh_txt{h:Heap}{b:Bool}(e:h.get? a=some { cls:=.type "set",dict:=none,data:=.set #[] 0 (.fresh 0 0 b) }):TxS w h a []:=
 ⟨#[],0,_,e,λe c=>by simp at c,.refl _,rfl,.inl rfl,by decide⟩
theorem set_txt{l:Addr}{f:Array Value}{ks:LS}{Q:Value->Shared->Prop}(hh:A.handled=none)(hl:s.heap.IsList l f)(z:f.size=ks.length)
  (G:∀(i:Nat) (v:Value),f[i]?=some v->∃(k:Str) (t:Tok),ks[i]?=some k/\v=.str k t) (hn:ks.Nodup) (hb:ks.length+1<scanBound)
  (h:∀(h':Heap) (tk:Nat),TxS w h' s.heap.objs.size ks->(∀ b o,s.heap.get? b=some o->h'.get? b=some o)->Q (.ref s.heap.objs.size) { s with heap:=h',toks:=tk }) :
  wpAny (model prog w) A (call (.type "set") [.ref l]) Q E s:=by
 obtain⟨c,tl,Y⟩:=F.called_set.mro;have O:=F.called_set.made;have ac:=F.called_set.sub;show xP (Ki ?_);show wpAny _ _ (callAny (.type "set") _) _ _ _;show yA ⟨kK _ (by room),Km F.entry_type_call ?_⟩;rw[Around.under_plain (weight_type_call_type "set" [.ref l] []) rfl];have h1:=F.called_set.notType;have h2:=F.called_set.canCreate;have af:=F.typeCall_set_1 (.ref l)
 repeat (any_goals (first | assumption | wp_step))
 show Xf (code_set_new_1 (.ref l) (E:=E) (Q₁:=λH g=>∃ d:Bool,H=.ref s.heap.objs.size/\g={ s with heap:=s.heap.push { cls:=.type "set",dict:=none,data:=.set #[] 0 (.fresh 0 0 d) } }) λd=>⟨d,rfl,rfl⟩) λr g D=>?_
 cases r with
 | error e=>show D
 | ok fl =>
  cases fl with
  | next=>show D.elim
  | brk=>show D.elim
  | cont=>show D.elim
  | ret H =>
   obtain⟨d,rfl,rfl⟩:=D;generalize p:({ cls:=.type "set",dict:=none,data:=.set #[] 0 (.fresh 0 0 d) }:Obj)=o0;have X:(s.heap.push o0).get? s.heap.objs.size=some o0:=yS _ (by rw[<- p];rfl);have hT:Shared.TypeIs { s with heap:=s.heap.push o0 } (.ref s.heap.objs.size) "set":=⟨_,X,by rw[<- p]⟩;have ag:=F.called_set.init.lookup;have ae:=F.called_set.init.bind (.ref s.heap.objs.size)
   repeat (any_goals (first | assumption | wp_step))
   show Xf (Y9 (R:=wants (λr j=>r=.none/\∃ h' tk,j={ s with heap:=h',toks:=tk }/\TxS w h' s.heap.objs.size ks/\(∀ b o,s.heap.get? b=some o->h'.get? b=some o)) E) F.called_set.init.plain F.entry_set_init (check_set_init_1 hT ?_)) λI j a=>?_
   .obtain⟨ol,C,q,nl,u⟩:=id hl;obtain⟨ad,S,P,K⟩:=ol;simp only at q u;subst q;subst u;have Z:=yv o0 C;have ab:=F.sub_list_set;have aa:=F.sub_list_frozenset;have ah:(Value.type "list"==Value.type "dict")=false:=by decide
    have x:(s.heap.push o0).IsList l f:=hl.push _;subst p;unfold Builtin.«set.__init__» noKeywords Builtin.Frozenset.updateFrom;generalize L:pyIter=PI
    wp_walk
    subst L;show X9 x ?_;show yt (wpAny_runValue ?_);have y:l<s.heap.objs.size:=yO C;have M:A.in1.in1.in1.handled=none:=by simp[hh]
    have W:=(Walks.list (prog:=prog) (w:=w) M (s.heap.push { cls:=.type "set",dict:=none,data:=.set #[] 0 (.fresh 0 0 d) }).objs.size l (by rw[YS];show Yj (Nat.lt_succ_of_lt y)) f).toS;rw[z] at W;show loop_txt W (by rw[YS];simp only[yF,yW,YT,Ku];show⟨Yj (XH _),xJ y⟩) G hn hb (ks.length-0) 0 _ rfl (Y5 _) ⟨⟨_,yS _ rfl,rfl,rfl⟩,(x.push _)⟩ (fresh_txt (yv _ X)) ?_;intro s' J m;obtain⟨h',g',d',U,T⟩:=s';have eg:g'=s.gens:=J.gens;have ed:d'=s.drawn:=J.drawn;have eo:T=s.os:=J.os;subst eg;subst ed;subst eo;show wpAny _ _ _ _ _ _;show yA ?_;show wpAny _ _ (ret Value.none) _ _ _;show yA ⟨rfl,h',U,rfl,m,λb o e=>J.heap b o (λn=>?_) (yv _ (yv _ e))⟩;have B:=yO e;rw[YS] at n;simp only[yF,yW,YT] at n;rcases n with rfl | rfl
    .show absurd B (Yp _)
    .show absurd (Nat.lt_of_succ_lt B) (Yp _)
   .cases I with
    | error e=>show a
    | ok fl₂ =>
     cases fl₂ with
     | next=>show a.elim
     | brk=>show a.elim
     | cont=>show a.elim
     | ret r =>
      obtain⟨rfl,h',tk,rfl,m,N⟩:=a
      repeat (any_goals (first | assumption | wp_step))
      show h _ _ m N
end
section
variable{prog:Program}{w:World}{A:Around}{E:Value->Shared->Prop}{s:Shared}{a:Addr}
end
section
variable{prog:Program}{w:World}{A:Around}{E:Value->Shared->Prop}{s:Shared}{a I T:Addr}{es:Array (Int×Value)}{ep i:Nat}{t:SetTable}{f:Value}{Q:Option Value->Shared->Prop}
end
section
variable{prog:Program}{w:World}{A:Around}{E:Value->Shared->Prop}{s:Shared}{a I T:Addr}{es:Array (Int×Value)}{ep i:Nat}{t:SetTable}{f:Value}{Q:Option Value->Shared->Prop}{js:LN}
end
section
variable{prog:Program}{w:World}{A:Around}{E:Value->Shared->Prop}{s:Shared}{a I T:Addr}{es:Array (Int×Value)}{ep i:Nat}{t:SetTable}
end
section
variable{prog:Program}{w:World}{A:Around}{E:Value->Shared->Prop}{s:Shared}{a:Addr}{ss:LS}{w₁:World}
end
section
variable{prog:Program}{w:World}{A:Around}{E:Value->Shared->Prop}{s:Shared}{a:Addr}{ss:LS}{w₁:World}
end
section
variable{X:Cx}{K:yh}
theorem qfX:∀{ys:LS} {us:List Value},StrsAre us ys->∀(i:Nat) (v:Value),us[i]?=some v->∃(k:Str) (t:Tok),ys[i]?=some k/\v=.str k t
 | _,_,.cons y tk r,0,v,h=>⟨y,tk,rfl,(yn h).symm⟩
 | _,_,.cons y tk r,i+1,v,h=>qfX r i v h
def qhA(a:Addr)(ss:LS):HO:=.ext λh=>∃ w,TxS w h a ss
def rSetS(K:yh):List V->Hp->VK->Prop:=λxs H Q=>∃(p:Addr) (ss:LS),xs=[.ref p]/\SqL K H p (ss.map V.str)/\ss.Nodup/\ss.length<=100/\∀ l:Addr,H l=none->Q (.ref l) (upd H l (qhA l ss))
theorem k_setS(f:X.K=K)(hc:X.calm=true):zR X (.type "set") (rSetS K):=by
 subst f;intro c s A H xs us Q I r h;obtain⟨p,ss,rfl,m,l,h1,q⟩:=h;obtain⟨u,rfl,t⟩:=qbX r;cases t;obtain⟨a,d,pl,z⟩:=I.list m;have n:=qfI d;have hl:a.length=ss.length:=by rw[<- d.length,ya]
 show set_txt (ks:=ss) (I.ok.hd hc) pl.isList (by simpa using hl) (λi v e=>qfX n i v (by simpa using e)) l (by unfold scanBound;lk) λh' tk b j=>?_;have g:=I.hok.fresh (yi s.heap.objs.size);show⟨.ref _,_,I.laid (o:=qhA s.heap.objs.size ss) (t':=tk) j (yi _) ⟨⟨_,b⟩,?_,λh1 y x e=>?_⟩,rfl,q _ g⟩
 .obtain⟨_,_,_,e,_⟩:=b;show⟨_,e⟩
 .obtain⟨w,x⟩:=x;show⟨w,x.keep e⟩
def rLenT:List V->Hp->VK->Prop:=λxs H Q=>∃(p:Addr) (ss:LS),xs=[.ref p]/\H p=some (qhA p ss)/\Q (.int (ss.length:Int)) H
theorem k_lenT:zR X (.builtin "len") rLenT:=by
 intro b s g H xs us Q I r h;obtain⟨p,ss,rfl,e,q⟩:=h;obtain⟨u,rfl,f⟩:=qbX r;cases f;obtain⟨⟨w,es,ep,t,d,_,a,c,_,hb⟩,_,_⟩:=I.hok p _ e;show call_len_set d ⟨rfl,rfl,rfl⟩ rfl c (by unfold scanBound at hb;lk) ?_;rw[TxS.len (h:=s.heap) a];show⟨.int _,H,I.tok _,⟨_,rfl⟩,q⟩
end
end L2
namespace K71
open PySem L2 PyProof.Rows
variable{A:Str->Str->Prop}{C a b cp cw d dx l p q t x:Addr}{D:Ends}{E:XK}{G H H' H1 H2 J:Hp}{K:W.Frag}{L M gs ns ps tr vis:LN}{N:Addr->Prop}{c:Bool}{cc:Nat->Addr}{cl:Nat->Bool}{first way:Int}{g i j n s v:Nat}{kps qs tps:LP}{kvs:List (Key×V)}{m m1:Str->Option (LS)}{mg:Str->Option Value}{ms:LQ}{o:HO}{ol:V}{r ss:LS}{ts us:LI}{xs:List V}{y z:Str}{α β:Type}{σ:L2.St}
theorem Sr(H:Hp):L2.Same H H:=L2.Same.refl H
theorem jw{k:Nat}{A:Around}(a:Room k A):A.units+100<cLine:=by have:=a.un;lk
theorem hmR{k:Nat}{A:Around}(a:Room k A)(h:j<=k:=by decide):Room j A:=a.mono h
theorem Ui:FnScope wqN wqN (qf jZ):=fS
theorem UH:FnScope wqZ wqZ (qf zo):=fS
theorem UI:FnScope wq2 wq2 (qf zq):=fS
theorem vp:FnScope wq3 wq3 (qf qa3):=fS
local macro_rules | `(tactic| walk_at "w")=>`(tactic| first
 | with_reducible refine vSeq ?_ | with_reducible refine vAsg ?_ | with_reducible refine vAsgS ?_ | with_reducible refine vIfS ?_ | with_reducible refine vRet ?_ | with_reducible refine vNext ?_ | with_reducible refine vC ?_
 | ((with_reducible refine' vVar ?hv ?_);(case hv=>rfl)) | with_reducible refine vOp ?_ | with_reducible refine vChain ?_ | with_reducible refine vNil ?_ | with_reducible refine vCons ?_ | with_reducible refine vCB ?_ | with_reducible refine vCall ?_
 | with_reducible refine vLst ?_ | with_reducible refine vTup ?_ | with_reducible refine vTest ?_ | with_reducible refine vB ?_ | with_reducible refine vNot ?_ | with_reducible refine vAnd ?_ | with_reducible refine vOr ?_
 | with_reducible refine vAndV ?_ | with_reducible refine vOrV ?_ | with_reducible refine vNotV ?_ | with_reducible refine vYes ?_ | with_reducible refine vLeI ?_ | with_reducible refine vLeS ?_ | with_reducible refine vIsB ?_ | with_reducible refine vAddI ?_ | with_reducible refine vSl ?_ | with_reducible refine vNoPart ?_ | with_reducible refine vPart ?_ | with_reducible refine vExI ?_ | with_reducible refine vBM ?_ | with_reducible refine vBM0 ?_ | with_reducible refine vComp ?_ | with_reducible refine vFor ?_ | with_reducible refine vRng1 ?_ | with_reducible refine vAny ?_ | with_reducible refine vGN ?_ | with_reducible refine vI0 ?_ | with_reducible refine vEqI ?_ | with_reducible refine vEqB ?_ | with_reducible refine vEx ?_ | with_reducible refine vDrop ?_ | with_reducible refine vRetN ?_ | with_reducible refine vFldU ?_ | with_reducible refine vSFldU ?_ | with_reducible refine vXMake ?_ | with_reducible refine vMake ?_ | with_reducible refine vMeth ?_ | with_reducible refine vVinit ?_ | with_reducible refine vCallS ?_ | with_reducible refine vRaise ?_ | with_reducible refine vMethS ?_ | with_reducible refine vMakeS ?_ | with_reducible refine vUn ?_ | with_reducible refine vIf ?_ | with_reducible refine vRev ?_ | with_reducible refine vEnum ?_ | with_reducible refine vDGet2 ?_ | with_reducible refine vStep ?_)
local macro_rules | `(tactic| walk_at "v")=>`(tactic| repeat walk_at "w")
local macro_rules | `(tactic| ext)=>`(tactic| walk_at "v")
local macro_rules | `(tactic| apply $e)=>`(tactic| (ext;refine $e))
def qec:Nat->Str
 | 2=>"many"
 | 3=>"ring"
 | _=>"found"
structure Txt(K:W.Frag)(mg:Str->Option Value)(cc:Nat->Addr)(cw:Addr):Prop where
 b_len:mg "len"=none
 b_int:mg "int"=none
 b_enumerate:mg "enumerate"=none
 b_all:mg "all"=none
 b_max:mg "max"=none
 b_min:mg "min"=none
 b_isinstance:mg "isinstance"=none
 b_bool:mg "bool"=none
 b_str:mg "str"=none
 b_range:mg "range"=none
 b_list:mg "list"=none
 b_tuple:mg "tuple"=none
 b_ValueError:mg "ValueError"=none
 g_LONGEST_NAME:∃ tk,mg "LONGEST_NAME"=some (.int 6 tk)
 g_MOST_PLACES:∃ tk,mg "MOST_PLACES"=some (.int 14 tk)
 g_MOST_TIES:∃ tk,mg "MOST_TIES"=some (.int 30 tk)
 m_NoPlace:mg "NoPlace"=some (.ref (cc 0))
 m_NoTie:mg "NoTie"=some (.ref (cc 1))
 m_TooMany:mg "TooMany"=some (.ref (cc 2))
 m_Odd:mg "Odd"=some (.ref (cc 3))
 m_OnceError:mg "OnceError"=some (.ref (cc 4))
 vinit:VInit K
 xat:∀ i,i<4+1->XAt K (cc i)
 na:∀ i,i<4->NoAttr K (cc i) (qec i)
 kit:∀ i j,i<4->j<4->W.kitOne K (.ref (cc i)) (.ref (cc j))=some (decide (i=j))
 kitV:∀ i,i<4+1->W.kitOne K (.ref (cc i)) (.type "ValueError")=some true
 mroO:∀ i,i<4->W.mroIn K (cc i) (.ref (cc 4))=some true
 wcl:Cls K cw
 wn:NoAttr K cw "numbers"
 wo:NoAttr K cw "order"
 wr:NoAttr K cw "near"
 g_MOST_SUMMED:∃ tk,mg "MOST_SUMMED"=some (.int 40 tk)
 g_HIGHEST_SUMMED:∃ tk,mg "HIGHEST_SUMMED"=some (.int 1073741823 tk)
 m_Web:mg "Web"=some (.ref cw)
 m_Road:mg "Road"=some (.ref (cc 8))
 pcl:Cls K (cc 8)
 pb:NoAttr K (cc 8) "board"
 pp:NoAttr K (cc 8) "path"
 b_zip:mg "zip"=none
 b_sorted:mg "sorted"=none
 b_set:mg "set"=none
 smod:∃ o,K.lookup sysModules=some o
 m_Keen:mg "Keen"=some (.ref (cc 9))
 m_Nearest:mg "Nearest"=some (.ref (cc 10))
 g_MOST_TIES_LEFT:∃ tk,mg "MOST_TIES_LEFT"=some (.int 10 tk)
 ety:∀ i,i=9\/i=10->∀(H:Hp) (a dx:Addr) (fs:List (Str×V)),H a=some (.ins (cc i) dx fs)->TyOf K H (.ref a) (.ref (cc i))
 eP:∀ i,i=9\/i=10->W.kitOne K (.ref (cc i)) (.ref (cc 11))=some true
 m_Player:mg "Player"=some (.ref (cc 11))
inductive spOnce(K:W.Frag)(vs:List V)(H:Hp)(Q:VK)(E:XK):Prop|mk (e C:Addr) (y:V) (_:vs=[.ref e,y]) (_:H e=some (XN e C none)) (_:XAt K C) (_:Q .non H)
inductive spX(C:Addr)(fl:Str)(vs:List V)(H:Hp)(Q:VK)(E:XK):Prop|mk (e:Addr) (v:V) (_:vs=[.ref e,v]) (_:H e=some (XN e C none)) (_:∀ dx,H dx=none->Q .non (upd (upd H dx (.xd [(fl,v)])) e (XN e C (some dx))))
theorem qb4{g:Str}{y:V}(c:XAt K C)(q:∀ dx H',L2.Same H1 H'->H' dx=some (.xd [(g,y)])->E (.ref C) (some dx) H') :
  [y].length<=1000/\∀ x,H1 x=none->spX C g (.ref x::[y]) (upd H1 x (XN x C none)) (λv H2=>v=.non/\∃ a f dx,(V.ref x)=.ref a/\H2 a=some (XN a f dx)/\XAt K f/\E (.ref f) dx (upd H2 a (XO a f dx))) E0:=by
 show⟨by show 1<=1000;decide,λx h=>⟨x,y,rfl,qc,λdx d=>⟨rfl,x,C,some dx,rfl,qc,c,q dx _ (λb o e=>?_) ?_⟩⟩⟩
 .have nx:b≠x:=λz=>by rw[z,h] at e;cases e
  have nd:b≠dx:=λz=>by rw[<- z,qo nx,e] at d;cases d
  rw[qo nx,qo nx,qo nd,qo nx];show e
 .have nx:dx≠x:=λz=>by rw[z,qc] at d;cases d
  rw[qo nx,qo nx,qc]
def Rz(cc:Nat->Addr)(H:Hp)(E:XK)(r:Nat×V):Prop:=∀ dx H',L2.Same H H'->H' dx=some (.xd [(qec r.1,r.2)])->E (.ref (cc r.1)) (some dx) H'
theorem Rz.later{r:Nat×V}(h:Rz cc H E r)(s:L2.Same H H1):Rz cc H1 E r:=λdx H' t e=>h dx H' (s.trans t) e
section
variable{P:Program}{w:World}{K:W.Frag}{mg:Str->Option Value}{base:Heap}{cc:Nat->Addr}{cw:Addr}{f:Addr}{fd:FuncData}
theorem ok_once(F:Fun K "__init__" "OnceError.__init__" jZ f fd)(T:Txt K mg cc cw):wqqj 1 f fd wqN (spOnce K):=by
 show F.ok Ui λ_ _ _ _ H vs Q E b h=>?_
 .obtain⟨e,C,y,rfl,a,c,q⟩:=h;show⟨_,(qe (qN (k_vinit (K:=K) rfl T.vinit rfl T.b_ValueError zL (qa (pv 0) (qa (pv 1) qb))))),?_⟩;apply⟨e,C,y,rfl,a,c,q⟩
theorem ok_NoPlace(F:Fun K "__init__" "NoPlace.__init__" zo f fd)(T:Txt K mg cc cw)(b:CMethOk P w K mg base CX0 1 (cc 4) "OnceError" "__init__" wqN (spOnce K)) :
  wqqj 2 f fd wqZ (spX (cc 0) (qec 0)):=by
 show F.ok UH λ_ _ _ _ H vs Q E c h=>?_
 .obtain⟨e,v,rfl,a,q⟩:=h;show⟨_,(qd (qN (qde b (hmR c) (qa (pv 0) (qa zv qb))))
 (qe (qaA (K:=K) rfl (pv 0) (pv 1) rfl))),?_⟩
  apply⟨e,_,_,rfl,a,T.xat 0 (by decide),?_⟩;apply .inr ⟨e,_,rfl,a,T.xat 0 (by decide),T.na 0 (by decide),q⟩
theorem ok_TooMany(F:Fun K "__init__" "TooMany.__init__" zq f fd)(T:Txt K mg cc cw)(b:CMethOk P w K mg base CX0 1 (cc 4) "OnceError" "__init__" wqN (spOnce K)) :
  wqqj 2 f fd wq2 (spX (cc 2) (qec 2)):=by
 show F.ok UI λ_ _ _ _ H vs Q E c h=>?_
 .obtain⟨e,v,rfl,a,q⟩:=h;show⟨_,(qd (qN (qde b (hmR c) (qa (pv 0) (qa zv qb))))
 (qe (qaA (K:=K) rfl (pv 0) (pv 1) rfl))),?_⟩
  apply⟨e,_,_,rfl,a,T.xat 2 (by decide),?_⟩;apply .inr ⟨e,_,rfl,a,T.xat 2 (by decide),T.na 2 (by decide),q⟩
theorem ok_Odd(F:Fun K "__init__" "Odd.__init__" qa3 f fd)(T:Txt K mg cc cw)(b:CMethOk P w K mg base CX0 1 (cc 4) "OnceError" "__init__" wqN (spOnce K)) :
  wqqj 2 f fd wq3 (spX (cc 3) (qec 3)):=by
 show F.ok vp λ_ _ _ _ H vs Q E c h=>?_
 .obtain⟨e,v,rfl,a,q⟩:=h;show⟨_,(qd (qN (qde b (hmR c) (qa (pv 0) (qa zv qb))))
 (qe (qaA (K:=K) rfl (pv 0) (pv 1) rfl))),?_⟩
  apply⟨e,_,_,rfl,a,T.xat 3 (by decide),?_⟩;apply .inr ⟨e,_,rfl,a,T.xat 3 (by decide),T.na 3 (by decide),q⟩
theorem UJ:FnScope wqk wqk (qf zN):=fS
theorem vF:FnScope wqD wqD (qf qbF):=fS
theorem Uq:FnScope wqx wqx (qf qao):=fS
theorem uH:FnScope ["numbers","thing","both"] wqx (qf j0):=fS
theorem qw(a:L2.Same H H1)(hl:H1 l=none):L2.Same H (upd H1 l o):=λc u e=>by
 have q:=a c u e;rw[qo (qO q hl)];show q
theorem qhH(a:L2.Same H H1)(hl:H l=none):L2.Same H (upd H1 l o):=λc u e=>by
 rw[qo (qO e hl)];show a c u e
def sg(c:Nat):Bool:=if (!decide (([c]:LN)<("a":Str).cps.toList))=true then !decide (("z":Str).cps.toList < [c]) else false
def qah(x:Str):Bool:=if 1<=x.length/\x.length<=6 then x.cps.toList.all sg else false
theorem qeZ{x:Str}(h:qah x=true):1<=x.length/\x.length<=6/\x.cps.toList.all sg=true:=by
 unfold qah at h;split at h
 .rename_i z;show⟨z.1,z.2,h⟩
 .cases h
theorem nameS_len{s:Str}(h:qah s=true):s.length<=6:=(qeZ h).2.1
structure All2{α β:Type}(R:α->β->Prop)(l:List α)(m:List β):Prop where
 len:l.length=m.length
 at_:∀(k:Nat) a b,l[k]?=some a->m[k]?=some b->R a b
theorem All2.nil{R:α->β->Prop}:All2 R [] []:=⟨rfl,λk a b h=>by simp at h⟩
theorem All2.mono{R S:α->β->Prop}{l:List α}{m:List β}(h:All2 R l m)(f:∀ a b,R a b->S a b):All2 S l m:=⟨h.len,λk a b x y=>f a b (h.at_ k a b x y)⟩
theorem All2.snoc{R:α->β->Prop}{l:List α}{m:List β}{x:α}{y:β}(h:All2 R l m)(r:R x y):All2 R (l++[x]) (m++[y]):=by
 show⟨by rw[yK,yK,h.len];rfl,λk a b c hb=>?_⟩;by_cases d:k<l.length
 .rw [yQ d] at c;rw[yQ (by rw[<- h.len];show d)] at hb;show h.at_ k a b c hb
 .rw [Yc (by lk)] at c;rw[Yc (by rw[<- h.len];lk)] at hb
  have e:k-l.length=0:=by
   have:=(yc.mp c).1;simp at this;lk
  rw[<- h.len] at hb;rw[e] at c hb;cases c;cases hb;show r
theorem All2.mem{R:α->β->Prop}{l:List α}{m:List β}(h:All2 R l m){x:α}(c:x∈l):∃ y∈m,R x y:=by
 obtain⟨k,b,e⟩:=List.getElem_of_mem c;have a:k<m.length:=by rw[<- h.len];show b
 show⟨m[k],Xo a,h.at_ k x m[k] (by rw[yb b,e]) (yb a)⟩
def PL(H:Hp)(l:Addr)(ts:LI)(tps:LP):Prop:=H l=some (.lst (ts.map V.ref))/\All2 (λt a=>H t=some (.tup [.str a.1,.str a.2])) ts tps
theorem PL.same(h:PL H l ts tps)(s:L2.Same H H'):PL H' l ts tps:=⟨s _ _ h.1,h.2.mono λ_ _ z=>s _ _ z⟩
inductive spName(vs:List V)(H:Hp)(Q:VK)(E:XK):Prop|mk (x:Str) (_:vs=[.str x]) (_:qah x=true) (_:∀ H',L2.Same H H'->Q (.bl true) H')
theorem ok_name(F:Fun K "is_name" "is_name" zN f fd)(T:Txt K mg cc cw):wqqj 1 f fd wqk spName:=by
 show F.ok UJ λ_ _ _ _ H vs Q E r h=>?_
 .obtain⟨x,rfl,j,q⟩:=h;obtain⟨s,n,p⟩:=qeZ j;show⟨_,(qd (qG (PW.pt (zI (qP (qD (qk (zi (K:=K) rfl) rfl T.b_isinstance Yi (qa (pv 0) (qa (jh (v:=.ty "str") rfl T.b_str boot_str rfl) qb))))) (za (qP (qeD qgp qgp qh (qk (j8 (K:=K) rfl) rfl T.b_len Yv (qa (pv 0) qb)) (qaz rfl T.g_LONGEST_NAME)))))) (qe (qi jy)) qt)
 (qe (qi (qk (qdW (K:=K) rfl rfl) rfl T.b_all kM (qa (qK (sc:=qf zN) (XN:=wqk) ["sign"] 1 [] rfl rfl rfl (by room) rfl (by room)
  (qL (K:=K) rfl (pv 0)) (λ_ _ _ _=>(qp (i:=0) (show(["sign"]:LS).Nodup by room) rfl (yG rfl))) qF
  (λ_ _ _ _=>jl)
  (λ_ _ _ _=>(qc9 qgp qgp zv (pv 0) zv))) qb))))),?_⟩
  apply qaB (.inl (.str x)) rfl (jQ K "str" (by simp) "str" (by simp)) ?_;apply yr ?_;apply qhZ (yj n (by decide)) ?_;apply qE (λh1=>?_) λh1=>absurd (yx (by lk)) h1;apply qE (λe=>by simp only[Y6,YU] at e;lk) λe=>?_;apply qeL (λi ys H'=>H'=H/\ys=((x.cps.toList.take i).map sg).map V.bl) ⟨rfl,by simp⟩ (λi c ys H' hc d=>?_) λys H' d=>?_
  .obtain⟨rfl,rfl⟩:=d;apply jv ?_;ext
   have hl:(List.map V.bl (List.map sg (List.take i x.cps.toList))).length<sizeLine:=by
    rw[ya,ya,yM];show qg (yj (kj _ _) (by simpa [Str.length] using(show x.length<=1000 by lk)))
   have key:∀ b,b=sg c->(List.map V.bl (List.map sg (List.take i x.cps.toList)))++[V.bl b]=List.map V.bl (List.map sg (List.take (i+1) x.cps.toList)):=by
    intro b hb;have g:x.cps.toList[i]?=some c:=by simpa using hc
    rw[hb,yI,g];simp
   show qE (λa=>?_) λa=>⟨hl,rfl,key _ (by unfold sg;rw[yE a])⟩;apply⟨hl,rfl,key _ (by unfold sg;rw[yH a])⟩
  .obtain⟨rfl,rfl⟩:=d;have m:x.cps.toList.take x.cps.size=x.cps.toList:=by rw[<- YZ,yD]
   rw[m];show⟨?_,λl hl=>?_⟩
   .rw [ya,ya];show yN (qg (by simpa [Str.length] using(show x.length<=1000 by lk)))
   .ext;show⟨l,x.cps.toList.map sg,rfl,SqL.of qc,?_⟩;have z:=q _ (qw (Sr H') (o:=.lst ((x.cps.toList.map sg).map V.bl)) hl);rw[kc];rw[<- p] at z;show z
inductive spBit(vs:List V)(H:Hp)(Q:VK)(E:XK):Prop|mk (b n:Int) (_:vs=[.int b,.int n]) (_:0<=n) (_:Q (.bl (decide (Builtin.bitAnd (b / 2 ^ n.toNat) 1=1))) H)
theorem ok_bit(F:Fun K "has_bit" "has_bit" qbF f fd):wqqj 1 f fd wqD spBit:=by
 show F.ok vF λ_ _ _ _ H vs Q E c h=>?_
 .obtain⟨b,n,rfl,a,q⟩:=h;have d:=jw c;show⟨_,(qe (qi (qW (jo (K:=K) rfl d) (qM op_and (qM op_shr (pv 0) (pv 1)) qh) qh (qu _)))),?_⟩;apply vI a ?_;apply .inl (.inl (.inl ⟨rfl,rfl,?_⟩));show q
def qcd:LS->Nat->List (Key×V)
 | [],_=>[]
 | s::r,i=>(.inr s,.int i)::qcd r (i+1)
theorem qd4(y:Str):∀(ss:LS) (i:Nat),qcd (ss++[y]) i=qcd ss i++[(.inr y,.int (i+ss.length:Nat))]
 | [],i=>rfl
 | s::r,i=>by
  show(_::qcd (r++[y]) (i+1))=_::(qcd r (i+1)++_);rw[qd4 y r (i+1)];have:i+1+r.length=i+(s::r).length:=by simp;lk
  rw[this]
theorem qaD:∀(ss:LS) (i:Nat),(qcd ss i).length=ss.length
 | [],_=>rfl
 | _::r,i=>congrArg (· + 1) (qaD r (i+1))
theorem qbG:∀{ss:LS} {i:Nat},y∉ss->qam (qcd ss i) (.inr y:Key)=none
 | [],_,_=>rfl
 | s::r,i,h=>by
  have h1:¬ s=y:=λe=>h (by rw[e];show yL);show qam ((.inr s,V.int i)::qcd r (i+1)) _=none;rw[jG (p:=((.inr s:Key),V.int i)) (λe=>h1 (kO e))];show qbG λm=>h (yz _ m)
theorem zw:∀{ss:LS} {i:Nat},y∈ss->∃ j,j<ss.length/\ss[j]?=some y/\qam (qcd ss i) (.inr y:Key)=some (.int (i+j:Nat))
 | [],_,h=>by cases h
 | s::r,i,h=>by
  by_cases e:s=y
  .subst e;show⟨0,by simp,rfl,jY (p:=((.inr s:Key),V.int i)) rfl⟩
  .rcases yF.mp h with z | z
   .show absurd z.symm e
   .obtain⟨j,h1,b,c⟩:=zw (i:=i+1) z;show⟨j+1,by simp;lk,by simpa using b,?_⟩;show qam ((.inr s,V.int i)::qcd r (i+1)) _=_;rw[jG (p:=((.inr s:Key),V.int i)) (λa=>e (kO a)),c];have:i+1+j=i+(j+1):=by lk
    rw[this]
theorem qbo(y:Str)(ss:LS)(i:Nat):(qam (qcd ss i) (.inr y:Key)).isSome=decide (y∈ss):=by
 by_cases h:y∈ss
 .obtain⟨j,_,_,e⟩:=zw (i:=i) h;rw[e,yx h];rfl
 .rw [qbG h,ym h];rfl
inductive spPlace(vs:List V)(H:Hp)(Q:VK)(E:XK):Prop|mk (d:Addr) (ss:LS) (x:Str) (_:vs=[.ref d,.str x]) (_:H d=some (.dK (qcd ss 0))) (_:qah x=true) (_:x∈ss) (_:∀ H',L2.Same H H'->Q (.bl true) H')
theorem ok_place(F:Fun K "is_place" "is_place" qao f fd)(j:wqqh 1 "is_name" wqk spName):wqqj 2 f fd wqx spPlace:=by
 show F.ok Uq λ_ _ _ _ H vs Q E a h=>?_
 .obtain⟨d,ss,x,rfl,c,e,i,q⟩:=h;have g:=jw a;show⟨_,(qe (qi (qal (qm j (hmR a) qv (qa (pv 1) qb)) (zU (qW (qaO (K:=K) rfl g) (pv 1) (pv 0) (by with_unfolding_all rfl)))))),?_⟩;apply⟨x,rfl,e,λH1 b=>?_⟩;apply jv ?_;apply .inr (.inl ⟨d,_,rfl,DGet.k (k:=Sum.inr x) (b d _ c),?_⟩);rw[qbo,yx i];show q H1 b
inductive spTwo(vs:List V)(H:Hp)(Q:VK)(E:XK):Prop|mk (d t:Addr) (ss:LS) (a b:Str) (_:vs=[.ref d,.ref t]) (_:H d=some (.dK (qcd ss 0))) (_:H t=some (.tup [.str a,.str b])) (_:qah a=true) (_:qah b=true) (_:a∈ss) (_:b∈ss) (_:a≠b) (_:∀ H',L2.Same H H'->Q (.bl true) H')
theorem ok_two(F:Fun K "are_two_places" "are_two_places" j0 f fd)(T:Txt K mg cc cw)(p:wqqh 2 "is_place" wqx spPlace):wqqj 3 f fd wqx spTwo:=by
 show F.ok uH λ_ _ _ _ H vs Q E m h=>?_
 .obtain⟨d,t,ss,a,b,rfl,o,c,s,u,r,hb,l,q⟩:=h;have g:=jw m;show⟨_,(qd (qG (PW.pt (zI (qP (qD (qk (zi (K:=K) rfl) rfl T.b_isinstance Yi (qa (pv 1) (qa (jh (v:=.ty "tuple") rfl T.b_tuple Xi rfl) qb))))) (za (qj (zT (K:=K) rfl g) (qk (j8 (K:=K) rfl) rfl T.b_len Yv (qa (pv 1) qb)) qh (qu _))))) (qe (qi jy)) qt)
 (qd (qr (i:=2) uH.nd rfl (yG rfl) (qal (qm p (hmR m) qv (qa (pv 0) (qa (qA (qB (K:=K) rfl g) (pv 1) qh (λ_ _=>rfl)) qb))) (zU (qm p (hmR m) qv (qa (pv 0) (qa (qA (qB (K:=K) rfl g) (pv 1) qh (λ_ _=>rfl)) qb))))))
 (qe (qi (qal (pv 2) (zU (qW (zT (K:=K) rfl g) (qA (qB (K:=K) rfl g) (pv 1) qh (λ_ _=>rfl)) (qA (qB (K:=K) rfl g) (pv 1) qh (λ_ _=>rfl)) (qu _)))))))),?_⟩
  apply qaB (.inl (.tup c)) rfl (jQ K "tuple" (by simp) "tuple" (by simp)) ?_;apply yr ?_;apply qhw c ?_;apply .inl ⟨rfl,rfl,?_⟩;apply yr ?_;apply .inl (qbU c rfl ?_);apply⟨d,ss,a,rfl,o,s,r,λH1 j=>?_⟩;apply jv ?_;apply .inl (qbU (j _ _ c) rfl ?_);apply⟨d,ss,b,rfl,j _ _ o,u,hb,λH2 n=>?_⟩;apply jv ?_;apply .inl (qbU (n _ _ (j _ _ c)) rfl ?_);apply .inl (qbU (n _ _ (j _ _ c)) rfl ?_);show .inl ⟨rfl,rfl,?_⟩;have z:=q H2 (j.trans n);have e:(if true=true then !eqV (V.str a) (V.str b) else eqV (V.str a) (V.str b))=true:=by simp[eqV,l]
  rw[e];show z
theorem uE:FnScope ["names","numbers","name"] wq5 (qf zX):=fS
theorem qdk(m j:Nat):decide (Builtin.bitAnd ((m:Int) / 2 ^ (j:Int).toNat) 1=1)=m.testBit j:=by
 rw[PyProof.Rows.bitAnd_m1,Nat.testBit_eq_decide_div_mod_eq];rw[Ye];have e:(m:Int) / 2 ^ j=((m / 2 ^ j:Nat):Int):=by rw[Int.natCast_ediv,XW];rfl
 rw[e]
 congr 1
 apply propext;lk
theorem qg9(m j:Nat):Builtin.bitOr (m:Int) (1*2 ^ (j:Int).toNat)=((m ||| 2 ^ j:Nat):Int):=by
 have e:(1*2 ^ (j:Int).toNat:Int)=((2 ^ j:Nat):Int):=by rw[Ye,Int.one_mul,XW];rfl
 rw[e];generalize 2 ^ j=k;have c:Builtin.bitNot (m:Int)=-(m:Int)-1:=rfl;have d:Builtin.bitNot (k:Int)=-(k:Int)-1:=rfl;unfold Builtin.bitOr Builtin.bitAnd;rw[c,d,ym (by lk),ym (by lk)];dsimp only;unfold Builtin.bitNot;have a:(-(-(m:Int)-1)-1).toNat=m:=by lk
 have b:(-(-(k:Int)-1)-1).toNat=k:=by lk
 rw[a,b];lk
def But(x:Addr)(H H':Hp):Prop:=∀ b o,b≠x->H b=some o->H' b=some o
theorem But.refl(x:Addr)(H:Hp):But x H H:=λ_ _ _ e=>e
theorem But.same(a:But x H H1)(b:L2.Same H1 H2):But x H H2:=λc o n e=>b c o (a c o n e)
theorem But.put(a:But x H H1):But x H (upd H1 x o):=λc u n e=>by rw[qo n];show a c u n e
theorem But.new(a:But x H H1)(hl:H1 l=none):But x H (upd H1 l o):=a.same (qw (Sr H1) hl)
theorem isi_lst{Q:VK}(h:H a=some (.lst xs))(b:H q=some (.tup [.ty "list",.ty "tuple"]))(k:Q (.bl true) H):qfO K [.ref a,.ref q] H Q:=
 ⟨_,q,_,_,[.type "list",.type "tuple"],true,rfl,.inl (.lst h),b,rfl,rfl,k⟩
def LTu(H:Hp)(a:Addr)(xs:List V):Prop:=H a=some (.lst xs)\/H a=some (.tup xs)
theorem LTu.same(h:LTu H a xs)(s:L2.Same H H'):LTu H' a xs:=h.imp (s _ _) (s _ _)
theorem qha{Q:VK}(h:LTu H a xs)(b:H q=some (.tup [.ty "list",.ty "tuple"]))(k:Q (.bl true) H):qfO K [.ref a,.ref q] H Q:=
 h.elim (λh=>isi_lst h b k) λh=>⟨_,q,_,_,[.type "list",.type "tuple"],true,rfl,.inl (.tup h),b,rfl,rfl,k⟩
theorem qhb{Q:VK}(h:LTu H a xs)(q:Q (.int xs.length) H):qeh K [.ref a] H Q:=h.elim (λe=>zK e q) λe=>qhw e q
def qiK(g:TG)(t:TS)(D:Ends)(σ:L2.St)(J:It)(H1:Hp):Prop:=∃ W:Nat->Nat->L2.St->Hp->Prop,(∃ m,W 0 m σ H1)/\∀ i m σ H,W i m σ H ->
 (J.stop i H/\D.nx σ H)\/(J.go i H/\∃ N:L2.St->Hp->Prop,(∀ a H',N a H'->∃ c,c<m/\W (i+1) c a H')/\∀ x H',J.yld i H x H'->g x σ H' λb H2=>t { D with nx:=N,ct:=N,bk:=D.nx } b H2)
theorem qhc{g:TG}{d:TS}(h:LTu H a xs)(n:L2.Same H H1)(b:Nat->L2.St->Hp->Prop)(j:b 0 σ H1)(hl:∀ i σ H',b i σ H'->L2.Same H H')
  (m:∀ i x σ H,xs[i]?=some x->b i σ H->g x σ H λf H2=>d { D with nx:=b (i+1),ct:=b (i+1),bk:=D.nx } f H2) (l:∀ σ H,b xs.length σ H->D.nx σ H) :
  ((∃ xs,SqL K H1 a xs)/\qiK g d D σ (Itl K a) H1)\/((∃ xs,SqT K H1 a xs)/\qiK g d D σ (Itt K a) H1):=by
 rcases h with e | e
 .show .inl ⟨⟨_,SqL.of (n _ _ e)⟩,jX (K:=K) b j (λi σ H' _ c=>SqL.of (hl i σ H' c _ _ e)) m l⟩
 .show .inr ⟨⟨_,SqT.of (n _ _ e)⟩,for_tup (K:=K) b j (λi σ H' _ c=>SqT.of (hl i σ H' c _ _ e)) m l⟩
inductive spNums(vs:List V)(H:Hp)(Q:VK)(E:XK):Prop|mk (a:Addr) (ss:LS) (_:vs=[.ref a]) (_:LTu H a (ss.map V.str)) (_:ss.length<=14) (_:ss.Nodup) (_:(∀ s∈ss,qah s=true)) (_:∀ d H',L2.Same H H'->H d=none->H' d=some (.dK (qcd ss 0))->Q (.ref d) H')
theorem ok_nums(F:Fun K "numbers_of" "numbers_of" zX f fd)(T:Txt K mg cc cw)(R:wqqh 1 "is_name" wqk spName) :
  wqqj 4 f fd wq5 spNums:=by
 show F.ok uE λ_ _ _ _ H vs Q E D h=>?_
 .obtain⟨a,ss,rfl,n,L,p,r,q⟩:=h;have G:=jw D;show⟨_,(qd (qG (qP (qD (qk (qdd (K:=K) rfl) rfl T.b_isinstance Yi (qa (pv 0) (qa (ji (qa (jh (v:=.ty "list") rfl T.b_list Xe rfl) (qa (jh (v:=.ty "tuple") rfl T.b_tuple Xi rfl) qb))) qb))))) (qe jk) qt)
 (qd (qG (qj qdI (qk (j8 (K:=K) rfl) rfl T.b_len Yv (qa (pv 0) qb)) (qaz rfl T.g_MOST_PLACES) (qu _)) (qe jk) qt)
 (qd (qr (i:=1) uE.nd rfl (yG rfl) qcg)
 (qd (jq yX rfl (qL (K:=K) rfl (pv 0)) (qp (i:=2) uE.nd rfl (yG rfl))
 (qd (qG (qP (qD (qm R (hmR D) qv (qa (pv 2) qb)))) (qe jk) qt)
 (qd (qG (qj (qaO (K:=K) rfl G) (pv 2) (pv 1) (by with_unfolding_all rfl)) (qe jk) qt)
 (qe (qbt (qk (j8 (K:=K) rfl) rfl T.b_len Yv (qa (pv 1) qb)) (qb9 (pv 1) (pv 2) (qca G)))))))
 (qe (qi (pv 1))))))),?_⟩
  apply⟨wqqn,λg M=>?_⟩;have l:=qw (Sr H) (o:=.tup [.ty "list",.ty "tuple"]) M;apply qha (n.same l) qc ?_;apply yr ?_;apply qhb (n.same l) ?_;rw[ya];apply qE (λh=>by have:=yl h;lk) λ_=>?_;ext;intro d B;have J:=qw l (o:=.dK []) B;have c:H d=none:=l.free B;apply qhc (K:=K) n J (λi σ H'=>∃ u,σ=[some (.ref a),some (.ref d),u]/\L2.Same H H'/\H' d=some (.dK (qcd (ss.take i) 0))) ⟨none,rfl,J,qc⟩ (λi σ H' e=>by obtain⟨_,_,z,_⟩:=e;show z) (λi y σ H' I e=>?_) fun σ H' e=>?_
  .obtain⟨u,rfl,t,b⟩:=e;rw[ye] at I;obtain⟨x,s,rfl⟩:=yo.mp I;have N:i<ss.length:=(yc.mp s).1;have j:ss.take (i+1)=ss.take i++[x]:=by rw[yI,s];rfl
   have C:x∉ss.take i:=λz=>by
    have A:(ss.take (i+1)).Nodup:=p.sublist (kP _ _);rw[j] at A;show(YD.mp A).2.2 _ z x (by simp) rfl
   apply⟨x,rfl,r x (yf s),λH1 m=>?_⟩;have O:=t.trans m;apply yr ?_;apply .inr (.inl ⟨d,_,rfl,DGet.k (k:=Sum.inr x) (m _ _ b),?_⟩);rw[qbo,ym C];apply yr ?_;apply .inr ⟨_,m _ _ b,?_⟩;apply .inr ⟨d,_,rfl,DPut.k (k:=Sum.inr x) (m _ _ b) (qg (by rw[qaD,yM];lk)),?_⟩;show⟨_,rfl,qhH O c,?_⟩;rw[qc,qdb _ (qbG C),j,qd4,qaD];simp only[xM]
  .obtain⟨u,rfl,t,b⟩:=e;ext;rw[ya,yD] at b;show q d H' t c b
theorem vq:FnScope wqC wqC (qf qa4):=fS
theorem ur:FnScope ["numbers","ties","near","tie","one","other"] wqqg (qf qbH):=fS
def qc3(ss:LS)(ns:LN)(seen:LP):Prop:=ns.length=ss.length/\(∀ a,ns.getD a 0<2 ^ ss.length)/\∀ a b s t,ss[a]?=some s->ss[b]?=some t->(ns.getD a 0).testBit b=decide ((s,t)∈seen\/(t,s)∈seen)
theorem jf(h:ss.Nodup){a b:Nat}{s:Str}(i:ss[a]?=some s)(hb:ss[b]?=some s):a=b:=by
 have e:=YO.mp h;obtain⟨f,c⟩:=yc.mp i;obtain⟨g,d⟩:=yc.mp hb;rcases Nat.lt_trichotomy a b with q | q | q
 .show absurd (c.trans d.symm) (e a b f g q)
 .show q
 .show absurd (d.trans c.symm) (e b a g f q)
theorem bits_zero:qc3 ss (List.replicate ss.length 0) []:=by
 have z:∀ a,(List.replicate ss.length 0).getD a 0=0:=λa=>by
  simp only[List.getD,XZ];split<;>rfl
 show⟨by simp,λa=>by rw[z a];show Nat.two_pow_pos _,λa b s t c hb=>?_⟩;rw[z a];simp
theorem qbI(h:i<ns.length):(ns.set i v).getD j 0=if i=j then v else ns.getD j 0:=by
 simp only[List.getD,List.getElem?_set];by_cases e:i=j
 .subst e;simp[h]
 .simp [e]
theorem bits_step{seen:LP}(hb:qc3 ss ns seen)(n:ss.Nodup){s t:Str}(d:ss[i]?=some s)(g:ss[j]?=some t)(m:s≠t) :
  qc3 ss ((ns.set i (ns.getD i 0 ||| 2 ^ j)).set j (ns.getD j 0 ||| 2 ^ i)) (seen++[(s,t)]):=by
 obtain⟨hl,l,h⟩:=hb;have A:i<ns.length:=by rw[hl];show(yc.mp d).1
 have B:j<ns.length:=by rw[hl];show(yc.mp g).1
 have C:i≠j:=λe=>by rw[e,g] at d;cases d;show m rfl
 have x:i<ss.length:=(yc.mp d).1;have y:j<ss.length:=(yc.mp g).1;show⟨by simp[hl],λa=>?_,λa b u v f c=>?_⟩
 .rw [qbI (by simpa using B),qbI A];split
  .show kT (l _) (XF (by decide) x)
  .split
   .show kT (l _) (XF (by decide) y)
   .show l _
 rw[qbI (by simpa using B),qbI A];have o:=h a b u v f c;have key:∀ P Q:Prop,(P↔Q)->∀ [Decidable P] [Decidable Q],decide P=decide Q:=λP Q e=>by intro _ _;show yY.mpr e
 by_cases r:j=a
 .subst r;rw[g] at f;cases f;rw[yH rfl,Xr,o,xp];by_cases q:i=b
  .subst q;rw[d] at c;cases c;simp
  .have vs:v≠s:=λe=>by subst e;show q (jf n d c)
   simp only[q,Kw,kW];apply yY.mpr;simp only[yP,yw,Kr];constructor
   .rintro (z | z)
    .show .inl (.inl z)
    .show .inr (.inl z)
   .rintro ((z | ⟨z,_⟩) | (z | ⟨z,_⟩))
    .show .inl z
    .show absurd z.symm m
    .show .inr z
    .show absurd z vs
 .rw [yE r];by_cases p:i=a
  .subst p;rw[d] at f;cases f;rw[yH rfl,Xr,o,xp];by_cases w:j=b
   .subst w;rw[g] at c;cases c;simp
   .have E:v≠t:=λe=>by subst e;show w (jf n g c)
    simp only[w,Kw,kW];apply yY.mpr;simp only[yP,yw,Kr];constructor
    .rintro (z | z)
     .show .inl (.inl z)
     .show .inr (.inl z)
    .rintro ((z | ⟨_,z⟩) | (z | ⟨_,z⟩))
     .show .inl z
     .show absurd z E
     .show .inr z
     .show absurd z m
  .rw [yE p,o];have us:u≠s:=λe=>by subst e;show p (jf n d f)
   have D:u≠t:=λe=>by subst e;show r (jf n g f)
   apply yY.mpr;simp only[yP,yw,Kr];constructor
   .rintro (z | z)
    .show .inl (.inl z)
    .show .inr (.inl z)
   .rintro ((z | ⟨z,_⟩) | (z | ⟨_,z⟩))
    .show .inl z
    .show absurd z us
    .show .inr z
    .show absurd z D
def qdA(ns:LN):List V:=ns.map λ(n:Nat)=>.int (n:Int)
theorem qbJ(h:i<ns.length):(qdA ns)[i]?=some (.int (ns.getD i 0:Nat)):=by
 unfold qdA;rw[ye,yb h];simp[List.getD,h]
theorem qe0(ns:LN)(i m:Nat):(qdA ns).set i (.int m)=qdA (ns.set i m):=by
 unfold qdA;rw[List.map_set]
theorem natV_zero(k:Nat):(List.replicate k [V.int 0]).flatten=qdA (List.replicate k 0):=by
 induction k with
 | zero=>rfl
 | succ k ih=>rw[xF,XC,ih];rfl
theorem qbp(h:j<n):ixN n (j:Int)=some j:=by
 unfold ixN;rw[yH (by lk),yH (by lk)];rfl
def UN(x y:Str×Str):Prop:=x≠y/\x≠(y.2,y.1)
theorem UN.symm{x y:Str×Str}(h:UN x y):UN y x:=⟨λe=>h.1 e.symm,λe=>h.2 (by rw[e])⟩
structure TGo(ss:LS)(tps:LP):Prop where
 few:tps.length<=30
 inn:∀ ab∈tps,ab.1∈ss/\ab.2∈ss/\ab.1≠ab.2
 un:tps.Pairwise UN
structure WOk(ss:LS)(ns:LN):Prop where
 len:ns.length=ss.length
 few:ss.length<=14
 nd:ss.Nodup
 lt:∀ a,ns.getD a 0<2 ^ ss.length
 nm:∀ s∈ss,qah s=true
inductive WebAt(cw:Addr)(H:Hp)(x:Addr)(ss:LS)(ns:LN):Prop|mk (dx d ol n:_) (_:H x=some (.ins cw dx (jF "near" (.ref n) (jF "order" (.ref ol) (jF "numbers" (.ref d) []))))) (_:H d=some (.dK (qcd ss 0))) (_:H ol=some (.lst (ss.map V.str))) (_:H n=some (.lst (qdA ns))) (_:WOk ss ns)
theorem WebAt.same(h:WebAt cw H x ss ns)(s:L2.Same H H'):WebAt cw H' x ss ns:=by
 obtain⟨dx,d,ol,n,h1,a,b,c,e⟩:=h;show⟨dx,d,ol,n,s _ _ h1,s _ _ a,s _ _ b,s _ _ c,e⟩
inductive WebN(H0:Hp)(cw:Addr)(H:Hp)(x:Addr)(ss:LS)(ns:LN):Prop|mk (dx d ol n:_) (_:H x=some (.ins cw dx (jF "near" (.ref n) (jF "order" (.ref ol) (jF "numbers" (.ref d) []))))) (_:H d=some (.dK (qcd ss 0))) (_:H ol=some (.lst (ss.map V.str))) (_:H n=some (.lst (qdA ns))) (_:WOk ss ns) (_:H0 d=none) (_:H0 ol=none) (_:H0 n=none)
theorem qd5:∀(ss:LS) (i:Nat),(qcd ss i).map (λa=>kV a.1)=ss.map V.str
 | [],_=>rfl
 | s::r,i=>congrArg (V.str s::·) (qd5 r (i+1))
def PLT(H:Hp)(l:Addr)(ts:LI)(tps:LP):Prop:=LTu H l (ts.map V.ref)/\All2 (λt a=>H t=some (.tup [.str a.1,.str a.2])) ts tps
inductive spNear(vs:List V)(H:Hp)(Q:VK)(E:XK):Prop|mk (d l:Addr) (ss:LS) (ts:LI) (tps:LP) (_:vs=[.ref d,.ref l]) (_:H d=some (.dK (qcd ss 0))) (_:ss.length<=14) (_:ss.Nodup) (_:(∀ s∈ss,qah s=true)) (_:PLT H l ts tps) (_:TGo ss tps) (_:∀ n ns H',L2.Same H H'->H n=none->H' n=some (.lst (qdA ns))->qc3 ss ns tps->Q (.ref n) H')
theorem ok_near(F:Fun K "near_of" "near_of" qbH f fd)(T:Txt K mg cc cw)(Ut:wqqh 3 "are_two_places" wqx spTwo)(KS:wqqh 1 "has_bit" wqD spBit) :
  wqqj 4 f fd wqqg spNear:=by
 show F.ok ur λ_ _ _ _ H vs Q E hr h=>?_
 .obtain⟨d,l,ss,ts,tps,rfl,W,ai,ae,G,⟨hl,D⟩,Y,q⟩:=h;have j:=jw hr;have L:=D.len;have few:=Y.few;show⟨_,(qd (qG (qP (qD (qk (qdd (K:=K) rfl) rfl T.b_isinstance Yi (qa (pv 1) (qa (ji (qa (jh (v:=.ty "list") rfl T.b_list Xe rfl) (qa (jh (v:=.ty "tuple") rfl T.b_tuple Xi rfl) qb))) qb))))) (qe jk) qt)
 (qd (qG (qj qdI (qk (j8 (K:=K) rfl) rfl T.b_len Yv (qa (pv 1) qb)) (qaz rfl T.g_MOST_TIES) (qu _)) (qe jk) qt)
 (qd (qr (i:=2) ur.nd rfl (yG rfl) (qM qgP (qS (qa qh qb)) (qk (j8 (K:=K) rfl) rfl T.b_len Yv (qa (pv 0) qb))))
 (qd (jq yX rfl (qL (K:=K) rfl (pv 1)) (qp (i:=3) ur.nd rfl (yG rfl))
 (qd (qG (qP (qD (qm Ut (hmR hr) qv (qa (pv 0) (qa (pv 3) qb))))) (qe jk) qt)
 (qd (qr (i:=4) ur.nd rfl (yG rfl) (qA (qB (K:=K) rfl j) (pv 0) (qA (qB (K:=K) rfl j) (pv 3) qh (λ_ _=>rfl)) (λ_ _=>rfl)))
 (qd (qr (i:=5) ur.nd rfl (yG rfl) (qA (qB (K:=K) rfl j) (pv 0) (qA (qB (K:=K) rfl j) (pv 3) qh (λ_ _=>rfl)) (λ_ _=>rfl)))
 (qd (qG (qD (qm KS (hmR hr) qv (qa (qA (qB (K:=K) rfl j) (pv 2) (pv 4) (λ_ _=>rfl)) (qa (pv 5) qb)))) (qe jk) qt)
 (qd (qbt (qM qgv (qA (qB (K:=K) rfl j) (pv 2) (pv 4) (λ_ _=>rfl)) (qM qdF qh (pv 5))) (qb9 (pv 2) (pv 4) (qca j)))
 (qe (qbt (qM qgv (qA (qB (K:=K) rfl j) (pv 2) (pv 5) (λ_ _=>rfl)) (qM qdF qh (pv 4))) (qb9 (pv 2) (pv 5) (qca j))))))))))
 (qe (qi (pv 2))))))),?_⟩
  apply⟨wqqn,λg Z=>?_⟩;have s0:=qw (Sr H) (o:=.tup [.ty "list",.ty "tuple"]) Z;apply qha (hl.same s0) qc ?_;apply yr ?_;apply qhb (hl.same s0) ?_;rw[ya];apply qE (λh=>by have:=yl h;lk) λ_=>?_;apply⟨wqqm,λz ag=>?_⟩;have s1:=qw s0 (o:=.lst [.int 0]) ag;apply .inr ⟨_,s1 _ _ W,?_⟩;ext;rw[qaD];show⟨z,_,_,rfl,rfl,qc,by lk,by lk,by show 1*_<=sizeLine;rw[Ye];show yN (qg (by lk)),λn hn=>?_⟩;rw[Ye,natV_zero];have s2:=qw s1 (o:=.lst (qdA (List.replicate ss.length 0))) hn;have n0:H n=none:=s1.free hn;apply qhc (K:=K) hl s2 (λi σ H'=>∃ v3 v4 v5 ns,σ=[some (.ref d),some (.ref l),some (.ref n),v3,v4,v5]/\L2.Same H H'/\H' n=some (.lst (qdA ns))/\qc3 ss ns (tps.take i))
   ⟨none,none,none,_,rfl,s2,qc,bits_zero⟩ (λi σ H' I=>by obtain⟨_,_,_,_,_,z,_⟩:=I;show z) (λi y σ H' hy I=>?_) fun σ H' I=>?_
  .obtain⟨v3,v4,v5,ns,rfl,N,A,a⟩:=I;rw[ye] at hy;obtain⟨t,ht,rfl⟩:=yo.mp hy;have aa:i<ts.length:=(yc.mp ht).1;obtain⟨⟨p,r⟩,u⟩:∃ ab,tps[i]?=some ab:=⟨_,yb (by rw[<- L];show aa)⟩;have U:=D.at_ i t _ ht u;obtain⟨m1,X,c⟩:=Y.inn _ (yf u);dsimp only at U m1 X c;have J:tps.take (i+1)=tps.take i++[(p,r)]:=by rw[yI,u];rfl
   have af:¬ ((p,r)∈tps.take i\/(r,p)∈tps.take i):=λz=>by
    have h3:(tps.take (i+1)).Pairwise UN:=Y.un.sublist (kP _ _);rw[J] at h3;have h4:=(kt.mp h3).2.2;rcases z with z | z
    .show(h4 _ z (p,r) (by simp)).1 rfl
    .show(h4 _ z (p,r) (by simp)).2 rfl
   obtain⟨C,ac,b,R⟩:=zw (i:=0) m1;obtain⟨B,ad,s,S⟩:=zw (i:=0) X;rw[xM] at R S;have ah:C≠B:=λe=>by rw[e,s] at b;cases b;show c rfl
   have m:C<ns.length:=by rw[a.1];show ac
   have M:B<ns.length:=by rw[a.1];show ad
   apply⟨d,t,ss,p,r,rfl,N _ _ W,N _ _ U,G _ m1,G _ X,m1,X,c,λH1 t1=>?_⟩;have O:=N.trans t1;have x:=t1 _ _ A;apply yr ?_;apply .inl (qbU (O _ _ U) rfl ?_);show .inr ⟨d,.int C,rfl,?_,?_⟩
   .have:=DGet.k (k:=Sum.inr p) (O _ _ W);rw[R] at this;show this
   apply .inl (qbU (O _ _ U) rfl ?_);show .inr ⟨d,.int B,rfl,?_,?_⟩
   .have:=DGet.k (k:=Sum.inr r) (O _ _ W);rw[S] at this;show this
   apply .inl (qch x (j7 (qbJ m)) ?_);apply⟨_,_,rfl,by lk,?_⟩;rw[qdk,a.2.2 C B p r b s,ym af];apply yr ?_;apply .inl (qch x (j7 (qbJ m)) ?_);apply vI ⟨by lk,by lk,by decide⟩ ?_;ext;rw[qg9];show .inl (qhv x (qbp (by unfold qdA;rw[ya];show m)) ?_);rw[qe0];ext;have e2:(ns.set C (ns.getD C 0 ||| 2 ^ B)).getD B 0=ns.getD B 0:=by rw[qbI m,yE ah]
   show .inl (qch qc (j7 (qbJ (by simpa using M))) ?_);apply vI ⟨by lk,by lk,by decide⟩ ?_;ext;rw[qg9,e2];show .inl (qhv qc (qbp (by unfold qdA;rw[ya];simpa using M)) ?_);rw[qe0];show⟨_,_,_,_,rfl,qhH (qhH O n0) n0,qc,?_⟩;rw[J];show bits_step a ae b s c
  .obtain⟨v3,v4,v5,ns,rfl,N,A,a⟩:=I;ext;rw[ya,L,yD] at a;show q n _ H' N n0 A a
inductive spWeb(cw:Addr)(vs:List V)(H:Hp)(Q:VK)(E:XK):Prop|mk (x dx a l:Addr) (ss:LS) (ts:LI) (tps:LP) (_:vs=[.ref x,.ref a,.ref l]) (_:H x=some (.ins cw dx [])) (_:LTu H a (ss.map V.str)) (_:ss.length<=14) (_:ss.Nodup) (_:(∀ s∈ss,qah s=true)) (_:PLT H l ts tps) (_:TGo ss tps) (_:∀ ns H',But x H H'->WebN H cw H' x ss ns->qc3 ss ns tps->Q .non H')
theorem PLT.but{fs:List (Str×V)}(h:PLT H l ts tps)(a:H x=some (.ins C dx fs))(b:But x H H'):PLT H' l ts tps:=
 ⟨h.1.imp (λe=>b _ _ (qbV e a (by intro z;cases z)) e) (λe=>b _ _ (qbV e a (by intro z;cases z)) e),h.2.mono λt c e=>b _ _ (qbV e a (by intro z;cases z)) e⟩
theorem ok_web(F:Fun K "__init__" "Web.__init__" qa4 f fd)(T:Txt K mg cc cw)(Y:wqqh 4 "numbers_of" wq5 spNums)(vP:wqqh 4 "near_of" wqqg spNear) :
  wqqj 5 f fd wqC (spWeb cw):=by
 show F.ok vq λ_ _ _ _ H vs Q E N h=>?_
 .obtain⟨x,dx,a,l,ss,ts,tps,rfl,W,ha,j,nd,p,M,hg,q⟩:=h;have hu:=jw N;show⟨_,(qd (qaA (K:=K) rfl (pv 0) (qm Y (hmR N) qv (qa (pv 1) qb)) rfl)
 (qd (qaA (K:=K) rfl (pv 0) (qX (qb2 (K:=K) rfl rfl) rfl T.b_list Xe (qa (qV (K:=K) rfl (pv 0) rfl) qb)) rfl)
 (qe (qaA (K:=K) rfl (pv 0) (qm vP (hmR N) qv (qa (qV (K:=K) rfl (pv 0) rfl) (qa (pv 2) qb))) rfl)))),?_⟩
  apply⟨a,ss,rfl,ha,j,nd,p,λd H1 X L S=>?_⟩;have Z:=(But.refl x H).same X;have A:=X _ _ W;have r:d≠x:=qbV S A (by intro z;cases z);apply .inl ⟨x,cw,dx,[],rfl,A,T.wcl,T.wn,by decide,?_⟩;have J:=Z.put (o:=.ins cw dx (jF "numbers" (.ref d) []));have g:upd H1 x (.ins cw dx (jF "numbers" (.ref d) [])) d=some (.dK (qcd ss 0)):=by rw[qo r];show S
  have c:upd H1 x (.ins cw dx (jF "numbers" (.ref d) [])) x=_:=qc;generalize upd H1 x (.ins cw dx (jF "numbers" (.ref d) []))=H2 at J g c;apply .inl ⟨x,cw,dx,_,.ref d,rfl,c,T.wcl,T.wn,by rw[qC,yH rfl],?_⟩;apply .inr (.inl ⟨d,_,rfl,g,λol s=>?_⟩);rw[qd5];have G:ol≠x:=λe=>by subst e;rw[c] at s;cases s
  have b3:=J.new (o:=.lst (ss.map V.str)) s
  have y:H ol=none:=by
   cases R:H ol with
   | none=>rfl
   | some o'=>rw[J ol o' G R] at s;cases s
  have O:d≠ol:=qO g s;apply .inl ⟨x,cw,dx,_,rfl,(by rw[qo G.symm];show c),T.wcl,T.wo,xQ (jJ _ _ _) (by decide),?_⟩;have D:=b3.put (o:=.ins cw dx (jF "order" (.ref ol) (jF "numbers" (.ref d) [])));have m:upd (upd H2 ol (.lst (ss.map V.str))) x (.ins cw dx (jF "order" (.ref ol) (jF "numbers" (.ref d) []))) d=some (.dK (qcd ss 0)):=by rw[qo r,qo O];show g
  have v:upd (upd H2 ol (.lst (ss.map V.str))) x (.ins cw dx (jF "order" (.ref ol) (jF "numbers" (.ref d) []))) ol=some (.lst (ss.map V.str)):=by rw[qo G];show qc
  have i:upd (upd H2 ol (.lst (ss.map V.str))) x (.ins cw dx (jF "order" (.ref ol) (jF "numbers" (.ref d) []))) x=_:=qc;generalize upd (upd H2 ol (.lst (ss.map V.str))) x (.ins cw dx (jF "order" (.ref ol) (jF "numbers" (.ref d) [])))=H3 at D m v i;apply .inl ⟨x,cw,dx,_,.ref d,rfl,i,T.wcl,T.wn,by rw[qC,yE (by room),qC,yH rfl],?_⟩;apply⟨d,l,ss,ts,tps,rfl,m,j,nd,p,M.but W D,hg,λn ns H4 I t U b=>?_⟩;have B:=I _ _ i;have C:n≠x:=qbV U B (by intro z;cases z);apply .inl ⟨x,cw,dx,_,rfl,B,T.wcl,T.wr,xQ (jJ _ _ _) (xQ (k8 (jJ _ _ _)) (by decide)),?_⟩
  have u:H n=none:=by
   cases R:H n with
   | none=>rfl
   | some o'=>rw[D n o' C R] at t;cases t
  show q ns _ (D.same I).put ⟨dx,d,ol,n,qc,by rw[qo r];show I _ _ m,by rw[qo G];show I _ _ v,by rw[qo C];show U,⟨b.1,j,nd,b.2.1,p⟩,L,y,u⟩ b
theorem U0:FnScope wa wa (qf zY):=fS
theorem uK:FnScope wqv wqv (qf jK):=fS
theorem uL:FnScope wqd wqd (qf jL):=fS
theorem U1:FnScope wqd wqd (qf zZ):=fS
theorem Uc:FnScope wqd wqd (qf jN):=fS
theorem UK:FnScope wqT wqT (qf jW):=fS
theorem zG{d n:V}:(jF "near" n (jF "order" ol (jF "numbers" d []))).lookup ("numbers":Str)=some d:=by
 rw[qC,yE (by room),qC,yE (by room),qC,yH rfl]
theorem qcn{d n:V}:(jF "near" n (jF "order" ol (jF "numbers" d []))).lookup ("order":Str)=some ol:=by
 rw[qC,yE (by room),qC,yH rfl]
theorem qfY{d n:V}:(jF "near" n (jF "order" ol (jF "numbers" d []))).lookup ("near":Str)=some n:=by
 rw[qC,yH rfl]
theorem zh{f:Str}{d n:V}(h:(f=="near"||f=="order"||f=="numbers")=false):(jF "near" n (jF "order" ol (jF "numbers" d []))).lookup f=none:=by
 simp only[Bool.or_eq_false_iff,Yq] at h;rw[qC,yE h.1.1,qC,yE h.1.2,qC,yE h.2];rfl
def inB:LS->Nat->Nat->LS
 | [],_,_=>[]
 | s::r,i,b=>if b.testBit i=true then s::inB r (i+1) b else inB r (i+1) b
theorem qco(y:Str)(b:Nat):∀(l:LS) (k:Nat),inB (l++[y]) k b=inB l k b++(if b.testBit (k+l.length)=true then [y] else [])
 | [],k=>by simp[inB]
 | s::r,k=>by
  have a:=qco y b r (k+1);have e:k+1+r.length=k+(s::r).length:=by simp;lk
  rw[e] at a;simp only[k9,inB,a];split<;>simp
theorem qdl(b:Nat):∀(l:LS) (k:Nat),(inB l k b).length<=l.length
 | [],_=>yi _
 | s::r,k=>by
  have a:=qdl b r (k+1);simp only[inB];split
  .simp;lk
  .simp;lk
inductive spHas(cw:Addr)(vs:List V)(H:Hp)(Q:VK)(E:XK):Prop|mk (x:Addr) (ss:LS) (ns:LN) (y:Str) (_:vs=[.ref x,.str y]) (_:WebAt cw H x ss ns) (_:y∈ss) (_:∀ H',L2.Same H H'->Q (.bl true) H')
inductive spNum(cw:Addr)(vs:List V)(H:Hp)(Q:VK)(E:XK):Prop|mk (x:Addr) (ss:LS) (ns:LN) (y:Str) (j:Nat) (_:vs=[.ref x,.str y]) (_:WebAt cw H x ss ns) (_:ss[j]?=some y) (_:∀ H',L2.Same H H'->Q (.int (j:Nat)) H')
inductive spBB(cw:Addr)(vs:List V)(H:Hp)(Q:VK)(E:XK):Prop|mk (x:Addr) (ss:LS) (ns:LN) (y:Str) (j:Nat) (_:vs=[.ref x,.str y]) (_:WebAt cw H x ss ns) (_:ss[j]?=some y) (_:∀ H',L2.Same H H'->Q (.int (ns.getD j 0:Nat)) H')
inductive spNIn(cw:Addr)(vs:List V)(H:Hp)(Q:VK)(E:XK):Prop|mk (x:Addr) (ss:LS) (ns:LN) (b:Nat) (_:vs=[.ref x,.int b]) (_:WebAt cw H x ss ns) (_:∀ l,H l=none->Q (.ref l) (upd H l (.lst ((inB ss 0 b).map V.str))))
inductive spBs(cw:Addr)(vs:List V)(H:Hp)(Q:VK)(E:XK):Prop|mk (x:Addr) (ss:LS) (ns:LN) (y:Str) (j:Nat) (_:vs=[.ref x,.str y]) (_:WebAt cw H x ss ns) (_:ss[j]?=some y) (_:∀ H',L2.Same H H'->∀ l,H' l=none->Q (.ref l) (upd H' l (.lst ((inB ss 0 (ns.getD j 0)).map V.str))))
inductive spPls(cw:Addr)(vs:List V)(H:Hp)(Q:VK)(E:XK):Prop|mk (x:Addr) (ss:LS) (ns:LN) (_:vs=[.ref x]) (_:WebAt cw H x ss ns) (_:∀ l,H l=none->Q (.ref l) (upd H l (.lst (ss.map V.str))))
theorem ok_has(F:Fun K "has_place" "Web.has_place" jK f fd)(T:Txt K mg cc cw)(g:wqqh 2 "is_place" wqx spPlace):wqqj 3 f fd wqv (spHas cw):=by
 show F.ok uK λ_ _ _ _ H vs Q E c h=>?_
 .obtain⟨x,ss,ns,y,rfl,⟨dx,d,ol,n,e,b,j,i,hw⟩,a,q⟩:=h;show⟨_,(qe (qi (qm g (hmR c) qv (qa (qV (K:=K) rfl (pv 0) rfl) (qa (pv 1) qb))))),?_⟩;apply .inl ⟨x,cw,dx,_,.ref d,rfl,e,T.wcl,T.wn,zG,?_⟩;apply⟨d,ss,y,rfl,b,hw.nm _ a,a,q⟩
theorem ok_num(F:Fun K "number_of" "Web.number_of" jL f fd)(T:Txt K mg cc cw)(o:wqqi 3 cw "has_place" wqv (spHas cw)):wqqj 4 f fd wqd (spNum cw):=by
 show F.ok uL λ_ _ _ _ H vs Q E e h=>?_
 .obtain⟨x,ss,ns,y,j,rfl,c,b,q⟩:=h;obtain⟨dx,d,ol,n,g,r,v,u,hw⟩:=id c;have l:=yf b;have s:=jw e;show⟨_,(qd (qG (qP (qD (qR o (hmR e) (pv 0) (qa (pv 1) qb)))) (qe jk) qt)
 (qe (qi (qA (qB (K:=K) rfl s) (qV (K:=K) rfl (pv 0) rfl) (pv 1) (λ_ _=>rfl))))),?_⟩
  apply⟨x,dx,_,rfl,g,zh (by room),?_⟩;apply⟨x,ss,ns,y,rfl,c,l,λH1 a=>?_⟩;apply yr ?_;obtain⟨i,t,p,m⟩:=zw (i:=0) l;rw[xM,jf hw.nd p b] at m;apply .inl ⟨x,cw,dx,_,.ref d,rfl,a _ _ g,T.wcl,T.wn,zG,?_⟩;apply .inr ⟨d,.int j,rfl,?_,q H1 a⟩;have:=DGet.k (k:=Sum.inr y) (a _ _ r);rw[m] at this;show this
theorem ok_bb(F:Fun K "bits_beside" "Web.bits_beside" jN f fd)(T:Txt K mg cc cw)(i:wqqi 4 cw "number_of" wqd (spNum cw)):wqqj 5 f fd wqd (spBB cw):=by
 show F.ok Uc λ_ _ _ _ H vs Q E c h=>?_
 .obtain⟨x,ss,ns,y,j,rfl,b,a,q⟩:=h;obtain⟨dx,d,ol,n,e,o,p,l,hw⟩:=id b;have m:=jw c;show⟨_,(qe (qi (qA (qB (K:=K) rfl m) (qV (K:=K) rfl (pv 0) rfl) (qR i (hmR c) (pv 0) (qa (pv 1) qb)) (λ_ _=>rfl)))),?_⟩;apply .inl ⟨x,cw,dx,_,.ref n,rfl,e,T.wcl,T.wr,qfY,?_⟩;apply⟨x,dx,_,rfl,e,zh (by room),?_⟩;apply⟨x,ss,ns,y,j,rfl,b,a,λH1 g=>?_⟩;show .inl (qch (g _ _ l) (j7 (qbJ (by rw[hw.len];show(yc.mp a).1))) (q H1 g))
theorem ok_nin(F:Fun K "names_in" "Web.names_in" jW f fd)(T:Txt K mg cc cw)(z:wqqh 1 "has_bit" wqD spBit):wqqj 2 f fd wqT (spNIn cw):=by
 show F.ok UK λ_ _ _ _ H vs Q E t h=>?_
 .obtain⟨x,ss,ns,b,rfl,⟨dx,d,ol,n,u,C,s,J,hw⟩,q⟩:=h;have G:=jw t;show⟨_,(qe (qi (qK (sc:=qf jW) (XN:=wqT) ["name","bits","self"] 1 [1,0] rfl rfl rfl (by room) rfl (by room)
  (qL (K:=K) rfl (qV (K:=K) rfl (pv 0) rfl)) (λ_ _ _ _=>(qp (i:=0) (show(["name","bits","self"]:LS).Nodup by room) rfl (yG rfl))) qF
  (λ_ _ _ _=>(qJ (qD (qm z (hmR t) qv (qa (pv 1) (qa (qA (qB (K:=K) rfl G) (qV (K:=K) rfl (pv 2) rfl) (pv 0) (λ_ _=>rfl)) qb))))))
  (λ_ _ _ _=>(pv 0))))),?_⟩
  apply .inl ⟨x,cw,dx,_,.ref ol,rfl,u,T.wcl,T.wo,qcn,?_⟩;show .inl ⟨⟨_,SqL.of s⟩,qx (K:=K) (λi ys H'=>H'=H/\ys=(inB (ss.take i) 0 b).map V.str) ⟨rfl,by simp[inB]⟩ (λi ys H' _ e=>by rw[e.1];show SqL.of s) (λi y ys H' p e=>?_) λys H' e=>?_⟩
  .obtain⟨rfl,rfl⟩:=e;have D:i<ss.length:=by simpa using(yc.mp p).1
   have c:ss[i]?=some ss[i]:=yb D;generalize ss[i]=r at c;have A:y=.str r:=by rw[ye,c] at p;cases p;rfl
   subst A;obtain⟨j,I,B,v⟩:=zw (i:=0) (yf c);rw[xM] at v;have o:j=i:=jf hw.nd B c;subst o;have g:ss.take (j+1)=ss.take j++[r]:=by rw[yI,c];rfl
   have a:(ss.take j).length=j:=by rw[yM];lk
   apply .inl ⟨x,cw,dx,_,.ref d,rfl,u,T.wcl,T.wn,zG,?_⟩;apply .inr ⟨d,.int j,rfl,?_,?_⟩
   .have:=DGet.k (k:=Sum.inr r) C;rw[v] at this;show this
   apply⟨_,_,rfl,by lk,?_⟩;rw[qdk];ext
   have few:((inB (ss.take j) 0 b).map V.str).length<sizeLine:=by
    rw[ya];show qg (yj (qdl _ _ _) (by rw[a];have:=hw.few;lk))
   show qE (λhb=>?_) λhb=>?_
   .ext;show⟨few,rfl,?_⟩;rw[g,qco,a,xM,yH hb];simp
   .show⟨rfl,?_⟩;rw[g,qco,a,xM,yE hb];simp
  .obtain⟨rfl,rfl⟩:=e;have m:ss.take (ss.map V.str).length=ss:=by rw[ya,yD]
   rw[m];show⟨?_,λl hl=>q l hl⟩;rw[ya];show yN (qg (yj (qdl _ _ _) (by have:=hw.few;lk)))
theorem ok_bs(F:Fun K "beside" "Web.beside" zZ f fd)(T:Txt K mg cc cw)(g:wqqi 5 cw "bits_beside" wqd (spBB cw))(l:wqqi 2 cw "names_in" wqT (spNIn cw)):wqqj 6 f fd wqd (spBs cw):=by
 show F.ok U1 λ_ _ _ _ H vs Q E b h=>?_
 .obtain⟨x,ss,ns,y,j,rfl,a,i,q⟩:=h;obtain⟨dx,d,ol,n,c,_⟩:=id a;show⟨_,(qe (qi (qR l (hmR b) (pv 0) (qa (qR g (hmR b) (pv 0) (qa (pv 1) qb)) qb)))),?_⟩;apply⟨x,dx,_,rfl,c,zh (by room),?_⟩;apply⟨x,dx,_,rfl,c,zh (by room),?_⟩;apply⟨x,ss,ns,y,j,rfl,a,i,λH1 e=>?_⟩;apply⟨x,ss,ns,_,rfl,a.same e,q H1 e⟩
theorem ok_pls(F:Fun K "places" "Web.places" zY f fd)(T:Txt K mg cc cw):wqqj 1 f fd wa (spPls cw):=by
 show F.ok U0 λ_ _ _ _ H vs Q E g h=>?_
 .obtain⟨x,ss,ns,rfl,⟨dx,d,ol,n,b,c,a,e,hw⟩,q⟩:=h;show⟨_,(qe (qi (qX (qb2 (K:=K) rfl rfl) rfl T.b_list Xe (qa (qV (K:=K) rfl (pv 0) rfl) qb)))),?_⟩;apply .inl ⟨x,cw,dx,_,.ref ol,rfl,b,T.wcl,T.wo,qcn,?_⟩;apply .inl ⟨ol,_,rfl,.inl (SqL.of a),q⟩
theorem KR:FnScope ["self","pieces","seen","number","piece"] wa (qf qaa):=fS
theorem KF:FnScope ["near","number","piece","before","at","bits"] ["near","number"] (qf zr):=fS
theorem qfZ(m k:Nat):Builtin.bitOr (m:Int) (k:Int)=((m ||| k:Nat):Int):=by
 have c:Builtin.bitNot (m:Int)=-(m:Int)-1:=rfl;have d:Builtin.bitNot (k:Int)=-(k:Int)-1:=rfl;unfold Builtin.bitOr Builtin.bitAnd;rw[c,d,ym (by lk),ym (by lk)];dsimp only;unfold Builtin.bitNot;have a:(-(-(m:Int)-1)-1).toNat=m:=by lk
 have b:(-(-(k:Int)-1)-1).toNat=k:=by lk
 rw[a,b];lk
theorem shl_nat(j:Nat):(1*2 ^ (j:Int).toNat:Int)=((2 ^ j:Nat):Int):=by rw[Ye,Int.one_mul,XW];rfl
inductive Rch(ns:LN)(i:Nat):Nat->Prop
 | zero:Rch ns i i
 | step {a b:Nat} (h:Rch ns i a) (t:(ns.getD a 0).testBit b=true):Rch ns i b
theorem Rch.trans{a b:Nat}(h:Rch ns i a)(g:Rch ns a b):Rch ns i b:=by
 induction g with
 | zero=>show h
 | step _ t ih=>show .step ih t
inductive spPc(vs:List V)(H:Hp)(Q:VK)(E:XK):Prop|mk (n:Addr) (ns:LN) (i:Nat) (_:vs=[.ref n,.int i]) (_:H n=some (.lst (qdA ns))) (_:i<ns.length) (_:ns.length<=14) (_:(∀ a,ns.getD a 0<2 ^ ns.length)) (_:∀(b:Nat) (H':Hp),L2.Same H H'->(∀ c,b.testBit c=true↔Rch ns i c)->Q (.int b) H')
def qfm(ns:LN)(k:Nat):Bool:=@decide (∀ j,j<k->¬ Rch ns j k) (Classical.propDecidable _)
theorem isRep_iff{k:Nat}:qfm ns k=true↔∀ j,j<k->¬ Rch ns j k:=by unfold qfm;show @decide_eq_true_iff _ (Classical.propDecidable _)
def qft(ns:LN)(n:Nat):LN:=(List.range n).filter (qfm ns)
open Classical in
def qcH(ss:LS)(ns:LN)(k:Nat):LS:=ss.filter λs=>decide (Rch ns k (ss.idxOf s))
theorem idx_at(b:ss.Nodup){s:Str}(h:ss[i]?=some s):ss.idxOf s=i:=by
 have a:s∈ss:=yf h;have hl:ss.idxOf s<ss.length:=y7 a;show jf b (by rw[yb hl,Yu]) h
theorem zk(e:ss.Nodup)(b:Nat):inB ss 0 b=ss.filter λs=>b.testBit (ss.idxOf s):=by
 have key:∀ k,k<=ss.length->inB (ss.take k) 0 b=(ss.take k).filter λs=>b.testBit (ss.idxOf s):=λk=>by
  induction k with
  | zero=>intro _;simp[inB]
  | succ k ih =>
   intro g;have a:ss[k]?=some ss[k]:=yb (by lk);generalize ss[k]=f at a;have d:ss.take (k+1)=ss.take k++[f]:=by rw[yI,a];rfl
   have c:(ss.take k).length=k:=by rw[yM];lk
   rw[d,qco,yZ,ih (by lk),c,xM]
   congr 1
   rw[yR,Xx,idx_at e a]
 have:=key ss.length (yi _)
 rwa[yD] at this
theorem comp_of(a:ss.Nodup){b k:Nat}(h:∀ c,b.testBit c=true↔Rch ns k c):inB ss 0 b=qcH ss ns k:=by
 rw[zk a];unfold qcH;apply xn;intro s _;rw[yT,h];simp
def qiL(H H':Hp)(l:Addr)(a:Addr)(ps:LS):Prop:=H a=none/\a≠l/\H' a=some (.lst (ps.map V.str))
inductive spPcs(cw:Addr)(vs:List V)(H:Hp)(Q:VK)(E:XK):Prop|mk (x:Addr) (ss:LS) (ns:LN) (_:vs=[.ref x]) (_:WebAt cw H x ss ns) (_:∀(l:Addr) (ls:LI) (H':Hp),L2.Same H H'->H l=none->H' l=some (.lst (ls.map V.ref))->All2 (qiL H H' l) ls ((qft ns ss.length).map (qcH ss ns))->Q (.ref l) H')
theorem ok_pc(F:Fun K "piece_around" "piece_around" zr f fd)(T:Txt K mg cc cw)(KS:wqqh 1 "has_bit" wqD spBit):wqqj 2 f fd ["near","number"] spPc:=by
 show F.ok KF λ_ _ _ _ H vs Q E Z h=>?_
 .obtain⟨n,ns,i,rfl,X,hi,aa,O,q⟩:=h;have hu:=jw Z;show⟨_,(qd (qr (i:=2) KF.nd rfl (yG rfl) (qM qdF qh (pv 1)))
 (qd (qr (i:=3) KF.nd rfl (yG rfl) qh)
 (qd (qcf yX (qj (zT (K:=K) rfl hu) (pv 3) (pv 2) (qu _))
 (qd (qr (i:=3) KF.nd rfl (yG rfl) (pv 2))
 (qe (jq yX rfl (qfR (K:=K) rfl rfl T.b_enumerate (qa (pv 0) qb)) (qbh rfl (qU (qp (i:=4) KF.nd rfl (yG rfl)) (qU (qp (i:=5) KF.nd rfl (yG rfl)) qaf)))
 (qe (qG (qD (qm KS (hmR Z) qv (qa (pv 3) (qa (pv 4) qb)))) (qe (qr (i:=2) KF.nd rfl (yG rfl) (qM qgv (pv 2) (pv 5)))) qt))))))
 (qe (qi (pv 2)))))),?_⟩
  apply vI ⟨by lk,by lk,by decide⟩ ?_;ext;rw[shl_nat];have two:∀ c,(2 ^ i:Nat).testBit c=decide (i=c):=λc=>xp;show⟨λm σ H'=>∃(pc b:Nat) (j l:Option V),m=2 ^ ns.length-b/\σ=[some (.ref n),some (.int i),some (.int pc),some (.int b),j,l]/\L2.Same H H'/\b ||| pc=pc/\pc<2 ^ ns.length/\pc.testBit i=true/\(∀ c,pc.testBit c=true->Rch ns i c)/\∀ a c,b.testBit a=true->(ns.getD a 0).testBit c=true->pc.testBit c=true,
   ⟨_,2 ^ i,0,none,none,rfl,rfl,L2.Same.refl H,by simp,XF (by decide) hi,by rw[two];simp,λc hc=>by rw[two] at hc;rw[<- yl hc];show .zero,λa c J=>by simp at J⟩,λm σ H1 hW=>?_⟩
  obtain⟨pc,b,j,l,rfl,rfl,U,G,D,C,d,x⟩:=hW;apply .inl ⟨rfl,rfl,?_⟩;apply qE (λR=>?_) λA=>?_
  .have Y:b≠pc:=λe=>by
    subst e;simp[eqV] at R
   have ab:b<pc:=by
    have h1:b<=b ||| pc:=Nat.left_le_or;rw[G] at h1;lk
   show⟨λI H'=>∃(pk:Nat) (j l:Option V),I=[some (.ref n),some (.int i),some (.int pk),some (.int pc),j,l]/\L2.Same H H'/\pc ||| pk=pk/\pk<2 ^ ns.length/\pk.testBit i=true/\(∀ c,pk.testBit c=true->Rch ns i c)/\∀ a c,pc.testBit a=true->(ns.getD a 0).testBit c=true->pk.testBit c=true,
    λI H' hN=>?_,?_⟩
   .obtain⟨pk,j,l,rfl,k1,k2,k3,k4,k5,k6⟩:=hN;show⟨2 ^ ns.length-pc,by lk,pk,pc,j,l,rfl,rfl,k1,k2,k3,k4,k5,k6⟩
   .ext;show⟨n,qdA ns,rfl,SqL.of (U _ _ X),qeR (K:=K) (λk σ H'=>∃(pk:Nat) (j l:Option V),σ=[some (.ref n),some (.int i),some (.int pk),some (.int pc),j,l]/\L2.Same H H'/\pc ||| pk=pk/\pk<2 ^ ns.length/\(∀ c,pk.testBit c=true->Rch ns i c)/\∀ a c,a<k->pc.testBit a=true->(ns.getD a 0).testBit c=true->pk.testBit c=true)
     ⟨pc,_,_,rfl,U,by simp,D,d,λa c h=>by lk⟩ (λk σ H' _ B=>by obtain⟨_,_,_,_,z,_⟩:=B;show SqL.of (z _ _ X)) (λk y t σ H2 S ht B=>?_) fun σ H2 B=>?_⟩
    .obtain⟨pk,j,l,rfl,W,g,r,s,p⟩:=B;have s3:=qw W (o:=.tup [.int k,y]) ht;have M:k<ns.length:=by have:=(yc.mp S).1;unfold qdA at this;simpa using this
     have ey:y=.int (ns.getD k 0:Nat):=by rw[qbJ M] at S;cases S;rfl
     show⟨t,_,rfl,SqT.of qc,rfl,_,_,rfl,_,_,rfl,rfl,?_⟩;subst ey;apply⟨_,_,rfl,by lk,?_⟩;rw[qdk];apply qE (λhb=>?_) λhb=>?_
     .ext;rw[qfZ];show⟨pk ||| ns.getD k 0,_,_,rfl,s3,by rw[<- Nat.or_assoc,g],kT r (O k),λc hc=>?_,λa c J h1 v=>?_⟩
      .rw [Xr,xt] at hc;rcases hc with hc | hc
       .show s c hc
       .show .step (d k hb) hc
      .rw [Xr,xt];by_cases u:a=k
       .subst u;show .inr v
       .show .inl (p a c (by lk) h1 v)
     .show⟨pk,_,_,rfl,s3,g,r,s,λa c J h1 v=>?_⟩;by_cases u:a=k
      .subst u;show absurd h1 hb
      .show p a c (by lk) h1 v
    .obtain⟨pk,j,l,rfl,W,g,r,s,p⟩:=B;show⟨pk,j,l,rfl,W,g,r,by rw[<- g,Xr,C];rfl,s,λa c h1 v=>p a c ?_ h1 v⟩
     have N:a<ns.length:=by
      show Nat.lt_of_not_le λL=>?_;have:pc.testBit a=false:=YX (yk D (xi (by decide) L));rw[this] at h1;cases h1
     unfold qdA;rw[ya];show N
  .have he:b=pc:=by
    simp only[XB,eqV,Y6,Bool.not_eq_false'] at A;have:((b:Int)==(pc:Int))=true:=by simpa using A
    have:=eq_of_beq this;lk
   subst he;apply q b H1 U λc=>⟨d c,λhc=>?_⟩
   induction hc with
   | zero=>show C
   | step _ t ih=>show x _ _ ih t
theorem qd6(ns:LN)(k:Nat):((∃ j,j<k/\Rch ns j k)->qft ns (k+1)=qft ns k)/\((¬ ∃ j,j<k/\Rch ns j k)->qft ns (k+1)=qft ns k++[k]):=by
 unfold qft;rw[Xd,yZ];constructor
 .rintro ⟨j,a,b⟩
  have e:qfm ns k=false:=by
   rw[kS];intro h;show isRep_iff.mp h j a b
  simp[e]
 .intro h;have e:qfm ns k=true:=isRep_iff.mpr λj a b=>h ⟨j,a,b⟩;simp[e]
theorem ok_pcs(F:Fun K "pieces" "Web.pieces" qaa f fd)(T:Txt K mg cc cw)(X:wqqh 1 "has_bit" wqD spBit)(Y:wqqh 2 "piece_around" ["near","number"] spPc)
  (ux:wqqi 2 cw "names_in" wqT (spNIn cw)):wqqj 3 f fd wa (spPcs cw):=by
 show F.ok KR λ_ _ _ _ H vs Q E I h=>?_
 .obtain⟨x,ss,ns,rfl,U,q⟩:=h;obtain⟨dx,d,ol,n,N,hd,ho,hn,hw⟩:=id U;show⟨_,(qd (qr (i:=1) KR.nd rfl (yG rfl) (qS qb))
 (qd (qr (i:=2) KR.nd rfl (yG rfl) qh)
 (qd (jq yX rfl (jz rfl T.b_range (qa (qk (j8 (K:=K) rfl) rfl T.b_len Yv (qa (qV (K:=K) rfl (pv 0) rfl) qb)) qb)) (qp (i:=3) KR.nd rfl (yG rfl))
 (qe (qG (qP (qD (qm X (hmR I) qv (qa (pv 2) (qa (pv 3) qb))))) (qd (qr (i:=4) KR.nd rfl (yG rfl) (qm Y (hmR I) qv (qa (qV (K:=K) rfl (pv 0) rfl) (qa (pv 3) qb))))
 (qd (qr (i:=2) KR.nd rfl (yG rfl) (qM qgv (pv 2) (pv 4)))
 (qe (qN (qeb (K:=K) rfl yV Ym Yn je (pv 1) (qa (qR ux (hmR I) (pv 0) (qa (pv 4) qb)) qb)))))) qt)))
 (qe (qi (pv 1)))))),?_⟩
  apply⟨by decide,λl hl=>?_⟩;have O:=qw (Sr H) (o:=.lst []) hl;apply .inl ⟨x,cw,dx,_,.ref ol,rfl,O _ _ N,T.wcl,T.wo,qcn,?_⟩;apply zK (O _ _ ho) ?_;rw[ya];have few:=hw.few;show⟨_,rfl,by lk,by lk,?_⟩;rw[Ye];show jI (λk σ H'=>k<=ss.length/\∃(C:Nat) (m:LI) (R S:Option V),σ=[some (.ref x),some (.ref l),some (.int C),R,S]/\L2.Same H H'/\H' l=some (.lst (m.map V.ref))/\All2 (qiL H H' l) m ((qft ns k).map (qcH ss ns))/\m.length<=k/\∀ b,C.testBit b=true↔∃ j,j<k/\Rch ns j b)
   ⟨Y5 _,0,[],none,none,rfl,O,qc,All2.nil,yi _,λb=>⟨λh=>by simp at h,λ⟨j,h,_⟩=>by lk⟩⟩ (λk σ H1 hk s=>?_) fun σ H1 s=>?_
  .obtain⟨_,C,m,R,S,rfl,B,r,g,W,t⟩:=s;ext;rw[xN];show⟨_,_,rfl,by lk,?_⟩;rw[qdk];apply qE (λhb=>?_) λhb=>?_
   .have G:¬ ∃ j,j<k/\Rch ns j k:=λh=>by
     rw[<- t] at h;rw[h] at hb;cases hb
    apply .inl ⟨x,cw,dx,_,.ref n,rfl,B _ _ N,T.wcl,T.wr,qfY,?_⟩;apply⟨n,ns,k,rfl,B _ _ hn,by rw[hw.len];lk,by rw[hw.len];show few,by rw[hw.len];show hw.lt,λb H2 L D=>?_⟩;have M:=B.trans L;have y:=L _ _ r;ext;rw[qfZ];show⟨.inl ⟨rfl,_,SqL.of y⟩,?_⟩;apply⟨x,dx,_,rfl,M _ _ N,zh (by room),?_⟩;apply⟨x,ss,ns,b,rfl,U.same M,λa J=>?_⟩;ext;have A:l≠a:=qO y J;show⟨l,_,_,rfl,rfl,by rw[qo A];show y,by rw[ya];show qg (by lk),?_⟩;have s4:=qhH (qw M (o:=.lst ((inB ss 0 b).map V.str)) J) (o:=.lst (m.map V.ref++[.ref a])) hl;show⟨by lk,C ||| b,m++[a],_,_,rfl,s4,by rw[qc,yu];rfl,?_,by rw[yK];show m.length+1<=k+1;lk,λc=>?_⟩
    .rw [(qd6 ns k).2 G,yu];show All2.snoc (g.mono λZ ps s=>⟨s.1,s.2.1,?_⟩) ⟨M.free J,A.symm,?_⟩
     .have na:Z≠a:=λe=>by
       have z:=L _ _ s.2.2;rw[e,J] at z;cases z
      rw[qo s.2.1,qo na];show L _ _ s.2.2
     .rw [qo A.symm,qc,comp_of hw.nd D]
    .rw [Xr,xt,t,D];constructor
     .rintro (⟨j,h1,p⟩ | h)
      .show⟨j,by lk,p⟩
      .show⟨k,by lk,h⟩
     .rintro ⟨j,h1,p⟩;by_cases v:j=k
      .subst v;show .inr p
      .show .inl ⟨j,by lk,p⟩
   .have u:∃ j,j<k/\Rch ns j k:=by
     rw[<- t];simpa using hb
    show⟨by lk,C,m,_,_,rfl,B,r,?_,by lk,λc=>?_⟩
    .rw [(qd6 ns k).1 u];show g
    .rw [t];constructor
     .rintro ⟨j,h1,p⟩;show⟨j,by lk,p⟩
     .rintro ⟨j,h1,p⟩;by_cases v:j=k
      .subst v;obtain⟨i,hi,I⟩:=u;show⟨i,hi,I.trans p⟩
      .show⟨j,by lk,p⟩
  .obtain⟨_,C,m,R,S,rfl,B,r,g,_,_⟩:=s;apply q l m H1 B hl r g
theorem uA:FnScope ["self","ties","one","other"] wa (qf qa5):=fS
theorem qf0(a:ss.Nodup){b:Nat}{s:Str}(h:s∈inB ss 0 b):s∈ss/\b.testBit (ss.idxOf s)=true:=by
 rw[zk a] at h;show yq.mp h
def qgG(ss:LS)(ns:LN)(i:Nat):LP:=((inB ss 0 (ns.getD i 0)).filter λo=>decide (i<ss.idxOf o)).map λo=>(ss.getD i "",o)
def zj(ss:LS)(ns:LN)(i:Nat):LP:=(List.range i).flatMap (qgG ss ns)
def PrAt(H H':Hp)(l:Addr)(t:Addr)(a:Str×Str):Prop:=H t=none/\t≠l/\H' t=some (.tup [.str a.1,.str a.2])
theorem PrAt.same{a:Str×Str}(h:PrAt H H1 l t a)(s:L2.Same H1 H2):PrAt H H2 l t a:=⟨h.1,h.2.1,s _ _ h.2.2⟩
inductive spTs(cw:Addr)(vs:List V)(H:Hp)(Q:VK)(E:XK):Prop|mk (x:Addr) (ss:LS) (ns:LN) (_:vs=[.ref x]) (_:WebAt cw H x ss ns) (_:∀(l:Addr) (ts:LI) (H':Hp),L2.Same H H'->H l=none->H' l=some (.lst (ts.map V.ref))->ts.length<=196->All2 (PrAt H H' l) ts (zj ss ns ss.length)->Q (.ref l) H')
theorem ok_ts(F:Fun K "ties" "Web.ties" qa5 f fd)(T:Txt K mg cc cw)(K8:wqqi 6 cw "beside" wqd (spBs cw)):wqqj 7 f fd wa (spTs cw):=by
 show F.ok uA λ_ _ _ _ H vs Q E hr h=>?_
 .obtain⟨x,ss,ns,rfl,hW,q⟩:=h;have hu:=jw hr;obtain⟨dx,d,ol,n,hx,hd,ho,hn,hw⟩:=id hW;have few:=hw.few
  have X:∀(H1:Hp) (y:Str) (i:Nat),L2.Same H H1->ss[i]?=some y->DGet H1 d (.str y) (some (.int (i:Nat))):=λH1 y i O D=>by
   obtain⟨j,hj,gj,vj⟩:=zw (i:=0) (yf D);rw[xM] at vj;have af:j=i:=jf hw.nd gj D;subst af;have:=DGet.k (k:=Sum.inr y) (O _ _ hd);rw[vj] at this;show this
  show⟨_,(qd (qr (i:=1) uA.nd rfl (yG rfl) (qS qb))
 (qd (jq yX rfl (qL (K:=K) rfl (qV (K:=K) rfl (pv 0) rfl)) (qp (i:=2) uA.nd rfl (yG rfl))
 (qe (jq yX rfl (qL (K:=K) rfl (qR K8 (hmR hr) (pv 0) (qa (pv 2) qb))) (qp (i:=3) uA.nd rfl (yG rfl))
 (qe (qG (qj qdH (qA (qB (K:=K) rfl hu) (qV (K:=K) rfl (pv 0) rfl) (pv 2) (λ_ _=>rfl)) (qA (qB (K:=K) rfl hu) (qV (K:=K) rfl (pv 0) rfl) (pv 3) (λ_ _=>rfl)) (qu _)) (qe (qN (qeb (K:=K) rfl yV Ym Yn je (pv 1) (qa (ji (qa (pv 2) (qa (pv 3) qb))) qb)))) qt)))))
 (qe (qi (pv 1))))),?_⟩
  apply⟨by decide,λl hl=>?_⟩;have s0:=qw (Sr H) (o:=.lst []) hl;apply .inl ⟨x,cw,dx,_,.ref ol,rfl,s0 _ _ hx,T.wcl,T.wo,qcn,?_⟩;show .inl ⟨⟨_,SqL.of (s0 _ _ ho)⟩,jX (K:=K) (λi σ H'=>∃(ts:LI) (x2 S:Option V),σ=[some (.ref x),some (.ref l),x2,S]/\L2.Same H H'/\H' l=some (.lst (ts.map V.ref))/\ts.length<=i*14/\All2 (PrAt H H' l) ts (zj ss ns i))
   ⟨[],none,none,rfl,s0,qc,by simp,All2.nil⟩ (λi σ H' _ B=>by obtain⟨_,_,_,_,z,_⟩:=B;show SqL.of (z _ _ ho)) (λi y σ H1 hy B=>?_) fun σ H1 B=>?_⟩
  .obtain⟨ts,x2,S,rfl,O,G,s,c⟩:=B;have hi:i<ss.length:=by simpa using(yc.mp hy).1
   have D:ss[i]?=some ss[i]:=yb hi;generalize ss[i]=p at D;have ey:y=.str p:=by rw[ye,D] at hy;cases hy;rfl
   subst ey;have al:=hw.nm p (yf D);apply⟨x,dx,_,rfl,O _ _ hx,zh (by room),?_⟩;apply⟨x,ss,ns,p,i,rfl,hW.same O,D,λH2 s2 b hb=>?_⟩;have s3:=O.trans s2;have s4:=qw s3 (o:=.lst ((inB ss 0 (ns.getD i 0)).map V.str)) hb;have R:=qw s2 (o:=.lst ((inB ss 0 (ns.getD i 0)).map V.str)) hb;have eb:upd H2 b (.lst ((inB ss 0 (ns.getD i 0)).map V.str)) b=some (.lst ((inB ss 0 (ns.getD i 0)).map V.str)):=qc;have ah:b≠l:=λe=>by rw[e,s2 _ _ G] at hb;cases hb
   have aj:H b=none:=s3.free hb;show .inl ⟨⟨_,SqL.of qc⟩,?_⟩;generalize upd H2 b (.lst ((inB ss 0 (ns.getD i 0)).map V.str))=H3 at s4 R eb ⊢;have J:∀ o,o∈inB ss 0 (ns.getD i 0)->o∈ss:=λo h=>(qf0 hw.nd h).1;have ad:=qdl (ns.getD i 0) ss 0;have r:qgG ss ns i=((inB ss 0 (ns.getD i 0)).filter λo=>decide (i<ss.idxOf o)).map λo=>(ss.getD i "",o):=rfl;have aa:ss.getD i ""=p:=by simp[List.getD,D]
   rw[aa] at r;generalize ak:inB ss 0 (ns.getD i 0)=bs at eb J ad r ⊢;show jX (K:=K) (λk σ H'=>∃(us:LI) (S:Option V),σ=[some (.ref x),some (.ref l),some (.str p),S]/\L2.Same H H'/\H' b=some (.lst (bs.map V.str))/\H' l=some (.lst (us.map V.ref))/\us.length<=i*14+k/\All2 (PrAt H H' l) us (zj ss ns i++((bs.take k).filter λo=>decide (i<ss.idxOf o)).map λo=>(p,o)))
    ⟨ts,_,rfl,s4,eb,R _ _ G,s,by simpa using c.mono λ_ _ h=>h.same R⟩ (λk σ H' _ B=>by obtain⟨_,_,_,_,z,_⟩:=B;show SqL.of z) (λk u σ Y M B=>?_) fun σ Y B=>?_
   .obtain⟨us,S,rfl,I,C,g,v,a⟩:=B;have hk:k<bs.length:=by simpa using(yc.mp M).1
    have Z:bs[k]?=some bs[k]:=yb hk;generalize bs[k]=m at Z;have eu:u=.str m:=by rw[ye,Z] at M;cases M;rfl
    subst eu;have ag:=J m (yf Z);have ae:=y7 ag;have ac:ss[ss.idxOf m]?=some m:=by rw[yb ae,Yu]
    have W:bs.take (k+1)=bs.take k++[m]:=by rw[yI,Z];rfl
    apply .inl ⟨x,cw,dx,_,.ref d,rfl,I _ _ hx,T.wcl,T.wn,zG,?_⟩;apply .inr ⟨d,.int i,rfl,X Y p i I D,?_⟩;apply .inl ⟨x,cw,dx,_,.ref d,rfl,I _ _ hx,T.wcl,T.wn,zG,?_⟩;apply .inr ⟨d,.int (ss.idxOf m:Nat),rfl,X Y m _ I ac,?_⟩;apply qE (λL=>?_) λL=>?_
    .have A:i<ss.idxOf m:=by have:=yl L;lk
     apply⟨.inl ⟨rfl,_,SqL.of g⟩,?_⟩;apply⟨wqqn,λt ht=>?_⟩;have N:l≠t:=qO g ht;have ai:b≠t:=qO C ht;have s6:=qw (Sr Y) (o:=.tup [.str p,.str m]) ht;apply⟨l,_,_,rfl,rfl,by rw[qo N];show g,by rw[ya];show qg (by have:i*14<=14*14:=Nat.mul_le_mul_right 14 (by lk);lk),?_⟩;show⟨us++[t],_,rfl,qhH (I.trans s6) hl,by rw[qo ah,qo ai];show C,by rw[qc,yu];rfl,by rw[yK];show us.length+1<=_;lk,?_⟩;rw[W,yZ,yu,<- YK];have U:([m].filter λo=>decide (i<ss.idxOf o)).map (λo=>(p,o))=[(p,m)]:=by simp[A]
     rw[U];show All2.snoc (a.mono λt' ab h=>⟨h.1,h.2.1,?_⟩) ⟨I.free ht,N.symm,?_⟩
     .rw [qo h.2.1];show s6 _ _ h.2.2
     .rw [qo N.symm,qc]
    .have A:¬ i<ss.idxOf m:=λh=>L (yx (by lk));show⟨us,_,rfl,I,C,g,by lk,?_⟩;have U:([m].filter λo=>decide (i<ss.idxOf o)).map (λo=>(p,o))=[]:=by simp[A]
     rw[W,yZ,yu,U,Yb];show a
   .obtain⟨us,S,rfl,I,C,g,v,a⟩:=B;rw[ya,yD] at a;rw[ya] at v;show⟨us,_,_,rfl,I,g,by lk,?_⟩;unfold zj at a ⊢;rw[Xd,List.flatMap_append];have U:[i].flatMap (qgG ss ns)=(bs.filter λo=>decide (i<ss.idxOf o)).map λo=>(p,o):=by rw[<- r];simp
    rw[U];show a
  .obtain⟨ts,x2,S,rfl,O,G,s,c⟩:=B;rw[ya] at s c;apply q l ts H1 O hl G (by have:ss.length*14<=14*14:=Nat.mul_le_mul_right 14 few;lk) c
theorem qap:∀{l m:LS},l.Nodup->(∀ x∈l,x∈m)->l.length<=m.length
 | [],_,_,_=>Y5 _
 | x::r,m,hn,h=>by
  obtain⟨h1,c⟩:=yp.mp hn;have a:=h x yL;have d:=qap (l:=r) (m:=m.erase x) c λy b=>(List.mem_erase_of_ne (λe=>h1 (by rw[<- e];show b))).mpr (h y (yz _ b));rw[List.length_erase_of_mem a] at d;have:0<m.length:=List.length_pos_of_mem a;simp only[Yk];lk
theorem qer(c:Str)(ss:LS):inV (.str c) (ss.map V.str)=decide (c∈ss):=by
 unfold inV;rw[List.any_map,yT,xA,yC];constructor
 .rintro ⟨y,a,e⟩;have:y=c:=eq_of_beq e;rw[<- this];show a
 .intro h;show⟨c,h,Y8 c⟩
theorem flat_strs(ss:LS):(ss.map V.str).all zS=true:=by rw[kc];show Yr.mpr λ_ _=>rfl
theorem slice_ix(k n:Nat):Builtin.Str.strSliceIndices none (some (k:Int)) 1 n=List.range (min k n):=by
 unfold Builtin.Str.strSliceIndices sliceRange;simp only[show(1:Int)>0 by decide,XB];rw[yE (show ¬ ((k:Int)<0) by lk)];have a:max 0 (min (k:Int) n)=((min k n:Nat):Int):=by lk
 rw[a];have b:(λ(j:Nat)=>((0:Int)+1*(j:Int)).toNat)=id:=by funext j;show _=j;lk
 rw[b,Ko]
 congr 1
 split
 .rw [Int.ediv_one];lk
 .omega
theorem qf1(a:Array Nat):∀ m,m<=a.size->(List.range m).filterMap (a[·]?)=a.toList.take m
 | 0,_=>rfl
 | m+1,h=>by
  rw[Xd,List.filterMap_append,qf1 a m (by lk),yI]
  congr 1
  have e:a[m]?=some a[m]:=Array.getElem?_eq_getElem (by lk);have b:a.toList[m]?=some a[m]:=by rw[kg];show e
  rw[b,XM,e];rfl
theorem qc4(z:Str)(k:Nat):(Txt.slice z none (some (k:Int))).cps.toList=z.cps.toList.take k:=by
 unfold Txt.slice;rw[slice_ix];have b:z.length=z.cps.toList.length:=by simp[Str.length]
 split
 .rename_i h
  rw[YF] at h;have:min k z.length=z.length:=by simpa using h
  rw[xm (by lk)]
 .show(List.filterMap _ _).toArray.toList=_;rw[qf1 z.cps (min k z.length) (kj _ _)];show z.cps.toList.take (min k z.length)=_;by_cases a:k<=z.length
  .rw [Kj a]
  .rw [Nat.min_eq_right (by lk),xm (by lk),xm (by lk)]
theorem qe1(a b:Str):(a++b).cps.toList=a.cps.toList++b.cps.toList:=by
 show(a.cps++b.cps).toList=_;show Array.toList_append
theorem qhB{c:Nat}(h:97<=c)(a:c<=122):sg c=true:=by
 have key:∀ i,i<26->sg (97+i)=true:=by room
 have:=key (c-97) (by lk)
 rwa[show 97+(c-97)=c by lk] at this
def L26:Str:="abcdefghijklmnopqrstuvwxyz"
theorem qhd{i:Int}(a:0<=i)(h1:i<26):atI L26.cps.toList i=some (97+i.toNat):=by
 obtain⟨n,rfl⟩:=Int.eq_ofNat_of_zero_le a;have key:∀ n,n<26->L26.cps.toList[n]?=some (97+n):=by room
 rw[Ye];show j7 (key n (by lk))
theorem qcp{x:Str}{l:LN}(e:x.cps.toList=l)(h1:1<=l.length)(a:l.length<=6)(h:l.all sg=true):qah x=true:=by
 have hl:x.length=l.length:=by rw[<- e];simp[Str.length]
 unfold qah;rw[yH ⟨by lk,by lk⟩,e];show h
theorem nodup_key(h:∀(i j:Nat) (s:Str),ss[i]?=some s->ss[j]?=some s->i=j):ss.Nodup:=by
 show YO.mpr λi j a c b e=>?_;have:=h i j ss[j] (by rw[yb a,e]) (yb c);lk
structure NOk(ss:LS):Prop where
 few:ss.length<=14
 nd:ss.Nodup
 nm:∀ s∈ss,qah s=true
theorem qe2{v:V}(h:zS v=true):eqV v v=true:=by
 cases v<;>first | rfl | (simp[eqV];done) | cases h
theorem qbK(n:Nat):(List.range n).all (λ_=>true)=true:=by simp
theorem pair_eqD{s t s' t':Str}(hb:H b=some (.tup [.str s',.str t']))(f:H a=some (.tup [.str s,.str t])):EqD K H 1 (.ref b) (.ref a) (decide ((s',t')=(s,t))):=by
 by_cases e:b=a
 .subst e;rw[hb] at f;cases f;rw[yx rfl];show .self
 .have z:=EqT.tup (K:=K) (H:=H) (n:=0) (e:=λj=>if j=0 then eqV (.str s') (.str s) else eqV (.str t') (.str t)) (SqT.of hb) (SqT.of f) λj x y c d=>by
   match j,c,d with
   | 0,c,d=>cases c;cases d;show .flat rfl rfl
   | 1,c,d=>cases c;cases d;show .flat rfl rfl
  have ev:((List.range (min [V.str s',V.str t'].length [V.str s,V.str t].length)).all (λj=>if j=0 then eqV (.str s') (.str s) else eqV (.str t') (.str t))&&[V.str s',V.str t'].length==[V.str s,V.str t].length)=decide ((s',t')=(s,t)):=by
   show((s'==s)&&((t'==t)&&true)&&true)=_;rw[yT];simp
  rw[ev] at z;show .deep z e
def qfn(H:Hp)(z:V):Option (Str×Str):=match z with
 | .ref t=>(match H t with
  | some (.tup [.str a,.str b])=>some (a,b)
  | _=>none)
 | _=>none
theorem qdm{a b:Str}(h:H t=some (.tup [.str a,.str b])):qfn H (.ref t)=some (a,b):=by
 unfold qfn;dsimp only;rw[h]
theorem any_in(h:All2 (λt b=>H t=some (.tup [.str b.1,.str b.2])) ts tps)(st:Str×Str):((ts.map V.ref).any λz=>decide (qfn H z=some st))=decide (st∈tps):=by
 rw[yT,xA,yC];constructor
 .rintro ⟨z,i,e⟩;obtain⟨t,g,rfl⟩:=yJ.mp i;obtain⟨b,c,r⟩:=h.mem g;have e:=yl e;rw[qdm r] at e;cases e;show c
 .intro f;obtain⟨k,d,e⟩:=List.getElem_of_mem f;have a:k<ts.length:=by rw[h.len];show d
  have r:=h.at_ k ts[k] tps[k] (yb a) (yb d);show⟨.ref ts[k],yJ.mpr ⟨_,Xo a,rfl⟩,yx ?_⟩;rw[qdm r,e]
def Adj(ss:LS)(ns:LN)(tps:LP):Prop:=∀ a b s t,ss[a]?=some s->ss[b]?=some t->((ns.getD a 0).testBit b=true↔((s,t)∈tps\/(t,s)∈tps))
theorem ix_natF{k:Nat}(h:k<n):seqIndex? (k:Int) n=some k:=by
 unfold seqIndex?;simp;lk
def tA(tps:LP)(a b:Str):Prop:=(a,b)∈tps\/(b,a)∈tps
structure Wt(cw:Addr)(H:Hp)(x:Addr)(ss:LS)(ns:LN)(tps:LP):Prop where
 web:WebAt cw H x ss ns
 adj:Adj ss ns tps
 ok:∀ ab∈tps,ab.1∈ss/\ab.2∈ss/\ab.1≠ab.2
theorem Wt.same(h:Wt cw H x ss ns tps)(s:L2.Same H H'):Wt cw H' x ss ns tps:=⟨h.web.same s,h.adj,h.ok⟩
theorem Wt.wok(h:Wt cw H x ss ns tps):WOk ss ns:=by obtain⟨_,_,_,_,_,_,_,_,z⟩:=h.web;show z
theorem Wt.bes(h:Wt cw H x ss ns tps):∀(j:Nat) z u,ss[j]?=some z->(u∈inB ss 0 (ns.getD j 0)↔tA tps z u):=λj z u e=>by
 rw[zk h.wok.nd,yq];constructor
 .rintro ⟨h1,b⟩;show(h.adj j _ z u e (by rw[yb (y7 h1),Yu])).mp b
 .intro t;have a:u∈ss:=t.elim (λy=>(h.ok _ y).2.1) λy=>(h.ok _ y).1;show⟨a,(h.adj j _ z u e (by rw[yb (y7 a),Yu])).mpr t⟩
section
variable{ss:LS}{ns:LN}{tps:LP}
theorem qcI(hw:WOk ss ns)(p:Adj ss ns tps){a b:Str}:(a,b)∈zj ss ns ss.length↔tA tps a b/\∃ i j:Nat,i<j/\ss[i]?=some a/\ss[j]?=some b:=by
 unfold zj;rw[List.mem_flatMap];constructor
 .rintro ⟨i,f,h⟩;have f:=Yd.mp f;obtain⟨s,l⟩:∃ s,ss[i]?=some s:=⟨_,yb f⟩;have d:ss.getD i ""=s:=by rw[Yg,l];rfl
  unfold qgG at h;rw[d] at h;obtain⟨o,t,e⟩:=yJ.mp h;cases e;obtain⟨h1,c⟩:=yq.mp t;obtain⟨q,r⟩:=qf0 hw.nd h1;have n:ss[ss.idxOf b]?=some b:=by rw[yb (y7 q),Yu]
  show⟨(p i _ _ _ l n).mp r,i,_,yl c,l,n⟩
 .rintro ⟨h,i,j,g,h1,c⟩;show⟨i,Yd.mpr (yc.mp h1).1,?_⟩;have d:ss.getD i ""=a:=by rw[Yg,h1];rfl
  have m:ss.idxOf b=j:=by
   have hb:=yf c;show jf hw.nd (by rw[yb (y7 hb),Yu]) c
  unfold qgG;rw[d];show yJ.mpr ⟨b,yq.mpr ⟨?_,yx (by rw[m];show g)⟩,rfl⟩;rw[zk hw.nd];show yq.mpr ⟨yf c,by rw[m];show(p i j a b h1 c).mpr h⟩
theorem dps_nd(hw:WOk ss ns):(zj ss ns ss.length).Nodup:=by
 show List.pairwise_flatMap.mpr ⟨λi _=>?_,?_⟩
 .unfold qgG;show YM.mpr ?_;have nd:((inB ss 0 (ns.getD i 0)).filter λo=>decide (i<ss.idxOf o)).Nodup:=by rw[zk hw.nd];show(hw.nd.filter _).filter _
  show nd.imp λc e=>c (Prod.mk.inj e).2
 .show List.Pairwise.imp_of_mem (λ{i j} a b g q d r f e=>?_) (xo (n:=ss.length));have a:=Yd.mp a;have b:=Yd.mp b;unfold qgG at d f;obtain⟨_,_,rfl⟩:=yJ.mp d;obtain⟨_,_,rfl⟩:=yJ.mp f;have e:=(Prod.mk.inj e).1;rw[Yg,Yg,yb a,yb b] at e;have:=jf hw.nd (yb a) (by rw[yb b];show congrArg some e.symm);lk
end
structure WyI(A:Str->Str->Prop)(m:Str->Option (LS)):Prop where
 nd:∀ z r,m z=some r->r.Nodup
 last:∀ z r,m z=some r->r.getLast?=some z
 pre:∀ z r,m z=some r->∀ i x,r[i]?=some x->m x=some (r.take (i+1))
 tie:∀ z r,m z=some r->∀ i x y,r[i]?=some x->r[i+1]?=some y->A x y
def qed(m:Str->Option (LS))(z:Str)(r:LS):Str->Option (LS):=λx=>if x=z then some r else m x
theorem jA:qed m z r z=some r:=yH rfl
theorem jr{x:Str}(h:x≠z):qed m z r x=m x:=yE h
theorem WyI.ne(h:WyI A m)(e:m z=some r):r≠[]:=λa=>by have:=h.last z r e;rw[a] at this;cases this
theorem WyI.key(h:WyI A m){x:Str}(e:m z=some r)(b:x∈r):∃ q,m x=some q:=by
 obtain⟨i,a⟩:=yg b;show⟨_,h.pre z r e i x a⟩
theorem WyI.start(h:WyI A m){s:Str}(g:m s=none):WyI A (qed m s [s]):=by
 have c:∀{z r},m z=some r->∀ x∈r,x≠s:=λe x j l=>by
  obtain⟨q,f⟩:=h.key e j;rw[l,g] at f;cases f
 have case:∀{z r},qed m s [s] z=some r->(z=s/\r=[s])\/(z≠s/\m z=some r):=λ{z r} e=>by
  by_cases b:z=s
  .subst b;rw[jA] at e;cases e;show .inl ⟨rfl,rfl⟩
  .rw [jr b] at e;show .inr ⟨b,e⟩
 show⟨λz r e=>?_,λz r e=>?_,λz r e i x a=>?_,λz r e i x y a d=>?_⟩<;>rcases case e with⟨rfl,rfl⟩ | ⟨b,e⟩
 .simp
 .show h.nd z r e
 .rfl
 .show h.last z r e
 .cases i with
  | zero=>cases a;show jA
  | succ i=>simp at a
 .rw [jr (c e x (yf a))];show h.pre z r e i x a
 .simp at d
 .show h.tie z r e i x y a d
theorem WyI.step(h:WyI A m){q:LS}(f:m y=some q)(p:m z=none)(l:A y z):WyI A (qed m z (q++[z])):=by
 have g:∀{w r},m w=some r->∀ x∈r,x≠z:=λe x o s=>by
  obtain⟨t,n⟩:=h.key e o;rw[s,p] at n;cases n
 have case:∀{w r},qed m z (q++[z]) w=some r->(w=z/\r=q++[z])\/(w≠z/\m w=some r):=λ{w r} e=>by
  by_cases hw:w=z
  .subst hw;rw[jA] at e;cases e;show .inl ⟨rfl,rfl⟩
  .rw [jr hw] at e;show .inr ⟨hw,e⟩
 have n:0<q.length:=XR.mpr (h.ne f);show⟨λw r e=>?_,λw r e=>?_,λw r e i x c=>?_,λw r e i x u c j=>?_⟩<;>rcases case e with⟨rfl,rfl⟩ | ⟨hw,e⟩
 .show YD.mpr ⟨h.nd y q f,by simp,λa l b hb=>by rw[yw.mp hb];show g f a l⟩
 .show h.nd w r e
 .simp
 .show h.last w r e
 .by_cases hl:i<q.length
  .rw [yQ hl] at c;rw[jr (g f x (yf c)),h.pre y q f i x c,List.take_append_of_le_length (by lk)]
  .have d:i=q.length:=by
    have:=(yc.mp c).1;rw[yK] at this;simp only[Yk,xr] at this;lk
   subst d;rw[Yc (yi _),Nat.sub_self] at c;cases c;rw[jA,xm (by rw[yK];show yi _)]
 .rw [jr (g e x (yf c))];show h.pre w r e i x c
 .by_cases hl:i+1<q.length
  .rw [yQ hl] at j;rw[yQ (by lk)] at c;show h.tie y q f i x u c j
  .have d:i+1=q.length:=by
    have:=(yc.mp j).1;rw[yK] at this;simp only[Yk,xr] at this;lk
   rw[d,Yc (yi _),Nat.sub_self] at j;cases j;rw[yQ (by lk)] at c;have hl:=h.last y q f;rw[Yy,show q.length-1=i by lk,c] at hl;cases hl;show l
 .show h.tie w r e i x u c j
def sdW(r:LS):Nat:=(r.length+1) % 2
inductive Rc(A:Str->Str->Prop)(a:Str):Str->Prop
 | refl:Rc A a a
 | on {b c:Str} (h:Rc A a b) (t:A b c):Rc A a c
theorem WyI.share(h:WyI A m){a b x:Str}{q:LS}(l:m a=some r)(n:m b=some q)(f:r[i]?=some x)(s:x∈q):q[i]?=some x/\r.take (i+1)=q.take (i+1):=by
 obtain⟨j,c⟩:=yg s;have g:=h.pre a r l i x f;have d:=h.pre b q n j x c;rw[g] at d;have e:=yn d;have t:=congrArg List.length e;have o:=(yc.mp f).1;have p:=(yc.mp c).1;rw[yM,yM] at t;have:i=j:=by lk
 subst this;show⟨c,e⟩
theorem Uu:FnScope ["way"] ["way"] (qf zd):=fS
theorem ud:FnScope ["web","start","ways","waiting","place","other"] wq8 (qf zE):=fS
inductive StW(A:Str->Str->Prop)(s:Str)(m:Str->Option (LS)):(Str->Option (LS))->Prop
 | refl:StW A s m m
 | step {m1:Str->Option (LS)} {y z:Str} {q:LS} (h:StW A s m m1) (hy:m1 y=some q) (hq:q[0]?=some s) (ha:A y z) (hz:m1 z=none):StW A s m (qed m1 z (q++[z]))
theorem StW.ext{s:Str}(h:StW A s m m1):∀ z r,m z=some r->m1 z=some r:=by
 induction h with
 | refl=>show λ_ _ e=>e
 | @step m1 y z q h hy hq ha hz ih =>
  intro x r e;have a:=ih x r e;rw[jr (λk=>by rw[k,hz] at a;cases a)];show a
theorem StW.wy{s:Str}(h:StW A s m m1)(W:WyI A m):WyI A m1:=by
 induction h with
 | refl=>show W
 | step h hy hq ha hz ih=>show ih.step hy hz ha
theorem StW.root{s:Str}(h:StW A s m m1):∀ z r,m1 z=some r->m z=some r\/r[0]?=some s:=by
 induction h with
 | refl=>show λ_ _ e=>.inl e
 | @step m1 y z q h hy hq ha hz ih =>
  intro x r e;by_cases a:x=z
  .subst a;rw[jA] at e;cases e;show .inr ?_;rw[yQ (yc.mp hq).1];show hq
  .rw [jr a] at e;show ih x r e
theorem StW.inn{s:Str}(h:StW A s m m1)(inn:∀ a b,A a b->b∈ss)(d:∀ z r,m z=some r->z∈ss):∀ z r,m1 z=some r->z∈ss:=by
 induction h with
 | refl=>show d
 | @step m1 y z q h hy hq ha hz ih =>
  intro x r e;by_cases c:x=z
  .rw [c];show inn y z ha
  .rw [jr c] at e;show ih x r e
theorem WyI.few(h:WyI A m)(a:∀ z r,m z=some r->z∈ss)(e:m z=some r):r.length<=ss.length:=
 qap (h.nd z r e) λx c=>by obtain⟨q,b⟩:=h.key e c;show a x q b
def WyV(N:Addr->Prop)(H:Hp)(o:Option V):Option (LS)->Prop
 | none=>o=none
 | some r=>∃ t,o=some (.ref t)/\¬ N t/\H t=some (.lst (r.map V.str))
def WyH(N:Addr->Prop)(H:Hp)(d:Addr)(ss:LS)(m:Str->Option (LS)):Prop:=∃ kvs,H d=some (.dK kvs)/\(∃ a:LS,kvs.length<=a.length/\a.Nodup/\∀ u∈a,u∈ss/\m u≠none)/\∀ s,WyV N H (qam kvs (.inr s:Key)) (m s)
theorem WyV.keep{a:Addr->Prop}{o:Option V}{r:Option (LS)}(h:WyV N H o r)(k:∀ t xs,¬ N t->H t=some (.lst xs)->¬ a t/\H' t=some (.lst xs)):WyV a H' o r:=by
 cases r with
 | none=>show h
 | some r=>obtain⟨t,h1,b,c⟩:=h;show⟨t,h1,k _ _ b c⟩
theorem WyH.same(h:WyH N H d ss m)(s:L2.Same H H'):WyH N H' d ss m:=by
 obtain⟨kvs,h1,a,b⟩:=h;show⟨kvs,s _ _ h1,a,λz=>(b z).keep λt xs n e=>⟨n,s _ _ e⟩⟩
theorem WyH.fresh{w:Addr}(h:WyH N H d ss m)(hw:H w=none):WyH (λt=>t=w) H d ss m:=by
 obtain⟨kvs,h1,a,b⟩:=h;show⟨kvs,h1,a,λz=>(b z).keep λt xs n e=>⟨(λk=>by rw[k,hw] at e;cases e),e⟩⟩
theorem WyH.weak(h:WyH N H d ss m):WyH (λ_=>False) H d ss m:=by
 obtain⟨kvs,h1,a,b⟩:=h;show⟨kvs,h1,a,λz=>(b z).keep λt xs n e=>⟨id,e⟩⟩
theorem WyH.updW{w:Addr}(h:WyH (λt=>t=w) H d ss m)(c:w≠d):WyH (λt=>t=w) (upd H w o) d ss m:=by
 obtain⟨kvs,h1,a,b⟩:=h;show⟨kvs,by rw[qo (Yw c)];show h1,a,λz=>(b z).keep λt xs n e=>⟨n,by rw[qo n];show e⟩⟩
theorem WyH.at(h:WyH N H d ss m)(e:m z=some r):∃ kvs t,H d=some (.dK kvs)/\qam kvs (.inr z:Key)=some (.ref t)/\H t=some (.lst (r.map V.str)):=by
 obtain⟨kvs,h1,f,a⟩:=h;have:=a z;rw[e] at this;obtain⟨t,b,_,c⟩:=this;show⟨kvs,t,h1,b,c⟩
theorem WyH.isSome(a:∀ s,WyV N H (qam kvs (.inr s:Key)) (m s))(z:Str):(qam kvs (.inr z:Key)).isSome=(m z).isSome:=by
 have:=a z
 cases e:m z with
 | none=>rw[e] at this;rw[show qam kvs (.inr z:Key)=none from this];rfl
 | some r=>rw[e] at this;obtain⟨t,b,_⟩:=this;rw[b];rfl
theorem WyH.put(j:H d=some (.dK kvs))(o:∃ c:LS,kvs.length<=c.length/\c.Nodup/\∀ u∈c,u∈ss/\m u≠none)(hv:∀ s,WyV N H (qam kvs (.inr s:Key)) (m s))(h:m z=none)(p:z∈ss)(l:¬ N t)(q:H t=some (.lst (r.map V.str))):WyH N (upd H d (.dK (qbT kvs (Sum.inr z) (.ref t)))) d ss (qed m z r):=by
 obtain⟨c,w,v,f⟩:=o;have i:∀ t' xs,H t'=some (.lst xs)->upd H d (.dK (qbT kvs (Sum.inr z) (.ref t))) t'=some (.lst xs):=λt' xs e=>by rw[qo (qbV e j (by intro z;cases z))];show e
 show⟨_,qc,⟨c++[z],?_,YD.mpr ⟨v,by simp,λa g b hb e=>?_⟩,λu hu=>?_⟩,λs=>?_⟩
 .have:=qav kvs (Sum.inr z:Key) (.ref t);rw[yK];show _<=_+1;lk
 .rw [yw.mp hb] at e;rw[e] at g;show(f z g).2 h
 .rcases yP.mp hu with hu | hu
  .show⟨(f u hu).1,?_⟩;rw[jr (λe=>(f u hu).2 (by rw[e];show h))];show(f u hu).2
  .rw [yw.mp hu,jA];show⟨p,λe=>by cases e⟩
 .rw [valV_put];by_cases e:s=z
  .subst e;rw[yH rfl,jA];show⟨t,rfl,l,i _ _ q⟩
  .rw [yE (λy=>e (kO y)),jr e];show(hv s).keep λt' xs n e=>⟨n,i t' xs e⟩
def BxD(d:Addr)(H H':Hp):Prop:=∀ b o,b≠d->H b=some o->H' b=some o
theorem numK_no{s:Str}{k:Nat}(h:qam (qcd ss k) (.inr s:Key)=some (.ref t)):False:=by
 by_cases a:s∈ss
 .obtain⟨j,_,_,e⟩:=zw (i:=k) a;rw[h] at e;cases e
 .rw [qbG a] at h;cases h
theorem Wt.bx{s:Str}(W:Wt cw H x ss ns tps)(f:H d=some (.dK kvs))(hv:qam kvs (.inr s:Key)=some (.ref t))(b:BxD d H J):Wt cw J x ss ns tps:=by
 show⟨?_,W.adj,W.ok⟩;obtain⟨i,g,ol,h,hb,a,e,c,hw⟩:=W.web;show⟨i,g,ol,h,b _ _ (qbV hb f (by intro z;cases z)) hb,b _ _ (λz=>?_) a,b _ _ (qbV e f (by intro z;cases z)) e,b _ _ (qbV c f (by intro z;cases z)) c,hw⟩;rw[z,f] at a;rw[HO.dK.inj (yn a)] at hv;show numK_no hv
inductive spOfs(vs:List V)(H:Hp)(Q:VK)(E:XK):Prop|mk (a:Addr) (r:LS) (_:vs=[.ref a]) (_:H a=some (.lst (r.map V.str))) (_:Q (.bl (decide (sdW r=0))) H)
inductive spSf(cw:Addr)(vs:List V)(H:Hp)(Q:VK)(E:XK):Prop|mk (x d:Addr) (ss:LS) (ns:LN) (tps:LP) (s:Str) (m:Str->Option (LS)) (_:vs=[.ref x,.str s,.ref d]) (_:Wt cw H x ss ns tps) (_:WyH (λ_=>False) H d ss m) (_:WyI (tA tps) m) (_:(∀ z r,m z=some r->z∈ss)) (_:s∈ss) (_:m s=some [s]) (_:(∀ a b,tA tps a b->a≠s->m a≠none->m b≠none)) (_:∀ H' m1,BxD d H H'->WyH (λ_=>False) H' d ss m1->StW (tA tps) s m m1->(∀ a b,tA tps a b->m1 a≠none->m1 b≠none)->Q .non H')
theorem ok_ofs(F:Fun K "on_first_side" "on_first_side" zd f fd)(T:Txt K mg cc cw):wqqj 1 f fd ["way"] spOfs:=by
 show F.ok Uu λ_ _ _ _ H vs Q E c h=>?_
 .obtain⟨a,r,rfl,b,q⟩:=h;have d:=jw c;show⟨_,(qe (qi (qW (jo (K:=K) rfl d) (qM zJ (qk (j8 (K:=K) rfl) rfl T.b_len Yv (qa (pv 0) qb)) qh) qh (qu _)))),?_⟩;apply zK b ?_;rw[ya];apply⟨_,_,rfl,rfl,by show(0:Int)<2;decide,?_⟩;apply .inl (.inl (.inl ⟨rfl,rfl,?_⟩))
  have e:(if false=true then !eqV (V.int ((r.length:Int) % 2)) (V.int 1) else eqV (V.int ((r.length:Int) % 2)) (V.int 1))=decide (sdW r=0):=by
   rw[yE (by decide)];unfold eqV sdW;rw[yT,yC];simp only[Yo];lk
  rw[e];show q
theorem ok_sf(F:Fun K "spread_from" "spread_from" zE f fd)(T:Txt K mg cc cw)(K8:wqqi 6 cw "beside" wqd (spBs cw)):wqqj 7 f fd wq8 (spSf cw):=by
 show F.ok ud λ_ _ _ s H vs Q E hr h=>?_
 .obtain⟨x,d,ss,ns,tps,st,m,rfl,W,hY,av,ay,bb,aq,aw,q⟩:=h;have hu:=jw hr;show⟨_,(qd (qr (i:=3) ud.nd rfl (yG rfl) (qS (qa (pv 1) qb)))
 (qe (qcf yX (qj qdI (qk (j8 (K:=K) rfl) rfl T.b_len Yv (qa (pv 3) qb)) qh (qu _))
 (qd (qr (i:=4) ud.nd rfl (yG rfl) (qeb (K:=K) rfl yV PySem.F.slot_list_pop PySem.F.type_list_pop mtR_popAt (pv 3) (qa qh qb)))
 (qe (jq yX rfl (qL (K:=K) rfl (qR K8 (hmR hr) (pv 0) (qa (pv 4) qb))) (qp (i:=5) ud.nd rfl (yG rfl))
 (qe (qG (qj (zc (K:=K) rfl hu) (pv 5) (pv 2) (by with_unfolding_all rfl)) (qd (qbt (qM (qaN (K:=K) rfl) (qA (qB (K:=K) rfl hu) (pv 2) (pv 4) (λ_ _=>rfl)) (qS (qa (pv 5) qb))) (qb9 (pv 2) (pv 5) (qca hu)))
 (qe (qN (qeb (K:=K) rfl yV Ym Yn je (pv 3) (qa (pv 5) qb))))) qt)))))))),?_⟩
  apply⟨wqqm,λp ab=>?_⟩;have s1:=qw (Sr H) (o:=.lst [.str st]) ab;have ew:upd H p (.lst [.str st]) p=some (.lst ([st].map V.str)):=qc;generalize upd H p (.lst [.str st])=H1 at s1 ew;have bo:=W.wok.nd;have few:=W.wok.few;ext;obtain⟨Wp,af⟩:∃ Wp:Nat->L2.St->Hp->Prop,Wp=λn σ J=>∃(m1:Str->Option (LS)) (L g:LS) (y4 y5:Option V),n=15-L.length/\σ=[some (.ref x),some (.str st),some (.ref d),some (.ref p),y4,y5]/\BxD d H J/\J p=some (.lst (g.map V.str))/\WyH (λt=>t=p) J d ss m1/\StW (tA tps) st m m1/\(L++g).Nodup/\(∀ y∈L++g,y∈ss/\∃ q,m1 y=some q/\q[0]?=some st)/\∀ a b,tA tps a b->a∉g->m1 a≠none->m1 b≠none:=⟨_,rfl⟩;show⟨Wp,⟨15,by rw[af];show⟨m,[],[st],none,none,rfl,rfl,λb o _ e=>s1 _ _ e,ew,(hY.fresh ab).same s1,.refl,by simp,λy hy=>by rw[yw.mp hy];show⟨bb,_,aq,rfl⟩,λa b h1 B=>aw a b h1 (λe=>B (by rw[e];simp))⟩⟩,λn σ J hW=>?_⟩;rw[af] at hW;obtain⟨m1,L,g,y4,y5,hn,rfl,bJ,U,ag,hS,hD,ah,am⟩:=hW;apply zK U ?_;rw[ya];ext
  cases g with
  | nil =>
   show qE (λh=>by simp at h) λ_=>?_;show q J m1 bJ ag.weak hS λa b h1 B=>am a b h1 (by simp) B
  | cons pl g =>
   show qE (λ_=>⟨λbf H'=>∃ n',n'<n/\Wp n' bf H',λ_ _ z=>z,?_⟩) λh=>absurd (yx (by simp)) h
   have bm:L.length+1<=14:=by
    have:=qap (l:=L++pl::g) (m:=ss) hD λy hy=>(ah y hy).1;rw[yK,Yk] at this;lk
   apply⟨.inl ⟨rfl,_,.of U⟩,?_⟩;apply⟨p,_,0,0,.str pl,rfl,rfl,U,by decide,by decide,by rw[ya];show ix_natF (by simp),rfl,?_⟩;obtain⟨ba,S,az,ai⟩:=ah pl (by simp)
   have ak:p≠d:=λz=>by
    obtain⟨kvs,e,_⟩:=ag;rw[<- z,U] at e;cases e
   have xw:∀{b o},b≠p->J b=some o->upd J p (.lst (g.map V.str)) b=some o:=λh e=>by rw[qo h];show e
   have b2:BxD d H (upd J p (.lst (g.map V.str))):=λb o n e=>xw (λz=>by rw[z,ab] at e;cases e) (bJ b o n e);have e2:upd J p (.lst (g.map V.str)) p=some (.lst (g.map V.str)):=qc;have Y2:=ag.updW (o:=.lst (g.map V.str)) ak;show qhE _ _ _ _ (upd J p (.lst (g.map V.str)));generalize upd J p (.lst (g.map V.str))=J2 at b2 e2 Y2;ext
   have W2:Wt cw J2 x ss ns tps:=by
    obtain⟨bh,t0,ax,bc,_⟩:=hY.at aq;show W.bx ax bc b2
   obtain⟨wx,dd,ol,nn,hb,bj,bq,bp,hw⟩:=id W2.web;obtain⟨j,gj⟩:=yg ba;show⟨x,wx,_,rfl,hb,zh (by room),?_⟩;apply⟨x,ss,ns,pl,j,rfl,W2.web,gj,λJ3 s3 lb R=>?_⟩;have s4:=qw s3 (o:=.lst ((inB ss 0 (ns.getD j 0)).map V.str)) R;have el:upd J3 lb (.lst ((inB ss 0 (ns.getD j 0)).map V.str)) lb=some (.lst ((inB ss 0 (ns.getD j 0)).map V.str)):=qc;generalize upd J3 lb (.lst ((inB ss 0 (ns.getD j 0)).map V.str))=J4 at s4 el;have O:=W2.bes j pl;generalize inB ss 0 (ns.getD j 0)=bs at el O;ext
   have as:lb≠d/\lb≠p:=by
    constructor
    .intro z;obtain⟨kvs,e,_⟩:=Y2;rw[z,s3 _ _ e] at R;cases R
    .intro z;rw[z,s3 _ _ e2] at R;cases R
   show .inl ⟨⟨_,.of el⟩,jX (xs:=bs.map V.str) (λi σ G=>∃(A:Str->Option (LS)) (I:LS) (y5:Option V),σ=[some (.ref x),some (.str st),some (.ref d),some (.ref p),some (.str pl),y5]/\(∀ b o,b≠d->b≠p->J4 b=some o->G b=some o)/\G p=some (.lst ((g++I).map V.str))/\WyH (λt=>t=p) G d ss A/\StW (tA tps) st m A/\A pl=some S/\(L++[pl]++(g++I)).Nodup/\(∀ y∈L++[pl]++(g++I),y∈ss/\∃ q,A y=some q/\q[0]?=some st)/\(∀ a b,tA tps a b->a∉g++I->a≠pl->A a≠none->A b≠none)/\∀ b∈bs.take i,A b≠none)
    ⟨m1,[],_,rfl,λb o _ _ e=>e,by rw[Yb];show s4 _ _ e2,Y2.same s4,hS,az,by rw[Yb,YK];show hD,λy hy=>ah y (by rw[Yb,YK] at hy;show hy),λa b h1 B h3=>am a b h1 (λz=>by rw[Yb] at B;rcases yF.mp z with z | z;show h3 z;show B z),λb hb=>by simp at hb⟩
    (λi σ G _ hp=>?_) (λi y σ G hy hp=>?_) fun σ G hp=>?_⟩
   .obtain⟨A,I,y5,_,B2,_⟩:=hp;show .of (B2 _ _ as.1 as.2 el)
   .obtain⟨A,I,y5,rfl,B2,M,X,C,D,N,v,Y,aa⟩:=hp;rw[ye] at hy;obtain⟨c,ho,rfl⟩:=yo.mp hy;have ar:tA tps pl c:=(O c gj).mp (yf ho);have an:c∈ss:=ar.elim (λk=>(W.ok _ k).2.1) λk=>(W.ok _ k).1;have ac:bs.take (i+1)=bs.take i++[c]:=by rw[yI,ho];rfl
    obtain⟨kvs,Z,ao,aj⟩:=id X;apply .inr (.inl ⟨d,_,rfl,DGet.k (k:=Sum.inr c) Z,?_⟩);rw[yH rfl,WyH.isSome aj];ext
    cases hm:A c with
    | some r =>
     show yr ?_;show⟨A,I,_,rfl,B2,M,X,C,D,N,v,Y,λb hb=>?_⟩;rw[ac] at hb;rcases yP.mp hb with hb | hb
     .show aa b hb
     .rw [yw.mp hb,hm];show λe=>by cases e
    | none =>
     show jv ?_;ext;have ap:=aj pl;rw[D] at ap;obtain⟨t,bd,_,au⟩:=ap;show .inr ⟨d,.ref t,rfl,by have:=DGet.k (k:=Sum.inr pl) Z;rw[bd] at this;show this,?_⟩;apply⟨wqqm,λa1 h1=>?_⟩;have t1:=qw (Sr G) (o:=.lst [.str c]) h1;have e1:upd G a1 (.lst [.str c]) a1=some (.lst [.str c]):=qc;generalize upd G a1 (.lst [.str c])=G1 at t1 e1
     have bg:S.length<=14:=by
      have:=(C.wy av).few (C.inn (λa b h=>h.elim (λk=>(W.ok _ k).2.1) λk=>(W.ok _ k).1) ay) D;lk
     show .inl ⟨t,a1,_,_,rfl,rfl,t1 _ _ au,e1,by rw[ya];show S.length+1<=sizeLine;show yN (qg (by lk)),λa2 B=>?_⟩;have be:a2≠p:=λz=>by rw[z,t1 _ _ M] at B;cases B
     have t2:=qw t1 (o:=.lst (S.map V.str++[.str c])) B;have e3:upd G1 a2 (.lst (S.map V.str++[.str c])) a2=some (.lst ((S++[c]).map V.str)):=by rw[qc,yu];rfl
     generalize upd G1 a2 (.lst (S.map V.str++[.str c]))=G2 at t2 e3;ext
     have bn:kvs.length<=14:=by
      obtain⟨po,p1,p2,p3⟩:=ao;have:=qap (l:=po) (m:=ss) p2 λu hu=>(p3 u hu).1;lk
     show .inr ⟨d,_,rfl,DPut.k (k:=Sum.inr c) (t2 _ _ Z) (by rw[XE];lk),?_⟩;have Y3:=WyH.put (t2 _ _ Z) ao (λs=>(aj s).keep λt xs n e=>⟨n,t2 _ _ e⟩) hm an be e3;have ae:upd G2 d (.dK (qbT kvs (Sum.inr c) (.ref a2))) p=some (.lst ((g++I).map V.str)):=by rw[qo ak];show t2 _ _ M
     have B3:∀ b o,b≠d->b≠p->J4 b=some o->upd G2 d (.dK (qbT kvs (Sum.inr c) (.ref a2))) b=some o:=λb o n1 n2 e=>by rw[qo n1];show t2 _ _ (B2 b o n1 n2 e)
     generalize upd G2 d (.dK (qbT kvs (Sum.inr c) (.ref a2)))=G3 at Y3 ae B3;apply⟨.inl ⟨rfl,_,SqL.of ae⟩,?_⟩;ext
     have br:(g++I).length<=14:=by
      have:=qap (l:=g++I) (m:=ss) (YD.mp N).2.1 λy hy=>(v y (yP.mpr (.inr hy))).1;lk
     show⟨p,_,_,rfl,rfl,ae,by rw[ya];show qg (by lk),?_⟩;have al:∀{y q},A y=some q->qed A c (S++[c]) y=some q:=λ{y q} e=>by rw[jr (λz=>by rw[z,hm] at e;cases e)];show e
     have ad:∀{y},A y≠none->qed A c (S++[c]) y≠none:=λ{y} e=>by
      cases e2:A y with
      | none=>show absurd e2 e
      | some q=>rw[al e2];show λz=>by cases z
     show⟨qed A c (S++[c]),I++[c],_,rfl,λb o n1 n2 e=>by rw[qo n2];show B3 b o n1 n2 e,by rw[qc,<- YK,yu (l₂:=[c])];rfl,Y3.updW ak,C.step D ai ar hm,al D,?_,λy hy=>?_,λa b h1 B h3 h4=>?_,λb hb=>?_⟩
     .rw [<- YK g,<- YK (L++[pl])];show YD.mpr ⟨N,by simp,λa ha b hb e=>?_⟩;rw[yw.mp hb] at e;rw[e] at ha;obtain⟨_,q,hq,_⟩:=v c ha;rw[hm] at hq;cases hq
     .rw [<- YK g,<- YK (L++[pl])] at hy;rcases yP.mp hy with hy | hy
      .obtain⟨k1,q,k2,k3⟩:=v y hy;show⟨k1,q,al k2,k3⟩
      .rw [yw.mp hy];show⟨an,_,jA,by rw[yQ (yc.mp ai).1];show ai⟩
     .have ha:a≠c:=λz=>B (by rw[z];simp);rw[jr ha] at h4;show ad (Y a b h1 (λz=>B (by rw[<- YK];show yP.mpr (.inl z))) h3 h4)
     .rw [ac] at hb;rcases yP.mp hb with hb | hb
      .show ad (aa b hb)
      .rw [yw.mp hb,jA];show λe=>by cases e
   .obtain⟨A,I,y5,rfl,B2,M,X,C,D,N,v,Y,aa⟩:=hp;show⟨15-(L++[pl]).length,by rw[hn,yK];show _-(_+1)<_;lk,?_⟩;rw[af];show⟨A,L++[pl],g++I,_,_,rfl,rfl,λb o n e=>B2 b o n (λz=>by rw[z,ab] at e;cases e) (s4 _ _ (b2 b o n e)),M,X,C,N,v,λa b h1 B h3=>?_⟩;by_cases ha:a=pl
    .subst ha;show aa b ?_;rw[ya,yD];show(O b gj).mpr h1
    .show Y a b h1 B ha h3
theorem uY:FnScope ["web","ways","place"] wqqd (qf qbL):=fS
theorem Rc.key(cl:∀ a b,A a b->m a≠none->m b≠none){a b:Str}(h:Rc A a b)(c:m a≠none):m b≠none:=by
 induction h with
 | refl=>show c
 | on _ t ih=>show cl _ _ t ih
structure WyC(A:Str->Str->Prop)(ss:LS)(m:Str->Option (LS)):Prop where
 wy:WyI A m
 inn:∀ z r,m z=some r->z∈ss
 cl:∀ a b,A a b->m a≠none->m b≠none
 rt:∀ a b r q,A a b->m a=some r->m b=some q->r[0]?=q[0]?
theorem WyC.nil:WyC A ss λ_=>none:=
 ⟨⟨(λz r e=>by cases e),(λz r e=>by cases e),(λz r e=>by cases e),λz r e=>by cases e⟩,(λz r e=>by cases e),(λa b _ h=>absurd rfl h),λa b r q _ e=>by cases e⟩
theorem WyC.on(h:WyC A ss m){p:Str}(n:∀ a b,A a b->A b a)(inn:∀ a b,A a b->b∈ss)(l:m p=none)(o:p∈ss)(S:StW A p (qed m p [p]) m1)(cl:∀ a b,A a b->m1 a≠none->m1 b≠none):WyC A ss m1:=by
 have s:∀ z r,qed m p [p] z=some r->z∈ss:=λz r e=>by
  by_cases g:z=p
  .rw [g];show o
  .rw [jr g] at e;show h.inn z r e
 have i:∀{z r},m z=some r->m1 z=some r:=λ{z r} e=>S.ext z r (by rw[jr (λk=>by rw[k,l] at e;cases e)];show e)
 have new:∀{z r},m z=none->m1 z=some r->r[0]?=some p:=λ{z r} e d=>by
  rcases S.root z r d with k | k
  .by_cases g:z=p
   .subst g;rw[jA] at k;cases k;rfl
   .rw [jr g,e] at k;cases k
  .show k
 show⟨S.wy (h.wy.start l),S.inn inn s,cl,λa b r q t d j=>?_⟩
 cases f:m a with
 | some r' =>
  cases c:m b with
  | none=>show absurd c (h.cl a b t (by rw[f];show λk=>by cases k))
  | some q' =>
   rw[i f] at d;cases d;rw[i c] at j;cases j;show h.rt a b r q t f c
 | none =>
  cases c:m b with
  | some q'=>show absurd f (h.cl b a (n _ _ t) (by rw[c];show λk=>by cases k))
  | none=>rw[new f d,new c j]
inductive spWi(cw:Addr)(vs:List V)(H:Hp)(Q:VK)(E:XK):Prop|mk (x:Addr) (ss:LS) (ns:LN) (tps:LP) (_:vs=[.ref x]) (_:Wt cw H x ss ns tps) (_:∀(d:Addr) (m:Str->Option (LS)) (H':Hp),L2.Same H H'->WyH (λ_=>False) H' d ss m->WyC (tA tps) ss m->(∀ s∈ss,m s≠none)->Q (.ref d) H')
theorem ok_wi(F:Fun K "ways_in" "ways_in" qbL f fd)(T:Txt K mg cc cw)(KG:wqqi 1 cw "places" wa (spPls cw))(U2:wqqh 7 "spread_from" wq8 (spSf cw)):wqqj 8 f fd wqqd (spWi cw):=by
 show F.ok uY λ_ _ _ s H vs Q E hr h=>?_
 .obtain⟨x,ss,ns,tps,rfl,W,q⟩:=h;have D:=jw hr;have af:=W.wok.nd;have few:=W.wok.few;have ab:∀ a b,tA tps a b->tA tps b a:=λa b k=>k.symm;have ac:∀ a b,tA tps a b->b∈ss:=λa b k=>k.elim (λy=>(W.ok _ y).2.1) λy=>(W.ok _ y).1;show⟨_,(qd (qr (i:=1) uY.nd rfl (yG rfl) qcg)
 (qd (jq yX rfl (qL (K:=K) rfl (qz KG (hmR hr) (pv 0))) (qp (i:=2) uY.nd rfl (yG rfl))
 (qe (qG (qj (zc (K:=K) rfl D) (pv 2) (pv 1) (by with_unfolding_all rfl)) (qd (qbt (qS (qa (pv 2) qb)) (qb9 (pv 1) (pv 2) (qca D)))
 (qe (qN (qm U2 (hmR hr) qv (qa (pv 0) (qa (pv 2) (qa (pv 1) qb))))))) qt)))
 (qe (qi (pv 1))))),?_⟩
  ext;intro d hd;have X:=qw (Sr H) (o:=.dK []) hd;have ed:upd H d (.dK []) d=some (.dK []):=qc;generalize upd H d (.dK [])=H1 at X ed;ext;obtain⟨wx,dd,ol,nn,hb,ad,ah,ag,hw⟩:=id (W.same X).web;show⟨x,wx,_,rfl,hb,zh (by room),?_⟩;apply⟨x,ss,ns,rfl,(W.same X).web,λU g=>?_⟩;have s2:=qw X (o:=.lst (ss.map V.str)) g;have I:=qw (Sr H1) (o:=.lst (ss.map V.str)) g _ _ ed;have el:upd H1 U (.lst (ss.map V.str)) U=some (.lst (ss.map V.str)):=qc;have aa:U≠d:=λz=>by rw[z,ed] at g;cases g
  generalize upd H1 U (.lst (ss.map V.str))=H2 at s2 I el;apply .inl ⟨⟨_,.of el⟩,jX (xs:=ss.map V.str) (λi σ J=>∃(m:Str->Option (LS)) (Y:Option V),σ=[some (.ref x),some (.ref d),Y]/\BxD d H2 J/\WyH (λ_=>False) J d ss m/\WyC (tA tps) ss m/\∀ z∈ss.take i,m z≠none)
   ⟨λ_=>none,_,rfl,λb o _ e=>e,⟨[],I,⟨[],yi _,List.nodup_nil,λu D=>by cases D⟩,λs=>rfl⟩,.nil,λz S=>by simp at S⟩ (λi σ J _ L=>?_) (λi y σ J hy L=>?_) fun σ J L=>?_⟩
  .obtain⟨m,Y,_,B,_⟩:=L;show .of (B _ _ aa el)
  .obtain⟨m,Y,rfl,B,R,v,c⟩:=L;rw[ye] at hy;obtain⟨pl,ho,rfl⟩:=yo.mp hy;have j:=yf ho;have p:ss.take (i+1)=ss.take i++[pl]:=by rw[yI,ho];rfl
   obtain⟨kvs,A,M,N⟩:=id R;apply .inr (.inl ⟨d,_,rfl,DGet.k (k:=Sum.inr pl) A,?_⟩);rw[yH rfl,WyH.isSome N];ext
   cases C:m pl with
   | some r =>
    show yr ?_;show⟨m,_,rfl,B,R,v,λb hb=>?_⟩;rw[p] at hb;rcases yP.mp hb with hb | hb
    .show c b hb
    .rw [yw.mp hb,C];show λe=>by cases e
   | none =>
    show jv ?_;apply⟨wqqm,λG h1=>?_⟩;have O:=qw (Sr J) (o:=.lst [.str pl]) h1;have e1:upd J G (.lst [.str pl]) G=some (.lst ([pl].map V.str)):=qc;generalize upd J G (.lst [.str pl])=J1 at O e1;ext
    have ae:kvs.length<=14:=by
     obtain⟨po,p1,p2,p3⟩:=M;have:=qap (l:=po) (m:=ss) p2 λu D=>(p3 u D).1;lk
    show .inr ⟨d,_,rfl,DPut.k (k:=Sum.inr pl) (O _ _ A) (by rw[XE];lk),?_⟩;have Y3:=WyH.put (O _ _ A) M (λs=>(N s).keep λt xs n e=>⟨n,O _ _ e⟩) C j id e1;have Z:BxD d H2 (upd J1 d (.dK (qbT kvs (Sum.inr pl) (.ref G)))):=λb o n e=>by rw[qo n];show O _ _ (B b o n e)
    generalize upd J1 d (.dK (qbT kvs (Sum.inr pl) (.ref G)))=J2 at Y3 Z;have b0:L2.Same H J2:=λb o e=>Z b o (λz=>by rw[z,hd] at e;cases e) (s2 _ _ e);apply⟨x,d,ss,ns,tps,pl,qed m pl [pl],rfl,W.same b0,Y3,v.wy.start C,λz r e=>?_,j,jA,λa b t na h=>?_,λJ3 m1 b4 Y4 S4 c4=>?_⟩
    .by_cases S:z=pl
     .rw [S];show j
     .rw [jr S] at e;show v.inn z r e
    .rw [jr na] at h;have:=v.cl a b t h;rw[jr (λz=>this (by rw[z];show C))];show this
    .show⟨m1,_,rfl,λb o n e=>b4 b o n (Z b o n e),Y4,v.on ab ac C j S4 c4,λb hb=>?_⟩
     have keep:∀{z},qed m pl [pl] z≠none->m1 z≠none:=λ{z} h=>by
      cases e:qed m pl [pl] z with
      | none=>show absurd e h
      | some r=>rw[S4.ext z r e];show λk=>by cases k
     rw[p] at hb;rcases yP.mp hb with hb | hb
     .show keep ?_;have:=c b hb;rw[jr (λz=>this (by rw[z];show C))];show this
     .rw [yw.mp hb];show keep (by rw[jA];show λk=>by cases k)
  .obtain⟨m,Y,rfl,B,R,v,c⟩:=L;rw[ya,yD] at c;apply q d m J (λb o e=>B b o (λz=>by rw[z,hd] at e;cases e) (s2 _ _ e)) R v c
theorem UL:FnScope ["one","other","both"] ["one","other"] (qf qaR):=fS
def shN(r q:LS):Nat:=(r.filter λx=>decide (x∈q)).length
def qd7(r q:LS):LS:=r.drop (shN r q-1)++(q.drop (shN r q)).reverse
inductive spRo(vs:List V)(H:Hp)(Q:VK)(E:XK):Prop|mk (a b:Addr) (r q:LS) (_:vs=[.ref a,.ref b]) (_:H a=some (.lst (r.map V.str))) (_:H b=some (.lst (q.map V.str))) (_:r.length<=14) (_:q.length<=14) (_:1<=shN r q) (_:∀(l:Addr) (H':Hp),L2.Same H H'->H l=none->H' l=some (.lst ((qd7 r q).map V.str))->Q (.ref l) H')
theorem ok_ro(F:Fun K "ring_of" "ring_of" qaR f fd)(T:Txt K mg cc cw):wqqj 1 f fd ["one","other"] spRo:=by
 show F.ok UL λ_ _ _ _ H vs Q E Y h=>?_
 .obtain⟨a,b,r,q,rfl,u,hb,N,M,h1,k⟩:=h;have Z:=jw Y;show⟨_,(qd (qr (i:=2) UL.nd rfl (yG rfl) (qk (j8 (K:=K) rfl) rfl T.b_len Yv (qa (qK (sc:=qf qaR) (XN:=["one","other","both"]) ["place","other"] 1 [1] rfl rfl rfl (by room) rfl (by room)
  (qL (K:=K) rfl (pv 0)) (λ_ _ _ _=>(qp (i:=0) (show(["place","other"]:LS).Nodup by room) rfl (yG rfl))) qF
  (λ_ _ _ _=>(qJ (qj (qaO (K:=K) rfl Z) (pv 0) (pv 1) (by with_unfolding_all rfl))))
  (λ_ _ _ _=>(pv 0))) qb)))
 (qe (qi (qM (qaN (K:=K) rfl) (qaZ (qhG (K:=K) rfl) (pv 0) (qag (qM qcu (pv 2) qh)) qb0) (qeU (K:=K) rfl (qaZ (qhG (K:=K) rfl) (pv 1) (qag (pv 2)) qb0) (qag (qfu qdG qh))))))),?_⟩
  apply .inl ⟨⟨_,SqL.of u⟩,qx (K:=K) (a:=a) (xs:=r.map V.str) (λi ys H'=>H'=H/\ys=((r.take i).filter λx=>decide (x∈q)).map V.str) ⟨rfl,rfl⟩ (λi ys H' _ h=>by rw[h.1];show SqL.of u) (λi x ys H' O y=>?_) λys H' y=>?_⟩
  .obtain⟨rfl,rfl⟩:=y;rw[ye] at O;obtain⟨z,R,rfl⟩:=yo.mp O;have m:r.take (i+1)=r.take i++[z]:=by rw[yI,R];rfl
   have X:=(yc.mp R).1;apply .inl ⟨b,_,rfl,.inl (SqL.of hb),rfl,flat_strs q,?_⟩;rw[qer,yE (by decide)];apply qE (λhc=>?_) λhc=>?_
   .ext;show⟨?_,rfl,?_⟩
    .rw [ya];show qg (yj (yy _ _) (by rw[yM];lk))
    .rw [m,yZ,yu];simp only[yR,Xx,hc,XB];rfl
   .show⟨rfl,?_⟩;rw[m,yZ,yu];simp[hc]
  .obtain⟨rfl,rfl⟩:=y;rw[show(r.map V.str).length=r.length from ya ..,yD];show⟨by rw[ya];show yN (qg (yj (yy _ _) (by lk))),λc hc=>?_⟩;have B:=qw (Sr H') (o:=.lst ((r.filter λx=>decide (x∈q)).map V.str)) hc;have G:upd H' c (.lst ((r.filter λx=>decide (x∈q)).map V.str)) c=some (.lst ((r.filter λx=>decide (x∈q)).map V.str)):=qc;generalize upd H' c (.lst ((r.filter λx=>decide (x∈q)).map V.str))=H1 at B G;apply zK G ?_;rw[ya];ext;have A:(r.filter λx=>decide (x∈q)).length=shN r q:=rfl;rw[A];show .inl ⟨a,_,rfl,SqL.of (B _ _ u),λn v=>?_⟩;have W:((shN r q:Int)-1)=((shN r q-1:Nat):Int):=by lk
   rw[W,qcE,<- kq];have C:=qw B (o:=.lst ((r.drop (shN r q-1)).map V.str)) v;have I:upd H1 n (.lst ((r.drop (shN r q-1)).map V.str)) n=some (.lst ((r.drop (shN r q-1)).map V.str)):=qc;generalize upd H1 n (.lst ((r.drop (shN r q-1)).map V.str))=H2 at C I;apply qif ?_;apply .inl ⟨b,_,rfl,SqL.of (C _ _ hb),λp g=>?_⟩;rw[qcE,<- kq];have S:=qw C (o:=.lst ((q.drop (shN r q)).map V.str)) g;have d:=qw (Sr H2) (o:=.lst ((q.drop (shN r q)).map V.str)) g _ _ I;have J:upd H2 p (.lst ((q.drop (shN r q)).map V.str)) p=some (.lst ((q.drop (shN r q)).map V.str)):=qc;generalize upd H2 p (.lst ((q.drop (shN r q)).map V.str))=t at S d J;apply vU ?_;apply⟨rfl,p,_,rfl,SqL.of J,λs j=>?_⟩;rw[<- kn];have D:=qw S (o:=.lst (((q.drop (shN r q)).reverse).map V.str)) j;have e:=qw (Sr t) (o:=.lst (((q.drop (shN r q)).reverse).map V.str)) j _ _ d;have L:upd t s (.lst (((q.drop (shN r q)).reverse).map V.str)) s=some (.lst (((q.drop (shN r q)).reverse).map V.str)):=qc;generalize upd t s (.lst (((q.drop (shN r q)).reverse).map V.str))=H4 at D e L;show .inl ⟨n,s,_,_,rfl,rfl,e,L,?_,λU l=>?_⟩
   .rw [ya,ya,YI,Yz,Yz];show yN (qg (by lk))
   .show k U _ (qw D l) (D.free l) ?_;rw[qc,<- yu];rfl
def Tie(A:Str->Str->Prop)(l:LS):Prop:=∀(i:Nat) x y,l[i]?=some x->l[i+1]?=some y->A x y
theorem Tie.drop{l:LS}(h:Tie A l)(k:Nat):Tie A (l.drop k):=λi x y a b=>by
 rw[xT] at a b;show h (k+i) x y a (by rw[show k+i+1=k+(i+1) by lk];show b)
theorem Tie.rev(f:∀ a b,A a b->A b a){l:LS}(h:Tie A l):Tie A l.reverse:=λi x y c d=>by
 have h1:=(yc.mp c).1;have e:=(yc.mp d).1;rw[YI] at h1 e;rw[xY h1] at c;rw[xY e] at d;show f _ _ (h (l.length-1-(i+1)) y x d (by rw[show l.length-1-(i+1)+1=l.length-1-i by lk];show c))
theorem Tie.app{l m:LS}(h:Tie A l)(k:Tie A m)(j:∀ x y,l.getLast?=some x->m[0]?=some y->A x y):Tie A (l++m):=λi x y a b=>by
 by_cases h1:i+1<l.length
 .rw [yQ (by lk)] at a;rw[yQ h1] at b;show h i x y a b
 .rw [Yc (by lk)] at b;by_cases c:i<l.length
  .rw [yQ c] at a;show j x y ?_ (by rw[<- show i+1-l.length=0 by lk];show b);rw[Yy,show l.length-1=i by lk];show a
  .rw [Yc (by lk)] at a;show k (i-l.length) x y a (by rw[<- show i+1-l.length=i-l.length+1 by lk];show b)
theorem filter_first{p:Str->Bool}{l:LS}(b:∀(i j:Nat) x y,i<j->l[i]?=some x->l[j]?=some y->p y=true->p x=true):∀(i:Nat) x,l[i]?=some x->(p x=true↔i<(l.filter p).length):=by
 induction l with
 | nil=>intro i x h;simp at h
 | cons a r f =>
  have d':∀(i j:Nat) x y,i<j->r[i]?=some x->r[j]?=some y->p y=true->p x=true:=λi j x y m o d=>b (i+1) (j+1) x y (by lk) (by simpa using o) (by simpa using d);have f:=f d';intro i x h;by_cases c:p a=true
  .rw [yR,yH c,Yk]
   cases i with
   | zero=>simp at h;subst h;show⟨λ_=>by lk,λ_=>c⟩
   | succ i=>rw[f i x (by simpa using h)];lk
  .have g:∀(j:Nat) y,r[j]?=some y->p y≠true:=λj y d k=>c (b 0 (j+1) a y (by lk) rfl (by simpa using d) k)
   have e:r.filter p=[]:=xO.mpr λy d=>by
    obtain⟨j,n⟩:=yg d;show g j y n
   rw[yR,yE c,e];show⟨λk=>?_,λk=>by simp at k⟩
   cases i with
   | zero=>simp at h;subst h;show absurd k c
   | succ i=>show absurd k (g i x (by simpa using h))
structure OddR(A:Str->Str->Prop)(ss l:LS):Prop where
 odd:l.length % 2=1
 three:3<=l.length
 nd:l.Nodup
 inn:∀ x∈l,x∈ss
 tie:Tie A l
 close:∀ x y,l[0]?=some x->l.getLast?=some y->A x y
section
variable{A:Str->Str->Prop}{ss:LS}{m:Str->Option (LS)}{a b:Str}{r q:LS}
theorem WyC.sh(h:WyC A ss m)(f:m a=some r)(g:m b=some q):∀(i:Nat) x,r[i]?=some x->(x∈q↔i<shN r q):=by
 have:=filter_first (p:=λx=>decide (x∈q)) (l:=r) λi j x y n c o k=>by
  have k:=yl k;obtain⟨_,e⟩:=h.wy.share f g o k;show yx (yf (i:=i) ?_);have d:=congrArg (λl=>l[i]?) e;rw[kN,kN,yH (by lk),yH (by lk),c] at d;show d.symm
 intro i x c;have k:=this i x c;rw[yC] at k;show k
theorem WyC.ring(h:WyC A ss m)(B:∀ a b,A a b->A b a)(M:∀ a,¬ A a a)(o:A a b)(f:m a=some r)(d:m b=some q)(F:sdW r=sdW q):1<=shN r q/\OddR A ss (qd7 r q):=by
 have l:=h.sh f d;have nr:=h.wy.ne f;have N:=h.wy.ne d;have H:=XR.mpr nr;have P:=XR.mpr N;have s:=h.wy.last a r f;have t:=h.wy.last b q d;rw[Yy] at s t
 have h1:1<=shN r q:=by
  have C:=h.rt a b r q o f d;rw[yb H] at C;have:=(l 0 _ (yb H)).mp (yf C.symm);lk
 have J:shN r q<=r.length:=yy _ _
 have same:∀ i,i<shN r q->r[i]?=q[i]?:=λi n=>by
  have g:=yb (show i<r.length by lk);rw[g];show((h.wy.share f d g ((l i _ g).mpr n)).1).symm
 have E:shN r q<=q.length:=by
  have:=same (shN r q-1) (by lk);rw[yb (show shN r q-1<r.length by lk)] at this;have:=(yc.mp this.symm).1;lk
 have p:∀(i:Nat) x,shN r q<=i->q[i]?=some x->x∉r:=λi x n hx K=>by
  have g:=(h.wy.share d f hx K).1;have:=(l i x g).mp (yf hx);lk
 have v:a≠b:=λz=>M a (by rw[<- z] at o;show o)
 have G:shN r q+shN r q+2<=r.length+q.length:=by
  have par:(r.length+1) % 2=(q.length+1) % 2:=F
  have:¬ (r.length=shN r q/\q.length=shN r q):=λ⟨I,O⟩=>by
   have:=same (shN r q-1) (by lk);rw[<- I,s,I,<- O,t] at this;show v (yn this)
  lk
 have D:(qd7 r q).length=r.length+q.length+1-2*shN r q:=by
  unfold qd7;rw[yK,YI,Yz,Yz];lk
 show⟨h1,⟨?_,by lk,?_,λx hx=>?_,?_,?_⟩⟩
 .have par:(r.length+1) % 2=(q.length+1) % 2:=F;lk
 .unfold qd7;show YD.mpr ⟨(h.wy.nd a r f).sublist (List.drop_sublist _ _),((XD _).nodup_iff.mpr ((h.wy.nd b q d).sublist (List.drop_sublist _ _))),λx hx y c e=>?_⟩;subst e;obtain⟨i,n⟩:=yg (Kc.mp c);rw[xT] at n;show p _ x (by lk) n (XG hx)
 .unfold qd7 at hx;rcases yP.mp hx with hx | hx
  .obtain⟨k,w⟩:=h.wy.key f (XG hx);show h.inn x k w
  .obtain⟨k,w⟩:=h.wy.key d (XG (Kc.mp hx));show h.inn x k w
 .unfold qd7;show Tie.app (Tie.drop (λi x y=>h.wy.tie a r f i x y) _) (Tie.rev B (Tie.drop (λi x y=>h.wy.tie b q d i x y) _)) λx y hx c=>?_;rw[Yy,xT,Yz,show shN r q-1+(r.length-(shN r q-1)-1)=r.length-1 by lk,s] at hx;have u:=(yc.mp c).1;rw[YI] at u;rw[xY u,xT,Yz] at c;rw[Yz] at u;rw[show shN r q+(q.length-shN r q-1-0)=q.length-1 by lk,t] at c;cases hx;cases c;show o
 .intro x y hx c;unfold qd7 at hx c;rw[yQ (by rw[Yz];lk),xT,Nat.add_zero] at hx;have j:=hx;rw[same _ (by lk)] at j;by_cases L:q.length=shN r q
  .rw [List.drop_of_length_le (show q.length<=shN r q by lk)] at c;rw[List.reverse_nil,Yb,Yy,xT,Yz,show shN r q-1+(r.length-(shN r q-1)-1)=r.length-1 by lk,s] at c;cases c;rw[<- L,t] at j;cases j;show B _ _ o
  .rw [List.getLast?_append,List.getLast?_reverse] at c
   have g:(q.drop (shN r q)).head?=some q[shN r q]:=by
    rw[List.head?_drop];show yb (by lk)
   rw[g] at c;cases c;show h.wy.tie b q d (shN r q-1) x _ j (by rw[show shN r q-1+1=shN r q by lk];show yb (by lk))
end
theorem KD:FnScope wqo wqqd (qf jO):=fS
def sdP(m:Str->Option (LS))(s:Str):Nat:=((m s).map sdW).getD 0
theorem WyC.col(h:WyC A ss m){c:Str->Bool}(hc:∀ a b,A a b->c b=!c a)(e:m z=some r):∃ y,r[0]?=some y/\c z=(c y != decide (sdW r=1)):=by
 have ne:=h.wy.ne e;have hl:0<r.length:=by cases r with | nil=>show absurd rfl ne | cons _ _=>simp
 show⟨r[0],yb hl,?_⟩
 have key:∀ i x,r[i]?=some x->c x=(c r[0] != decide (i % 2=1)):=λi=>by
  induction i with
  | zero =>
   intro x d;rw[yb hl] at d;cases d;simp
  | succ i ih =>
   intro x d;have g:=(yc.mp d).1;have f:=yb (l:=r) (i:=i) (by lk);rw[hc _ _ (h.wy.tie z r e i _ x f d),ih _ f]
   have:decide ((i+1) % 2=1)=!decide (i % 2=1):=by
    rcases xU i with k | k
    .rw [k,show(i+1) % 2=1 by lk];rfl
    .rw [k,show(i+1) % 2=0 by lk];rfl
   rw[this];cases c r[0]<;>cases decide (i % 2=1)<;>rfl
 have l:=h.wy.last z r e;rw[Yy] at l;rw[key _ z l]
 congr 2
 unfold sdW;rw[show(r.length+1) % 2=(r.length-1) % 2 by lk]
theorem WyC.same(h:WyC A ss m)(all:∀ s∈ss,m s≠none)(inn:∀ a b,A a b->b∈ss){a b:Str}(k:Rc A a b)(g:a∈ss):∀{r q},m a=some r->m b=some q->r[0]?=q[0]?:=by
 induction k with
 | refl=>intro r q e d;rw[e] at d;cases d;rfl
 | @on b c k t ih =>
  intro r q e d
  cases f:m b with
  | none=>show absurd f (k.key h.cl (all a g))
  | some p=>show(ih e f).trans (h.rt b c p q t f d)
theorem WyC.two(h:WyC A ss m)(all:∀ s∈ss,m s≠none)(inn:∀ a b,A a b->b∈ss){c:Str->Bool}(hc:∀ a b,A a b->c b=!c a){a b:Str}(k:Rc A a b)(f:a∈ss):(sdP m a=0↔sdP m b=0)↔c a=c b:=by
 have hb:m b≠none:=k.key h.cl (all a f)
 cases d:m a with
 | none=>show absurd d (all a f)
 | some r =>
  cases e:m b with
  | none=>show absurd e hb
  | some q =>
   obtain⟨y,g,i⟩:=h.col hc d;obtain⟨o,j,l⟩:=h.col hc e;rw[h.same all inn k f d e,j] at g;cases g;rw[i,l];unfold sdP;rw[d,e];show(sdW r=0↔sdW q=0)↔_;have h1:sdW r<2:=by unfold sdW;lk
   have n:sdW q<2:=by unfold sdW;lk
   rcases(by lk:sdW r=0\/sdW r=1) with k1 | k1<;>rcases(by lk:sdW q=0\/sdW q=1) with k2 | k2<;>rw[k1,k2]<;>cases c y<;>simp
inductive spSd(cw:Addr)(vs:List V)(H:Hp)(Q:VK)(E:XK):Prop|mk (x:Addr) (ss:LS) (ns:LN) (tps:LP) (c:Str->Bool) (_:vs=[.ref x]) (_:Wt cw H x ss ns tps) (_:(∀ a b,tA tps a b->c b=!c a)) (_:∀(d:Str->Bool) (t l1 l2:Addr) (H':Hp),L2.Same H H'->(∀ a b,a∈ss->Rc (tA tps) a b->(d a=d b↔c a=c b))->H' t=some (.tup [.ref l1,.ref l2])->H' l1=some (.lst ((ss.filter d).map V.str))->H' l2=some (.lst ((ss.filter λs=>!d s).map V.str))->Q (.ref t) H')
theorem qe3:sdW r<2:=by unfold sdW;lk
theorem qc5{s:Str}(e:m s=some r):sdP m s=sdW r:=by unfold sdP;rw[e];rfl
theorem qb5(h:WyH N H d ss m)(e:m z=some r):∃ t,DGet H d (.str z) (some (.ref t))/\H t=some (.lst (r.map V.str)):=by
 obtain⟨kvs,t,h1,a,b⟩:=h.at e;have:=DGet.k (k:=Sum.inr z) h1;rw[a] at this;show⟨t,this,b⟩
def qdn(tps:LP):Prop:=¬ ∃ c:Str->Bool,∀ a b,tA tps a b->c b=!c a
def OddE(cc:Nat->Addr)(H:Hp)(tps:LP)(ss:LS)(E:XK):Prop:=∀(l dx:Addr) (ring:LS) (H':Hp),L2.Same H H'->OddR (tA tps) ss ring->H l=none->H' l=some (.lst (ring.map V.str))->H' dx=some (.xd [(qec 3,.ref l)])->E (.ref (cc 3)) (some dx) H'
theorem OddE.later(h:OddE cc H tps ss E)(s:L2.Same H H1):OddE cc H1 tps ss E:=λl dx r H' t h1 a b c=>h l dx r H' (s.trans t) h1 (s.free a) b c
inductive spSdO(cc:Nat->Addr)(cw:Addr)(vs:List V)(H:Hp)(Q:VK)(E:XK):Prop|mk (x:Addr) (ss:LS) (ns:LN) (tps:LP) (_:vs=[.ref x]) (_:Wt cw H x ss ns tps) (_:qdn tps) (_:OddE cc H tps ss E)
theorem qhe(m:Str->Option (LS))(s:Str):sdP m s<2:=by
 unfold sdP
 cases m s with
 | none=>decide
 | some r=>show sdW r<2;unfold sdW;lk
theorem ok_sd(F:Fun K "sides_of" "sides_of" jO f fd)(T:Txt K mg cc cw)(Ud:wqqh 8 "ways_in" wqqd (spWi cw))(KC:wqqh 1 "on_first_side" ["way"] spOfs)(KY:wqqi 7 cw "ties" wa (spTs cw))(KG:wqqi 1 cw "places" wa (spPls cw)):wqqj 9 f fd wqqd (spSd cw):=by
 show F.ok KD λ_ _ _ s H vs Q E D h=>?_
 .obtain⟨x,ss,ns,tps,c,rfl,W,v,qy⟩:=h;have hu:=jw D;show⟨_,(qd (qr (i:=1) KD.nd rfl (xK rfl) (qm Ud (hmR D) qv (qa (pv 0) qb)))
 (qd (jq yX rfl (qc2 (K:=K) rfl (qz KY (hmR D) (pv 0))) (qbh rfl (qU (qp (i:=2) KD.nd rfl (yG rfl)) (qU (qp (i:=3) KD.nd rfl (yG rfl)) qaf)))
 (qe (qG (qj (jo (K:=K) rfl hu) (qm KC (hmR D) qv (qa (qA (qB (K:=K) rfl hu) (pv 1) (pv 2) (λ_ _=>rfl)) qb)) (qm KC (hmR D) qv (qa (qA (qB (K:=K) rfl hu) (pv 1) (pv 3) (λ_ _=>rfl)) qb)) (qu _)) (qe jk) qt)))
 (qd (qay (sc:=qf jO) (XN:=wqo) wqH 1 [1] rfl rfl rfl (by room) rfl (by room) (i:=4) KD.nd rfl rfl
  (qL (K:=K) rfl (qz KG (hmR D) (pv 0))) (λ_ _ _ _=>(qp (i:=0) (show(wqH:LS).Nodup by room) rfl (yG rfl))) qF
  (λ_ _ _ _=>(qJ (qD (qm KC (hmR D) qv (qa (qA (qB (K:=K) rfl hu) (pv 1) (pv 0) (λ_ _=>rfl)) qb)))))
  (λ_ _ _ _=>(pv 0)))
 (qd (qay (sc:=qf jO) (XN:=wqo) wqH 1 [1] rfl rfl rfl (by room) rfl (by room) (i:=5) KD.nd rfl rfl
  (qL (K:=K) rfl (qz KG (hmR D) (pv 0))) (λ_ _ _ _=>(qp (i:=0) (show(wqH:LS).Nodup by room) rfl (yG rfl))) qF
  (λ_ _ _ _=>(qJ (qP (qD (qm KC (hmR D) qv (qa (qA (qB (K:=K) rfl hu) (pv 1) (pv 0) (λ_ _=>rfl)) qb))))))
  (λ_ _ _ _=>(pv 0)))
 (qe (qi (ji (qa (pv 4) (qa (pv 5) qb))))))))),?_⟩
  apply⟨x,ss,ns,tps,rfl,W,λd m H1 s1 hY hC u=>?_⟩;apply qfl ?_;ext;have W1:=W.same s1;obtain⟨wx,dd,ol,nn,hb,au,ax,aw,hw⟩:=id W1.web;show⟨x,wx,_,rfl,hb,zh (by room),?_⟩;apply⟨x,ss,ns,rfl,W1.web,λl ts H2 s2 av hl _ hA=>?_⟩;have ah:=s1.trans s2;have C:=hY.same s2;have few:=W.wok.few
  have get:∀{s},s∈ss->∃ r,m s=some r:=λ{s} hs=>by
   cases e:m s with
   | none=>show absurd e (u s hs)
   | some r=>show⟨r,rfl⟩
  show⟨l,_,rfl,.of hl,jX (xs:=ts.map V.ref) (λi σ J=>J=H2/\(∃ y2 y3,σ=[some (.ref x),some (.ref d),y2,y3,none,none])) ⟨rfl,⟨_,_,rfl⟩⟩ (λi σ J _ n=>by rw[n.1];show .of hl) (λi y σ J hy n=>?_) fun σ J n=>?_⟩
  .obtain⟨rfl,y2,y3,rfl⟩:=n;rw[ye] at hy;obtain⟨t,ht,rfl⟩:=yo.mp hy;obtain⟨I,aa⟩:∃ I,(zj ss ns ss.length)[i]?=some I:=⟨_,yb (by rw[<- hA.len];show(yc.mp ht).1)⟩;obtain⟨_,_,et⟩:=hA.at_ i t I ht aa;have j:tA tps I.1 I.2:=((qcI W.wok W.adj).mp (yf aa)).1;have m1:I.1∈ss:=j.elim (λk=>(W.ok _ k).1) λk=>(W.ok _ k).2.1;have m2:I.2∈ss:=j.elim (λk=>(W.ok _ k).2.1) λk=>(W.ok _ k).1;obtain⟨r,g⟩:=get m1;obtain⟨q,ag⟩:=get m2;obtain⟨ta,Z,p⟩:=qb5 C g;obtain⟨tb,gb,ak⟩:=qb5 C ag;show⟨t,_,rfl,.of et,rfl,_,_,rfl,_,_,rfl,rfl,?_⟩;apply .inr ⟨d,_,rfl,Z,?_⟩;apply⟨ta,r,rfl,p,?_⟩;apply .inr ⟨d,_,rfl,gb,?_⟩;apply⟨tb,q,rfl,ak,?_⟩;show .inl (.inl (.inl ⟨rfl,rfl,?_⟩))
   have e:(if false=true then !eqV (V.bl (decide (sdW r=0))) (V.bl (decide (sdW q=0))) else eqV (V.bl (decide (sdW r=0))) (V.bl (decide (sdW q=0))))=decide (sdW r=sdW q):=by
    rw[yE (by decide)];have h1:=@qe3 r;have h2:=@qe3 q;unfold eqV;rw[yT,yC];simp only[Yo,yY];lk
   rw[e];ext
   have am:sdW r≠sdW q:=λz=>by
    have k:=hC.two u (λa b k=>k.elim (λy=>(W.ok _ y).2.1) λy=>(W.ok _ y).1) v (Rc.refl.on j) m1;rw[v _ _ j,qc5 g,qc5 ag,z] at k;have:=k.mp Ky;cases h:c I.1<;>rw[h] at this<;>cases this
   show qE (λhc=>absurd (yl hc) am) λ_=>?_;show⟨rfl,⟨_,_,rfl⟩⟩
  .obtain⟨rfl,y2,y3,rfl⟩:=n;ext;have Wlp:=W.same ah;obtain⟨ai,an,ar,ap,ac,_⟩:=id Wlp.web;show⟨x,ai,_,rfl,ac,zh (by room),?_⟩;apply⟨x,ss,ns,rfl,Wlp.web,λlp ae=>?_⟩;have U:=qw ah (o:=.lst (ss.map V.str)) ae;have Y:=qw (Sr J) (o:=.lst (ss.map V.str)) ae;have L:upd J lp (.lst (ss.map V.str)) lp=some (.lst (ss.map V.str)):=qc;generalize upd J lp (.lst (ss.map V.str))=Jlp at U L Y;have Ylp:=C.same Y;apply .inl ⟨⟨_,.of L⟩,qx (K:=K) (a:=lp) (xs:=ss.map V.str) (λi ys H'=>H'=Jlp/\ys=((ss.take i).filter λs=>decide (sdP m s=0)).map V.str) ⟨rfl,rfl⟩ (λi ys H' _ h=>by rw[h.1];show .of L) (λi y ys H' hx n=>?_) λys H' n=>?_⟩
   .obtain⟨rfl,rfl⟩:=n;rw[ye] at hx;obtain⟨z,O,rfl⟩:=yo.mp hx;have B:ss.take (i+1)=ss.take i++[z]:=by rw[yI,O];rfl
    have al:=(yc.mp O).1;obtain⟨r,g⟩:=get (yf O);obtain⟨ta,Z,p⟩:=qb5 Ylp g;apply .inr ⟨d,_,rfl,Z,?_⟩;apply⟨ta,r,rfl,p,?_⟩;rw[<- qc5 g];apply qE (λhc=>?_) λhc=>?_
    .ext;show⟨?_,rfl,?_⟩
     .rw [ya];show qg (yj (yy _ _) (by rw[yM];lk))
     .rw [B,yZ,yu];simp only[yR,Xx,hc,XB];rfl
    .show⟨rfl,?_⟩;rw[B,yZ,yu];simp only[yR,Xx,hc];simp
   obtain⟨rfl,rfl⟩:=n;rw[show(ss.map V.str).length=ss.length from ya ..,yD];show⟨by rw[ya];show yN (qg (yj (yy _ _) (by lk))),λR N=>?_⟩;have u1:=qw U (o:=.lst ((ss.filter λs=>decide (sdP m s=0)).map V.str)) N;have v1:=qw Y (o:=.lst ((ss.filter λs=>decide (sdP m s=0)).map V.str)) N;have f1:=U.free N;have e1:upd H' R (.lst ((ss.filter λs=>decide (sdP m s=0)).map V.str)) R=some (.lst ((ss.filter λs=>decide (sdP m s=0)).map V.str)):=qc;generalize upd H' R (.lst ((ss.filter λs=>decide (sdP m s=0)).map V.str))=J1 at u1 v1 e1;have Y1:=C.same v1;ext;have Wlq:=W.same u1;obtain⟨aj,ao,as,aq,ad,_⟩:=id Wlq.web;show⟨x,aj,_,rfl,ad,zh (by room),?_⟩;apply⟨x,ss,ns,rfl,Wlq.web,λlq af=>?_⟩;have X:=qw u1 (o:=.lst (ss.map V.str)) af;have G:=qw (Sr J1) (o:=.lst (ss.map V.str)) af;have M:upd J1 lq (.lst (ss.map V.str)) lq=some (.lst (ss.map V.str)):=qc;generalize upd J1 lq (.lst (ss.map V.str))=Jlq at X M G;have Ylq:=Y1.same G;apply .inl ⟨⟨_,.of M⟩,qx (K:=K) (a:=lq) (xs:=ss.map V.str) (λi ys H'=>H'=Jlq/\ys=((ss.take i).filter λs=>!decide (sdP m s=0)).map V.str) ⟨rfl,rfl⟩ (λi ys H' _ h=>by rw[h.1];show .of M) (λi y ys H' hx n=>?_) λys H' n=>?_⟩
   .obtain⟨rfl,rfl⟩:=n;rw[ye] at hx;obtain⟨z,O,rfl⟩:=yo.mp hx;have B:ss.take (i+1)=ss.take i++[z]:=by rw[yI,O];rfl
    have al:=(yc.mp O).1;obtain⟨r,g⟩:=get (yf O);obtain⟨ta,Z,p⟩:=qb5 Ylq g;apply .inr ⟨d,_,rfl,Z,?_⟩;apply⟨ta,r,rfl,p,?_⟩;rw[<- qc5 g];apply qE (λhc=>?_) λhc=>?_
    .ext;show⟨?_,rfl,?_⟩
     .rw [ya];show qg (yj (yy _ _) (by rw[yM];lk))
     .rw [B,yZ,yu];simp only[yR,Xx,hc,XB];rfl
    .show⟨rfl,?_⟩;rw[B,yZ,yu];simp only[yR,Xx,hc];simp
   obtain⟨rfl,rfl⟩:=n;rw[show(ss.map V.str).length=ss.length from ya ..,yD];show⟨by rw[ya];show yN (qg (yj (yy _ _) (by lk))),λS A=>?_⟩;have u2:=qw X (o:=.lst ((ss.filter λs=>!decide (sdP m s=0)).map V.str)) A;have v2:=qw G (o:=.lst ((ss.filter λs=>!decide (sdP m s=0)).map V.str)) A;have f2:=X.free A;have ay:R≠S:=λz=>by rw[<- z,G _ _ e1] at A;cases A
   have e2:upd H' S (.lst ((ss.filter λs=>!decide (sdP m s=0)).map V.str)) S=some (.lst ((ss.filter λs=>!decide (sdP m s=0)).map V.str)):=qc;generalize upd H' S (.lst ((ss.filter λs=>!decide (sdP m s=0)).map V.str))=J2 at u2 v2 e2;apply⟨wqqn,λt ht=>?_⟩;have u3:=qw u2 (o:=.tup [.ref R,.ref S]) ht;have v3:=qw (Sr J2) (o:=.tup [.ref R,.ref S]) ht;show qy (λs=>decide (sdP m s=0)) t R S _ u3 (λa b ha k=>by have:=hC.two u (λa b k=>k.elim (λy=>(W.ok _ y).2.1) λy=>(W.ok _ y).1) v k ha;rw[<- this];show yY) qc (v3 _ _ (v2 _ _ e1)) (v3 _ _ e2)
theorem ok_sdO(F:Fun K "sides_of" "sides_of" jO f fd)(T:Txt K mg cc cw)(Vc:XMakeOk P w K mg base 2 (cc 3) "Odd" wq3 (spX (cc 3) (qec 3)))(Ud:wqqh 8 "ways_in" wqqd (spWi cw))(S:wqqh 1 "on_first_side" ["way"] spOfs)(vQ:wqqh 1 "ring_of" ["one","other"] spRo)(KY:wqqi 7 cw "ties" wa (spTs cw))(KG:wqqi 1 cw "places" wa (spPls cw)):FnOk P w K mg base (CX1 P w) 9 f fd wqqd (spSdO cc cw):=by
 show F.ok1 KD (λvs H Q E h=>?_) λ_ _ _ s H vs Q E n h=>?_
 .cases h;subst_vars;rfl
 .obtain⟨x,ss,ns,tps,rfl,W,aa,qn⟩:=h;have A:=jw n;show⟨_,(qd (qr (i:=1) KD.nd rfl (xK rfl) (qm Ud (hmR n) qv (qa (pv 0) qb)))
 (qd (jq PassesOwn.leaving rfl (qc2 (K:=K) rfl (qz KY (hmR n) (pv 0))) (qbh rfl (qU (qp (i:=2) KD.nd rfl (yG rfl)) (qU (qp (i:=3) KD.nd rfl (yG rfl)) qaf)))
 (qe (qG (qj (jo (K:=K) rfl A) (qm S (hmR n) qv (qa (qA (qB (K:=K) rfl A) (pv 1) (pv 2) (λ_ _=>rfl)) qb)) (qm S (hmR n) qv (qa (qA (qB (K:=K) rfl A) (pv 1) (pv 3) (λ_ _=>rfl)) qb)) (qu _)) (qe (qei (K:=K) rfl qZ (qhx Vc (hmR n) (qa (qm vQ (hmR n) qv (qa (qA (qB (K:=K) rfl A) (pv 1) (pv 2) (λ_ _=>rfl)) (qa (qA (qB (K:=K) rfl A) (pv 1) (pv 3) (λ_ _=>rfl)) qb))) qb)))) qt)))
 (qd (qay (sc:=qf jO) (XN:=wqo) wqH 1 [1] rfl rfl rfl (by room) rfl (by room) (i:=4) KD.nd rfl rfl
  (qL (K:=K) rfl (qz KG (hmR n) (pv 0))) (λ_ _ _ _=>(qp (i:=0) (show(wqH:LS).Nodup by room) rfl (yG rfl))) qF
  (λ_ _ _ _=>(qJ (qD (qm S (hmR n) qv (qa (qA (qB (K:=K) rfl A) (pv 1) (pv 0) (λ_ _=>rfl)) qb)))))
  (λ_ _ _ _=>(pv 0)))
 (qd (qay (sc:=qf jO) (XN:=wqo) wqH 1 [1] rfl rfl rfl (by room) rfl (by room) (i:=5) KD.nd rfl rfl
  (qL (K:=K) rfl (qz KG (hmR n) (pv 0))) (λ_ _ _ _=>(qp (i:=0) (show(wqH:LS).Nodup by room) rfl (yG rfl))) qF
  (λ_ _ _ _=>(qJ (qP (qD (qm S (hmR n) qv (qa (qA (qB (K:=K) rfl A) (pv 1) (pv 0) (λ_ _=>rfl)) qb))))))
  (λ_ _ _ _=>(pv 0)))
 (qe (qi (ji (qa (pv 4) (qa (pv 5) qb))))))))),?_⟩
  apply⟨x,ss,ns,tps,rfl,W,λd m H1 s1 hY D I=>?_⟩;apply qfl ?_;ext;have W1:=W.same s1;obtain⟨wx,dd,ol,nn,hb,ac,af,ae,hw⟩:=id W1.web;show⟨x,wx,_,rfl,hb,zh (by room),?_⟩;apply⟨x,ss,ns,rfl,W1.web,λl ts H2 s2 ad hl _ X=>?_⟩;have N:=s1.trans s2;have G:=hY.same s2;have few:=W.wok.few;have O:∀ a b,tA tps a b->tA tps b a:=λa b k=>k.symm;have R:∀ a,¬ tA tps a a:=λa k=>k.elim (λy=>(W.ok _ y).2.2 rfl) λy=>(W.ok _ y).2.2 rfl
  have get:∀{s},s∈ss->∃ r,m s=some r:=λ{s} hs=>by
   cases e:m s with
   | none=>show absurd e (I s hs)
   | some r=>show⟨r,rfl⟩
  show⟨l,_,rfl,.of hl,jX (xs:=ts.map V.ref) (λi σ J=>J=H2/\(∃ y2 y3,σ=[some (.ref x),some (.ref d),y2,y3,none,none])/\∀ c∈(zj ss ns ss.length).take i,sdP m c.1≠sdP m c.2) ⟨rfl,⟨_,_,rfl⟩,λc h=>by simp at h⟩ (λi σ J _ L=>by rw[L.1];show .of hl) (λi y σ J hy L=>?_) fun σ J L=>?_⟩
  .obtain⟨rfl,⟨y2,y3,rfl⟩,g⟩:=L;rw[ye] at hy;obtain⟨t,ht,rfl⟩:=yo.mp hy;obtain⟨c,v⟩:∃ c,(zj ss ns ss.length)[i]?=some c:=⟨_,yb (by rw[<- X.len];show(yc.mp ht).1)⟩;obtain⟨_,_,et⟩:=X.at_ i t c ht v;have o:tA tps c.1 c.2:=((qcI W.wok W.adj).mp (yf v)).1;have m1:c.1∈ss:=o.elim (λk=>(W.ok _ k).1) λk=>(W.ok _ k).2.1;have m2:c.2∈ss:=o.elim (λk=>(W.ok _ k).2.1) λk=>(W.ok _ k).1;obtain⟨r,u⟩:=get m1;obtain⟨q,p⟩:=get m2;obtain⟨ta,ga,B⟩:=qb5 G u;obtain⟨tb,gb,C⟩:=qb5 G p;show⟨t,_,rfl,.of et,rfl,_,_,rfl,_,_,rfl,rfl,?_⟩;apply .inr ⟨d,_,rfl,ga,?_⟩;apply⟨ta,r,rfl,B,?_⟩;apply .inr ⟨d,_,rfl,gb,?_⟩;apply⟨tb,q,rfl,C,?_⟩;show .inl (.inl (.inl ⟨rfl,rfl,?_⟩))
   have e:(if false=true then !eqV (V.bl (decide (sdW r=0))) (V.bl (decide (sdW q=0))) else eqV (V.bl (decide (sdW r=0))) (V.bl (decide (sdW q=0))))=decide (sdW r=sdW q):=by
    rw[yE (by decide)];have h1:=@qe3 r;have h2:=@qe3 q;unfold eqV;rw[yT,yC];simp only[Yo,yY];lk
   rw[e];apply qE (λhc=>?_) λhc=>?_
   .have hc:=yl hc;obtain⟨h1,hR⟩:=D.ring O R o u p hc;have l1:=D.wy.few D.inn u;have l2:=D.wy.few D.inn p;apply .inr ⟨d,_,rfl,ga,?_⟩;apply .inr ⟨d,_,rfl,gb,?_⟩;apply⟨ta,tb,r,q,rfl,B,C,by lk,by lk,h1,λlr H3 s3 Z er=>?_⟩;apply qb4 (T.xat 3 (by decide)) λdx H' s' e'=>qn lr dx _ H' ((N.trans s3).trans s') hR (N.free Z) (s' _ _ er) e'
   .have hc:sdW r≠sdW q:=λz=>hc (yx z);show⟨rfl,⟨_,_,rfl⟩,λcd h=>?_⟩;rw[yI,v] at h;rcases yP.mp h with h | h
    .show g cd h
    .rw [yw.mp h,qc5 u,qc5 p];show hc
  .obtain⟨rfl,⟨y2,y3,rfl⟩,g⟩:=L;rw[ya,X.len,yD] at g
   have M:∀ a b,tA tps a b->sdP m a≠sdP m b:=λa b k=>by
    have m1:a∈ss:=k.elim (λz=>(W.ok _ z).1) λz=>(W.ok _ z).2.1;have m2:b∈ss:=k.elim (λz=>(W.ok _ z).2.1) λz=>(W.ok _ z).1;obtain⟨i,Y⟩:=yg m1;obtain⟨j,U⟩:=yg m2;rcases Nat.lt_trichotomy i j with z | z | z
    .show g (a,b) ((qcI W.wok W.adj).mpr ⟨k,i,j,z,Y,U⟩)
    .subst z;rw[Y] at U;cases U;show absurd k (R a)
    .show Yw (g (b,a) ((qcI W.wok W.adj).mpr ⟨O _ _ k,j,i,z,U,Y⟩))
   show absurd ⟨λs=>decide (sdP m s=0),λa b k=>?_⟩ aa;have e:=M a b k;have h1:=qhe m a;have h2:=qhe m b;show decide (sdP m b=0)=!decide (sdP m a=0);rcases(by lk:sdP m a=0\/sdP m a=1) with k1 | k1<;>rcases(by lk:sdP m b=0\/sdP m b=1) with k2 | k2<;>rw[k1,k2] at e ⊢<;>first | show absurd rfl e | rfl
theorem vv:FnScope wqk wqk (qf qa6):=fS
theorem U9:FnScope wqL wqL (qf qaE):=fS
theorem Uj:FnScope wqk wqk (qf jB):=fS
theorem va:FnScope wqk wqk (qf qaF):=fS
theorem qf2{X:L2.Cx}{st:List PySem.Stmt}{t:L2.TS}(t':L2.TS)(h:L2.PSs X st t)(k:∀ D σ H,t' D σ H->t D σ H):L2.PSs X st t':=λa s σ H D I q=>h a s σ H D I (k D σ H q)
theorem qgr(a:L2.Same H H1)(hl:H l=none):L2.Same H (upd H1 l o):=λc u e=>by
 have:c≠l:=λz=>by rw[z,hl] at e;cases e
 rw[qo this];show a c u e
theorem zl(a b:Int):(if false=true then !eqV (V.int a) (V.int b) else eqV (V.int a) (V.int b))=decide (a=b):=by
 rw[yE (by decide)];unfold eqV;by_cases h:a=b<;>simp[h]
abbrev iv(n:Nat):V:=.int (n:Int)
abbrev ivs(L:LN):List V:=L.map iv
inductive spWh(vs:List V)(H:Hp)(Q:VK)(E:XK):Prop|mk (n:Nat) (_:vs=[iv n]) (_:Q (.bl true) H)
inductive spIn(vs:List V)(H:Hp)(Q:VK)(E:XK):Prop|mk (n:Nat) (hi:Int) (_:vs=[iv n,.int 0,.int hi]) (_:(n:Int)<=hi) (_:Q (.bl true) H)
inductive spSm(vs:List V)(H:Hp)(Q:VK)(E:XK):Prop|mk (n:Nat) (_:vs=[iv n]) (_:n<2 ^ 30) (_:Q (.bl true) H)
structure GoodL(H:Hp)(p:Addr)(L:LN):Prop where
 at_:H p=some (.lst (ivs L))
 len:L.length<=40
 lt:∀ n∈L,n<2 ^ 30
theorem GoodL.same(h:GoodL H p L)(s:L2.Same H H'):GoodL H' p L:=⟨s _ _ h.at_,h.len,h.lt⟩
inductive spMb(vs:List V)(H:Hp)(Q:VK)(E:XK):Prop|mk (p:Addr) (L:LN) (_:vs=[.ref p]) (_:GoodL H p L) (_:∀ H',L2.Same H H'->Q .non H')
theorem ok_wh(F:Fun K "is_whole" "is_whole" qa6 f fd)(T:Txt K mg cc cw):wqqj 1 f fd wqk spWh:=by
 show F.ok vv λ_ _ _ _ H vs Q E b h=>?_
 .obtain⟨v,rfl,a⟩:=h;have c:=jw b;show⟨_,(qe (qi (qal (qk (zi (K:=K) rfl) rfl T.b_isinstance Yi (qa (pv 0) (qa (jh (v:=.ty "int") rfl T.b_int boot_int rfl) qb))) (zU (qdC (qk (zi (K:=K) rfl) rfl T.b_isinstance Yi (qa (pv 0) (qa (jh (v:=.ty "bool") rfl T.b_bool boot_bool rfl) qb)))))))),?_⟩;apply qaB (.inl (.int _)) rfl (jQ K "int" (by simp) "int" (by simp)) ?_;apply jv ?_;apply qaB (.inl (.int _)) rfl (jQ K "int" (by simp) "bool" (by simp)) ?_;show⟨_,rfl,a⟩
theorem ok_in(F:Fun K "is_within" "is_within" qaE f fd)(c:wqqh 1 "is_whole" wqk spWh):wqqj 2 f fd wqL spIn:=by
 show F.ok U9 λ_ _ _ _ H vs Q E b h=>?_
 .obtain⟨n,d,rfl,hl,a⟩:=h;show⟨_,(qe (qi (qal (qm c (hmR b) qv (qa (pv 0) qb)) (zU (qc9 qgp qgp (pv 1) (pv 0) (pv 2)))))),?_⟩;apply⟨n,rfl,?_⟩;apply jv ?_;ext;rw[yx (show(0:Int)<=n by lk)];show jv ?_;ext;rw[yx hl];show a
theorem ok_sm(F:Fun K "is_summed" "is_summed" qaF f fd)(T:Txt K mg cc cw)(c:wqqh 2 "is_within" wqL spIn):wqqj 3 f fd wqk spSm:=by
 show F.ok va λ_ _ _ _ H vs Q E b h=>?_
 .obtain⟨n,rfl,hl,a⟩:=h;show⟨_,(qe (qi (qm c (hmR b) qv (qa (pv 0) (qa qh (qa (qaz rfl T.g_HIGHEST_SUMMED) qb)))))),?_⟩;apply⟨n,1073741823,rfl,by lk,a⟩
theorem ok_mb(F:Fun K "must_be_summed" "must_be_summed" jB f fd)(T:Txt K mg cc cw)(s:wqqh 3 "is_summed" wqk spSm):wqqj 4 f fd wqk spMb:=by
 show F.ok Uj λ_ _ _ _ H vs Q E j h=>?_
 .obtain⟨p,L,rfl,g,q⟩:=h;have t:=jw j;have b:=g.at_;have d:=g.len;show⟨_,(qe (qG (PW.pt (zI (qP (qD (qk (zi (K:=K) rfl) rfl T.b_isinstance Yi (qa (pv 0) (qa (jh (v:=.ty "list") rfl T.b_list Xe rfl) qb))))) (zI (qj qdI (qk (j8 (K:=K) rfl) rfl T.b_len Yv (qa (pv 0) qb)) (qaz rfl T.g_MOST_SUMMED) (qu _)) (za (qP (qD (qk (qdW (K:=K) rfl rfl) rfl T.b_all kM (qa (qK (sc:=qf jB) (XN:=wqk) ["one"] 1 [] rfl rfl rfl (by room) rfl (by room)
  (qL (K:=K) rfl (pv 0)) (λ_ _ _ _=>(qp (i:=0) (show(["one"]:LS).Nodup by room) rfl (yG rfl))) qF
  (λ_ _ _ _=>jl)
  (λ_ _ _ _=>(qm s (hmR j) qv (qa (pv 0) qb)))) qb)))))))) (qe jk) qt)),?_⟩
  apply qaB (.inl (.lst b)) rfl (jQ K "list" (by simp) "list" (by simp)) ?_;apply yr ?_;apply zK b ?_;ext;rw[ym (show ¬ ((ivs L).length:Int)>40 by rw[ya];lk)];show yr ?_;apply .inl ⟨⟨_,.of b⟩,qx (xs:=ivs L) (λi ys H'=>H'=H/\ys=(L.take i).map λ_=>V.bl true) ⟨rfl,by simp⟩ (λi ys H' _ a=>by rw[a.1];show .of b) (λi x ys H' l a=>?_) λys H' a=>?_⟩
  .obtain⟨rfl,rfl⟩:=a;rw[ye] at l;obtain⟨n,e,rfl⟩:=yo.mp l;apply jv ?_;apply⟨n,rfl,g.lt n (yf e),?_⟩;show⟨by rw[ya,yM];show qg (by lk),rfl,?_⟩;rw[yI,e,yu];rfl
  .obtain⟨rfl,rfl⟩:=a;rw[show(ivs L).length=L.length from ya ..,yD];show⟨by rw[ya];show yN (qg (by lk)),λr c=>?_⟩;have m:=qw (Sr H') (o:=.lst (L.map λ_=>V.bl true)) c;apply⟨r,L.map λ_=>true,rfl,.of (by rw[YE];show qc),?_⟩;ext;rw[show(L.map λ_=>true).all id=true by simp];show yr ?_;apply q _ m
theorem ug:FnScope ["numbers","steps","at","number","step"] wq9 (qf qa7):=fS
theorem uV:FnScope ["step","steps","other"] wqqc (qf qa8):=fS
abbrev qf3(s:Nat×Nat):HO:=.tup [iv s.1,iv s.2]
def StpAt(H:Hp)(l:Addr)(st:List (Nat×Nat)):Prop:=∃ a:LI,H l=some (.lst (a.map V.ref))/\a.length=st.length/\∀(i:Nat) r o,a[i]?=some r->st[i]?=some o->H r=some (qf3 o)
theorem StpAt.same{st:List (Nat×Nat)}(h:StpAt H l st)(s:L2.Same H H'):StpAt H' l st:=by
 obtain⟨e,h1,c,d⟩:=h;show⟨e,s _ _ h1,c,λi r o a b=>s _ _ (d i r o a b)⟩
theorem les_cons(s o:Nat×Nat)(a:List (Nat×Nat)):les s (o::a)=if s.1 ^^^ o.1<s.1 then les (s.1 ^^^ o.1,s.2 ^^^ o.2) a else les s a:=rfl
theorem drop_at{xs:List α}{x:α}(h:xs[i]?=some x):xs.drop i=x::xs.drop (i+1):=by
 obtain⟨hl,e⟩:=yc.mp h;rw[List.drop_eq_getElem_cons hl,e]
inductive spLes(vs:List V)(H:Hp)(Q:VK)(E:XK):Prop|mk (a l:Addr) (s:Nat×Nat) (st:List (Nat×Nat)) (_:vs=[.ref a,.ref l]) (_:H a=some (qf3 s)) (_:StpAt H l st) (_:∀(r:Addr) (H':Hp),L2.Same H H'->H' r=some (qf3 (les s st))->Q (.ref r) H')
inductive spSts(vs:List V)(H:Hp)(Q:VK)(E:XK):Prop|mk (p:Addr) (L:LN) (_:vs=[.ref p]) (_:GoodL H p L) (_:∀(l:Addr) (H':Hp),L2.Same H H'->H l=none->StpAt H' l (sts L L.length)->Q (.ref l) H')
theorem ok_les(F:Fun K "lessened" "lessened" qa8 f fd):wqqj 1 f fd wqqc spLes:=by
 show F.ok uV λ_ _ _ _ H vs Q E D h=>?_
 .obtain⟨a,l,A,st,rfl,B,⟨I,hl,t,s⟩,q⟩:=h;have g:=jw D;show⟨_,(qd (jq yX rfl (qL (K:=K) rfl (pv 1)) (qp (i:=2) uV.nd rfl (yG rfl))
 (qe (qG (qj qdH (qM qeB (qA (qB (K:=K) rfl g) (pv 0) qh (λ_ _=>rfl)) (qA (qB (K:=K) rfl g) (pv 2) qh (λ_ _=>rfl))) (qA (qB (K:=K) rfl g) (pv 0) qh (λ_ _=>rfl)) (qu _)) (qe (qr (i:=0) uV.nd rfl (yG rfl) (ji (qa (qM qeB (qA (qB (K:=K) rfl g) (pv 0) qh (λ_ _=>rfl)) (qA (qB (K:=K) rfl g) (pv 2) qh (λ_ _=>rfl))) (qa (qM qeB (qA (qB (K:=K) rfl g) (pv 0) qh (λ_ _=>rfl)) (qA (qB (K:=K) rfl g) (pv 2) qh (λ_ _=>rfl))) qb))))) qt)))
 (qe (qi (pv 0)))),?_⟩
  apply .inl ⟨⟨_,.of hl⟩,jX (xs:=I.map V.ref) (λi σ H'=>L2.Same H H'/\∃ r c x,σ=[some (.ref r),some (.ref l),x]/\H' r=some (qf3 c)/\les c (st.drop i)=les A st) ⟨L2.Same.refl H,a,A,none,rfl,B,rfl⟩ (λi σ H' _ j=>.of (j.1 _ _ hl)) (λi x σ H' z j=>?_) fun σ H' j=>?_⟩
  .obtain⟨p,r,c,y,rfl,b,hc⟩:=j;rw[ye] at z;obtain⟨G,n,rfl⟩:=yo.mp z;have d:i<st.length:=by rw[<- t];show(yc.mp n).1
   obtain⟨o,u⟩:∃ o,st[i]?=some o:=⟨_,yb d⟩;have e:=p _ _ (s i G o n u);rw[drop_at u,les_cons] at hc;apply .inl (qbU b (v:=iv c.1) rfl ?_);apply .inl (qbU e (v:=iv o.1) rfl ?_);ext;rw[qeY];show .inl (qbU b (v:=iv c.1) rfl ?_);ext;by_cases d:c.1 ^^^ o.1<c.1
   .rw [yH d] at hc;rw[yx (show((c.1 ^^^ o.1:Nat):Int)<(c.1:Int) by lk)];show jv ?_;apply .inl (qbU b (v:=iv c.1) rfl ?_);apply .inl (qbU e (v:=iv o.1) rfl ?_);ext;rw[qeY];show .inl (qbU b (v:=iv c.2) rfl ?_);apply .inl (qbU e (v:=iv o.2) rfl ?_);ext;rw[qeY];show⟨wqqn,λm C=>?_⟩;apply⟨qw p C,m,(c.1 ^^^ o.1,c.2 ^^^ o.2),_,rfl,qc,hc⟩
   .rw [yE d] at hc;rw[ym (show ¬ ((c.1 ^^^ o.1:Nat):Int)<(c.1:Int) by lk)];show yr ?_;apply⟨p,r,c,_,rfl,b,hc⟩
  .obtain⟨p,r,c,y,rfl,b,hc⟩:=j;rw[ya,t,List.drop_length] at hc;apply q r H' p (by rw[<- hc];show b)
theorem ok_sts(F:Fun K "steps_of" "steps_of" qa7 f fd)(T:Txt K mg cc cw)(uZ:wqqh 1 "lessened" wqqc spLes):wqqj 2 f fd wq9 spSts:=by
 show F.ok ug λ_ _ _ _ H vs Q E U h=>?_
 .obtain⟨p,L,rfl,g,q⟩:=h;have W:=jw U;show⟨_,(qd (qr (i:=1) ug.nd rfl (yG rfl) (qS qb))
 (qd (jq yX rfl (qfR (K:=K) rfl rfl T.b_enumerate (qa (pv 0) qb)) (qbh rfl (qU (qp (i:=2) ug.nd rfl (yG rfl)) (qU (qp (i:=3) ug.nd rfl (yG rfl)) qaf)))
 (qd (qr (i:=4) ug.nd rfl (yG rfl) (qm uZ (hmR U) qv (qa (ji (qa (pv 3) (qa (qM qdF qh (pv 2)) qb))) (qa (pv 1) qb))))
 (qe (qG (qj (zT (K:=K) rfl W) (qA (qB (K:=K) rfl W) (pv 4) qh (λ_ _=>rfl)) qh (qu _)) (qe (qN (qeb (K:=K) rfl yV Ym Yn je (pv 1) (qa (pv 4) qb)))) qt))))
 (qe (qi (pv 1))))),?_⟩
  apply⟨wqql,λl hl=>?_⟩;ext;have Y:=qw (Sr H) (o:=.lst []) hl;show⟨p,_,rfl,.of (Y _ _ g.at_),qeR (xs:=ivs L) (λi σ H'=>L2.Same H H'/\StpAt H' l (sts L i)/\∃ x y z,σ=[some (.ref p),some (.ref l),x,y,z]) ⟨Y,⟨[],qc,rfl,λi r o h=>by cases h⟩,_,_,_,rfl⟩ (λi σ H' _ e=>.of (e.1 _ _ g.at_)) (λi x t σ H' X ht e=>?_) fun σ H' e=>?_⟩
  .obtain⟨N,B,x0,y0,z0,rfl⟩:=e;rw[ye] at X;obtain⟨n,S,rfl⟩:=yo.mp X;have hi:i<L.length:=(yc.mp S).1;have I:=qeX g.lt i (by lk);have Z:=qw (Sr H') (o:=.tup [.int i,iv n]) ht;show⟨t,_,rfl,.of qc,rfl,_,_,rfl,_,_,rfl,rfl,?_⟩;have a:=B.same Z;have u:=N.trans Z;generalize upd H' t (.tup [.int i,iv n])=H3 at a u ⊢;apply vI ⟨by lk,by have:=g.len;lk,by decide⟩ ?_;ext;have e1:(1*2 ^ (i:Int).toNat:Int)=((1 <<< i:Nat):Int):=by rw[Ye,Int.one_mul,kU,XW];rfl
   rw[e1];show⟨wqqn,λm hm=>?_⟩;ext;have O:=qw (Sr H3) (o:=qf3 (n,1 <<< i)) hm;show⟨m,l,(n,1 <<< i),sts L i,rfl,qc,a.same O,λr H5 s5 s=>?_⟩;have d:=(a.same O).same s5;have A:=(u.trans O).trans s5;apply .inl (qbU s (v:=iv (les (n,1 <<< i) (sts L i)).1) rfl ?_);apply .inl ⟨rfl,rfl,?_⟩;have ev:L.getD i 0=n:=by rw[Yg,S];rfl
   have es:sts L (i+1)=stp (sts L i) i n:=by show stp (sts L i) i (L.getD i 0)=_;rw[ev]
   have e2:(if true=true then !eqV (iv (les (n,1 <<< i) (sts L i)).1) (V.int 0) else eqV (iv (les (n,1 <<< i) (sts L i)).1) (V.int 0))=!decide ((les (n,1 <<< i) (sts L i)).1=0):=by
    have:=zl ((les (n,1 <<< i) (sts L i)).1:Int) 0;rw[yE (by decide)] at this;rw[yH rfl,this]
    congr 2
    apply propext;lk
   rw[e2];unfold stp at es;by_cases C:(les (n,1 <<< i) (sts L i)).1=0
   .rw [yH C] at es;rw[yx C];apply yr ?_;apply⟨A,by rw[es];show d,_,_,_,rfl⟩
   .rw [yE C] at es;rw[ym C];apply jv ?_;obtain⟨M,h1,D,h3⟩:=d;apply⟨.inl ⟨rfl,_,.of h1⟩,?_⟩;apply⟨l,_,_,rfl,rfl,h1,by rw[ya,D];have:=I.len;have:=g.len;show qg (by lk),?_⟩;show⟨qgr A hl,⟨M++[r],by rw[qc,yu];rfl,by rw[es,yK,yK,D];rfl,λj J o b c=>?_⟩,_,_,_,rfl⟩;rw[es] at c
    have key:H5 J=some (qf3 o):=by
     by_cases G:j<M.length
     .rw [yQ G] at b;rw[yQ (by lk)] at c;show h3 j J o b c
     .rw [Yc (by lk)] at b;rw[Yc (by lk)] at c
      have R:j-M.length=0:=by
       have:=(yc.mp b).1;simp only[Yk,xr] at this;lk
      rw[R] at b;rw[<- D,R] at c;cases b;cases c;show s
    have:J≠l:=λz=>by rw[z,h1] at key;cases key
    rw[qo this];show key
  .obtain⟨N,B,x0,y0,z0,rfl⟩:=e;rw[ya] at B;apply q l H' N hl B
theorem vb:FnScope ["numbers","goal","rest"] wq6 (qf qcJ):=fS
def pkL(L:LN)(g:Nat):LN:=(List.range L.length).filter λi=>(qcU L g).testBit i
inductive spPk(vs:List V)(H:Hp)(Q:VK)(E:XK):Prop|mk (p:Addr) (L:LN) (g:Nat) (_:vs=[.ref p,iv g]) (_:GoodL H p L) (_:g<2 ^ 30) (_:(¬ Spn L g->∀ H',L2.Same H H'->Q .non H')) (_:(Spn L g->∀ l H',L2.Same H H'->H l=none->H' l=some (.lst (ivs (pkL L g)))->Q (.ref l) H'))
theorem ok_pk(F:Fun K "picks" "picks" qcJ f fd)(T:Txt K mg cc cw)(B:wqqh 4 "must_be_summed" wqk spMb)(W:wqqh 3 "is_summed" wqk spSm)(X:wqqh 1 "lessened" wqqc spLes)
  (Y:wqqh 2 "steps_of" wq9 spSts) (A:wqqh 1 "has_bit" wqD spBit):wqqj 5 f fd wq6 spPk:=by
 show F.ok vb λ_ _ _ _ H vs Q E b h=>?_
 .obtain⟨p,L,g,rfl,G,c,N,O⟩:=h;have s:=jw b;show⟨_,(qd (qN (qm B (hmR b) qv (qa (pv 0) qb)))
 (qd (qG (qP (qD (qm W (hmR b) qv (qa (pv 1) qb)))) (qe jk) qt)
 (qd (qr (i:=2) vb.nd rfl (xK rfl) (qm X (hmR b) qv (qa (ji (qa (pv 1) (qa qh qb))) (qa (qm Y (hmR b) qv (qa (pv 0) qb)) qb))))
 (qd (qG (qj (zT (K:=K) rfl s) (qA (qB (K:=K) rfl s) (pv 2) qh (λ_ _=>rfl)) qh (qu _)) (qe (qi qaP)) qt)
 (qe (qi (qK (sc:=qf qcJ) (XN:=["numbers","goal","rest"]) ["at","rest"] 1 [2] rfl rfl rfl (by room) rfl (by room)
  (jz rfl T.b_range (qa (qk (j8 (K:=K) rfl) rfl T.b_len Yv (qa (pv 0) qb)) qb)) (λ_ _ _ _=>(qp (i:=0) (show(["at","rest"]:LS).Nodup by room) rfl (yG rfl))) qF
  (λ_ _ _ _=>(qJ (qD (qm A (hmR b) qv (qa (qA (qB (K:=K) rfl s) (pv 1) qh (λ_ _=>rfl)) (qa (pv 0) qb))))))
  (λ_ _ _ _=>(pv 0))))))))),?_⟩
  ext
  .show⟨p,L,rfl,G,λH1 S=>?_⟩;apply⟨g,rfl,c,?_⟩;apply yr ?_;apply⟨wqqn,λm M=>?_⟩;ext;have t:=qw S (o:=qf3 (g,0)) M;have d:upd H1 m (qf3 (g,0)) m=some (qf3 (g,0)):=qc;have C:upd H1 m (.tup [V.int g,V.int 0])=upd H1 m (qf3 (g,0)):=rfl;rw[C];generalize upd H1 m (qf3 (g,0))=H2 at t d ⊢;show⟨p,L,rfl,G.same t,λl Z x J I=>?_⟩;apply⟨m,l,(g,0),_,rfl,x _ _ d,I,λr y U j=>?_⟩;have a:=(t.trans x).trans U;apply .inl (qbU j (v:=iv (les (g,0) (sts L L.length)).1) rfl ?_);apply .inl ⟨rfl,rfl,?_⟩
   have D:(if true=true then !eqV (iv (les (g,0) (sts L L.length)).1) (V.int 0) else eqV (iv (les (g,0) (sts L L.length)).1) (V.int 0))=!decide ((les (g,0) (sts L L.length)).1=0):=by
    have:=zl ((les (g,0) (sts L L.length)).1:Int) 0;rw[yE (by decide)] at this;rw[yH rfl,this]
    congr 2
    apply propext;lk
   rw[D];by_cases n:(les (g,0) (sts L L.length)).1=0
   .rw [yx n];apply yr ?_;apply zK (a _ _ G.at_) ?_;rw[ya];have u:=G.len;show⟨(L.length:Int),rfl,by lk,by lk,?_⟩;rw[Ye];show qcZ (lo:=0) (λi ys H'=>H'=y/\ys=ivs ((List.range i).filter λi=>(qcU L g).testBit i)) ⟨rfl,rfl⟩ (λi ys H' hi q=>?_) λys H' q=>?_
    .obtain⟨rfl,rfl⟩:=q;rw[xN];apply .inl (qbU j (v:=iv (les (g,0) (sts L L.length)).2) rfl ?_);apply⟨_,(i:Int),rfl,by lk,?_⟩;ext;rw[bit_nat,Xd,yZ,yR];show if (qcU L g).testBit i=true then _ else _
     cases eb:(qcU L g).testBit i with
     | true =>
      show jv ?_;apply⟨?_,rfl,?_⟩
      .rw [ya];have:=yy (λi=>(qcU L g).testBit i) (List.range i);rw[YF] at this;show qg (by lk)
      .rw [yH rfl];show _=List.map iv _;rw[yu];rfl
     | false =>
      show yr ?_;show⟨rfl,?_⟩;rw[yE (by decide)];simp
    .obtain⟨rfl,rfl⟩:=q;show⟨?_,λR e=>?_⟩
     .rw [ya];have:=yy (λi=>(qcU L g).testBit i) (List.range L.length);rw[YF] at this;show yN (qg (by lk))
     .show O ((qcG G.lt g).mp n) R _ (qw a e) (a.free e) qc
   .rw [ym n];apply jv ?_;apply N (λz=>n ((qcG G.lt g).mpr z)) _ a
theorem vc:FnScope wqQ wqQ (qf qaG):=fS
theorem uy:FnScope ["_law_cell","_law_found","_law_number","_law_k"] ["_law_cell"] (qf qdo):=fS
theorem UY:FnScope ["_law_box_here","_law_many","_law_found"] wqs (qf qcq):=fS
inductive spCa(K:W.Frag)(vs:List V)(H:Hp)(Q:VK)(E:XK):Prop|mk (a:Addr) (ns:LQ) (k:Nat) (_:vs=[.ref a,.int (k:Int)]) (_:SqL K H a (ns.map V.int)) (_:k<1000) (_:∀ i:Int,Q (.int i) H)
def Bx(H:Hp)(p:Addr):Prop:=∃ v:Int,0<=v/\H p=some (.lst [.int v])
inductive spBx(vs:List V)(H:Hp)(Q:VK)(E:XK):Prop|mk (c:Int) (_:vs=[.int c]) (_:∀(p:Addr) (H':Hp),L2.Same H H'->H p=none->Bx H' p->Q (.ref p) H')
inductive spTk(vs:List V)(H:Hp)(Q:VK)(E:XK):Prop|mk (p:Addr) (m:Nat) (_:vs=[.ref p,.int (m:Int)]) (_:Bx H p) (_:0<m) (_:m<1000) (_:∀(d:Nat) (H':Hp),d<m->But p H H'->Bx H' p->Q (.int (d:Int)) H')
inductive spNm7(vs:List V)(H:Hp)(Q:VK)(E:XK):Prop|mk (p:Addr) (m:Nat) (_:vs=[.ref p,.int (m:Int)]) (_:Bx H p) (_:m<=14) (_:∀(l:Addr) (ss:LS) (H':Hp),But p H H'->Bx H' p->H l=none->l≠p->H' l=some (.lst (ss.map V.str))->NOk ss->ss.length=m->Q (.ref l) H')
def stepsL:LQ:=[1,3,5,7,9,11,15,17,19,21,23,25]
theorem step_in2{step sh a b:Int}(c:step∈stepsL)(g:0<=a)(hb:0<=b)(d:a<26)(f:b<26)(e:(sh+step*a) % 26=(sh+step*b) % 26):a=b:=by
 have ⟨u,_,h⟩:=(by decide:∀ s∈stepsL,∃ u∈stepsL,s*u % 26=1) step c;have h1:=Int.emod_eq_emod_iff_emod_sub_eq_zero.mp e;have h2:=Int.mul_ediv_add_emod (step*u) 26;have h3:=Int.mul_ediv_add_emod (sh+step*a-(sh+step*b)) 26;rw[h] at h2;rw[h1] at h3
 have k:(a-b)*(step*u)=u*(sh+step*a-(sh+step*b)):=by rw[show sh+step*a-(sh+step*b)=step*(a-b) by rw[Int.mul_sub];omega,Int.mul_comm u,Int.mul_assoc,Int.mul_comm (a-b),Int.mul_assoc,Int.mul_comm u (a-b),<- Int.mul_assoc]
 rw[<- h2,<- h3,Int.mul_add,Int.mul_left_comm,Int.add_zero,Int.mul_left_comm u] at k;generalize (a-b)*(step*u/26)=x at k;generalize u*((sh+step*a-(sh+step*b))/26)=y at k;omega
def cL(first step:Int)(j:Nat):Nat:=97+((first+step*(j:Int)) % 26).toNat
def NmK(way first step:Int)(t j:Nat)(s:Str):Prop:=
 if way=0 then ∃ a:LN,s.cps.toList=cL first step j::a/\a.all sg=true/\a.length<=5
 else if way=1 then s.cps.toList=List.replicate t 109++[cL first step j]
 else if j<6 then s.cps.toList=List.replicate (j+1) (97+first.toNat) else s.cps.toList=[cL first step j]
theorem qhC(first step:Int)(j:Nat):sg (cL first step j)=true:=by
 have h1:=xE (first+step*(j:Int)) (show(26:Int)≠0 by decide);have a:=Xw (first+step*(j:Int)) (show(0:Int)<26 by decide);unfold cL;show qhB (by lk) (by lk)
theorem qd8{step:Int}(c:step∈stepsL){k:Nat}(f:j<14)(g:k<14)(e:cL first step j=cL first step k):j=k:=by
 have h1:=xE (first+step*(j:Int)) (show(26:Int)≠0 by decide);have d:=xE (first+step*(k:Int)) (show(26:Int)≠0 by decide);unfold cL at e;have:=step_in2 (a:=j) (b:=k) (sh:=first) c (by lk) (by lk) (by lk) (by lk) (by lk);lk
theorem NmK.nm{step:Int}{t:Nat}{s:Str}(h:NmK way first step t j s)(d:t<=5)(c:0<=first/\first<26):qah s=true:=by
 unfold NmK at h;split at h
 .obtain⟨f,e,h1,b⟩:=h;show qcp e (by simp) (by simp;lk) ?_;rw[Xy,qhC,h1];rfl
 .split at h
  .show qcp h (by simp) (by simp;lk) ?_;rw[List.all_append,Xy,qhC];have:(List.replicate t 109).all sg=true:=Yr.mpr λx a=>by rw[(List.mem_replicate.mp a).2];show qhB (by decide) (by decide)
   rw[this];rfl
  .split at h
   .show qcp h (by simp) (by simp;lk) ?_;show Yr.mpr λx a=>by rw[(List.mem_replicate.mp a).2];show qhB (by lk) (by lk)
   .show qcp h (by simp) (by simp) ?_;rw[Xy,qhC];rfl
theorem NmK.inj{step:Int}{t k:Nat}{s:Str}(c:step∈stepsL)(m:0<=first/\first<26)(a:j<14)(b:k<14)(h:NmK way first step t j s)(g:NmK way first step t k s):j=k:=by
 have i:cL first step 0=97+first.toNat:=by
  unfold cL;rw[show first+step*((0:Nat):Int)=first by simp,Int.emod_eq_of_lt m.1 m.2]
 unfold NmK at h g;split at h
 .rename_i hw
  rw[yH hw] at g;obtain⟨o,e,_⟩:=h;obtain⟨n,l,_⟩:=g;rw[e] at l;show qd8 c a b (Ks l).1
 .rename_i hw
  rw[yE hw] at g;split at h
  .rename_i hw2
   rw[yH hw2] at g;rw[h] at g;have:=List.append_cancel_left g;show qd8 c a b (Ks this).1
  .rename_i hw2
   rw[yE hw2] at g;split at h<;>split at g
   .rw [h] at g;have:=congrArg List.length g;simp at this;lk
   .rename_i h1 h2
    rw[h] at g;have hl:=congrArg List.length g;simp at hl;have d:j=0:=by lk
    subst d;have:97+first.toNat=cL first step k:=by simpa using g
    rw[<- i] at this;show qd8 c a b this
   .rename_i h1 h2
    rw[h] at g;have hl:=congrArg List.length g;simp at hl;have f:k=0:=by lk
    subst f;have:cL first step j=97+first.toNat:=by simpa using g
    rw[<- i] at this;show qd8 c a b this
   .rw [h] at g;show qd8 c a b (Ks g).1
theorem ok_ca7(F:Fun K "_law_cell_at" "_law_cell_at" qaG f fd)(T:Txt K mg cc cw):wqqj 1 f fd wqQ (spCa K):=by
 show F.ok vc λ_ _ _ _ H vs Q E d h=>?_
 .obtain⟨a,ns,k,rfl,b,h1,q⟩:=h;have e:=jw d;show⟨_,(qd (qG (qj qdH (pv 1) (qk (j8 (K:=K) rfl) rfl T.b_len Yv (qa (pv 0) qb)) (qu _)) (qe (qi (qA (qB (K:=K) rfl e) (pv 0) (pv 1) (λ_ _=>rfl)))) qt)
 (qe (qi qh))),?_⟩
  apply vLenLs b ?_;rw[ya];ext;by_cases c:k<ns.length
  .rw [yx (show(k:Int)<(ns.length:Int) by lk)];show jv ?_;apply .inl (vIxLs b (v:=.int ns[k]) (j7 (by rw[ye,yb c];rfl)) ?_);show q _
  .rw [ym (show ¬ (k:Int)<(ns.length:Int) by lk)];show yr ?_;apply q _
theorem ok_bx(F:Fun K "_law_box" "_law_box" qdo f fd)(T:Txt K mg cc cw):wqqj 1 f fd ["_law_cell"] spBx:=by
 show F.ok uy λ_ _ _ _ H vs Q E s h=>?_
 .obtain⟨c,rfl,q⟩:=h;show⟨_,(qd (qG (qj op_ge (pv 0) (qM op_pow qh qh) (qu _)) (qe (qi (qS (qa (pv 0) qb)))) qt)
 (qd (qr (i:=1) uy.nd rfl (yG rfl) qh)
 (qd (qr (i:=2) uy.nd rfl (yG rfl) (qM (qaN (K:=K) rfl) (qM zJ (pv 0) qh) qh))
 (qd (jq yX rfl (jz rfl T.b_range (qa qh qb)) (qp (i:=3) uy.nd rfl (yG rfl))
 (qd (qr (i:=2) uy.nd rfl (yG rfl) (qM zJ (qM (qaN (K:=K) rfl) (qM (qaN (K:=K) rfl) (qM qdV (pv 2) (pv 2)) (qM qdV qh (pv 2))) (pv 3)) qh))
 (qe (qr (i:=1) uy.nd rfl (yG rfl) (qM (qaN (K:=K) rfl) (qM qdV (pv 1) qh) (qM zJ (qM qdV (pv 2) qh) qh))))))
 (qe (qi (qS (qa (pv 1) qb)))))))),?_⟩
  apply vI ⟨by decide,by decide,by decide⟩ ?_;apply qE (λh=>?_) (λh=>?_)
  .have h:c ≥ 10 ^ (18:Int).toNat:=yl h;apply⟨wqqm,λp d=>q p _ (qw (Sr H) d) d ⟨c,?_,qc⟩⟩;have:(10:Int) ^ (18:Int).toNat=1000000000000000000:=by decide
   lk
  .ext;show vI (by decide) ?_;ext;have l:=xE c (show(2147483647:Int)≠0 by decide);have m:=Xw c (show(0:Int)<2147483647 by decide);show⟨9,rfl,by decide,by decide,jI (lo:=0) (n:=9) (λi σ H'=>H'=H/\∃(b a:Int) (x:Option V),σ=[some (.int c),some (.int b),some (.int a),x]/\0<=b/\0<=a/\a<2200000000) ⟨rfl,0,_,_,rfl,by decide,by lk,by lk⟩ (λi σ H' r d=>?_) fun σ H' d=>?_⟩
   .obtain⟨rfl,b,a,x,rfl,e,o,h1⟩:=d;apply qfk (.inl ⟨by lk,by lk⟩) ?_;apply qfk (.inl ⟨by decide,by decide⟩) ?_;apply vI (by decide) ?_;apply qfk (.inr ⟨by decide,by decide⟩) ?_;apply qfk (.inr ⟨by decide,by decide⟩) ?_;apply vI (by decide) ?_;ext;generalize g:(a*a+48271*a+(0+(i:Int))) % 2147483647=N;have j:0<=N:=by rw[<- g];show xE _ (by decide)
    have u:N<2147483647:=by rw[<- g];show Xw _ (by decide)
    show⟨rfl,_,_,_,rfl,?_,j,by lk⟩;have t:=xE (N*69621) (show(2147483629:Int)≠0 by decide);have:0<=b*2147483629:=Int.mul_nonneg e (by decide);lk
   .obtain⟨rfl,b,a,x,rfl,e,_⟩:=d;apply⟨wqqm,λp d=>q p _ (qw (Sr H') d) d ⟨b,e,qc⟩⟩
theorem ok_tk(F:Fun K "_law_take" "_law_take" qcq f fd):wqqj 1 f fd wqs spTk:=by
 show F.ok UY λ_ _ _ _ H vs Q E g h=>?_
 .obtain⟨p,m,rfl,⟨v,hv,b⟩,q,h1,k⟩:=h;have c:=jw g;have a:(0:Int)<(m:Int):=by lk
  show⟨_,(qd (qr (i:=2) UY.nd rfl (yG rfl) (qM zJ (qA (qB (K:=K) rfl c) (pv 0) qh (λ_ _=>rfl)) (pv 1)))
 (qd (qbt (qM op_fdiv (qA (qB (K:=K) rfl c) (pv 0) qh (λ_ _=>rfl)) (pv 1)) (qb9 (pv 0) qh (qca c)))
 (qe (qi (pv 2))))),?_⟩
  apply .inl (qch b rfl ?_);apply vI a ?_;apply .inl (qch b rfl ?_);apply vI ⟨a,by lk⟩ ?_;apply .inl (qhv b rfl ?_);ext;have j:=xE v (show(m:Int)≠0 by lk);have l:=Xw v a;have d:v % (m:Int)=(((v % (m:Int)).toNat:Nat):Int):=by lk
  rw[d];show k _ _ (by lk) (λx o n e=>by rw[qo n];show e) ⟨_,Int.ediv_nonneg hv (by lk),qc⟩
theorem KM:FnScope ["_law_box_here","_law_many","_law_letters","_law_way","_law_first","_law_step","_law_tails","_law_names_here","_law_k","_law_sign"] wqs (qf jp):=fS
theorem rep_ok6{c:Nat}(h:n<6):MulOk ⟨#[c]⟩ ((n:Int)+1)/\(Txt.mul ⟨#[c]⟩ ((n:Int)+1)).cps.toList=List.replicate (n+1) c:=by
 have a:n=0\/n=1\/n=2\/n=3\/n=4\/n=5:=by lk
 rcases a with rfl | rfl | rfl | rfl | rfl | rfl
 .show⟨⟨by decide,λ_ _=>by show ¬ ((1:Int)>(2 ^ 63-1) / 1);decide,λ_ _=>by show Builtin.Str.tooLong (1*1)=false;decide⟩,rfl⟩
 .show⟨⟨by decide,λ_ _=>by show ¬ ((1:Int)>(2 ^ 63-1) / 2);decide,λ_ _=>by show Builtin.Str.tooLong (1*2)=false;decide⟩,rfl⟩
 .show⟨⟨by decide,λ_ _=>by show ¬ ((1:Int)>(2 ^ 63-1) / 3);decide,λ_ _=>by show Builtin.Str.tooLong (1*3)=false;decide⟩,rfl⟩
 .show⟨⟨by decide,λ_ _=>by show ¬ ((1:Int)>(2 ^ 63-1) / 4);decide,λ_ _=>by show Builtin.Str.tooLong (1*4)=false;decide⟩,rfl⟩
 .show⟨⟨by decide,λ_ _=>by show ¬ ((1:Int)>(2 ^ 63-1) / 5);decide,λ_ _=>by show Builtin.Str.tooLong (1*5)=false;decide⟩,rfl⟩
 .show⟨⟨by decide,λ_ _=>by show ¬ ((1:Int)>(2 ^ 63-1) / 6);decide,λ_ _=>by show Builtin.Str.tooLong (1*6)=false;decide⟩,rfl⟩
theorem qdp(a b:Int):(if false=true then !eqV (V.int a) (V.int b) else eqV (V.int a) (V.int b))=decide (a=b):=by
 rw[yE (by decide)];unfold eqV;by_cases h:a=b<;>simp[h]
theorem But.trans7(a:But p H H1)(b:But p H1 H2):But p H H2:=λc o n e=>b c o n (a c o n e)
theorem But.new7(a:But p H H1)(hl:H1 l=none):But p H (upd H1 l o):=λc u n e=>by
 have:=a c u n e;have ne:c≠l:=λz=>by rw[z,hl] at this;cases this
 rw[qo ne];show this
theorem But.free7(a:But p H H1)(b:l≠p)(hl:H1 l=none):H l=none:=by
 cases e:H l with
 | none=>rfl
 | some o=>rw[a l o b e] at hl;cases hl
def setWith(s:Stmt)(es:List Expr):Stmt:=match s with
 | .Assign ts (.Subscript (.List _ lp) ix p1) p=>.Assign ts (.Subscript (.List es lp) ix p1) p
 | s=>s
abbrev qe4(s:Stmt)(i:Nat):Stmt:=(zD s).getD i (.Pass ⟨0,0,0,0⟩)
theorem names_parts:∃ es,zD jp=[qe4 jp 0,qe4 jp 1,qe4 jp 2,setWith (qe4 jp 3) es,qe4 jp 4,qe4 jp 5,qe4 jp 6,qe4 jp 7]/\∀(env:Env) (c:Expr->TE->Prop) (b:List Expr->TA->Prop),
  (∀ i j d,c (.Constant (.int i) j d) (tC (.int i)))->b [] qfr->(∀ e es f t,c e f->b es t->starEach (e::es) env=(false,eval e env)::starEach es env->b (e::es) (zb f t)) ->
  b es (zb (tC (.int 1)) (zb (tC (.int 3)) (zb (tC (.int 5)) (zb (tC (.int 7)) (zb (tC (.int 9)) (zb (tC (.int 11)) (zb (tC (.int 15)) (zb (tC (.int 17)) (zb (tC (.int 19)) (zb (tC (.int 21)) (zb (tC (.int 23)) (zb (tC (.int 25)) qfr)))))))))))):=
 ⟨_,rfl,λenv c b a g hc=>(hc _ _ _ _ (a _ _ _) (hc _ _ _ _ (a _ _ _) (hc _ _ _ _ (a _ _ _) (hc _ _ _ _ (a _ _ _) (hc _ _ _ _ (a _ _ _) (hc _ _ _ _ (a _ _ _) (hc _ _ _ _ (a _ _ _) (hc _ _ _ _ (a _ _ _) (hc _ _ _ _ (a _ _ _) (hc _ _ _ _ (a _ _ _) (hc _ _ _ _ (a _ _ _) (hc _ _ _ _ (a _ _ _) g rfl) rfl) rfl) rfl) rfl) rfl) rfl) rfl) rfl) rfl) rfl) rfl)⟩
theorem ok_nm7(F:Fun K "_law_names" "_law_names" jp f fd)(T:Txt K mg cc cw)(KP:wqqh 1 "_law_take" wqs spTk):wqqj 2 f fd wqs spNm7:=by
 show F.ok KM λ_ _ _ s H vs Q E O h=>?_
 .obtain⟨p,m,rfl,hB,hm,q⟩:=h;have hu:=jw O;obtain⟨TC5,G⟩:∃ t:TS,t=λD σ H'=>(∀ u H',Q u H'->D.rt u H')/\∃(x7 I J:Option V) (way first step:Int) (t:Nat),σ=[some (.ref p),some (.int (m:Int)),some (.str L26),some (.int way),some (.int first),some (.int step),some (.int (t:Int)),x7,I,J]/\But p H H'/\Bx H' p/\(way=0\/way=1\/way=2)/\(0<=first/\first<26)/\step∈stepsL/\t<=5:=⟨_,rfl⟩;obtain⟨ao,L,ai⟩:=names_parts;rw[L];show⟨_,(qd (qr (i:=2) KM.nd rfl (yG rfl) zv)
 (qd (qr (i:=3) KM.nd rfl (yG rfl) (qm KP (hmR O) qv (qa (pv 0) (qa qh qb))))
 (qd (qr (i:=4) KM.nd rfl (yG rfl) (qm KP (hmR O) qv (qa (pv 0) (qa qh qb))))
 (qd (qr (i:=5) KM.nd rfl (yG rfl) (qA (qB (K:=K) rfl hu) (qS (ai _ _ _ (λ_ _ _=>qh) qb λ_ _ _ _ ha O hs=>qa ha O hs)) (qm KP (hmR O) qv (qa (pv 0) (qa qh qb))) (λ_ _=>rfl)))
 (qd (qr (i:=6) KM.nd rfl (yG rfl) (qm KP (hmR O) qv (qa (pv 0) (qa qh qb))))
 (qf2 TC5 (qd (qr (i:=7) KM.nd rfl (yG rfl) (qS qb))
 (qd (jq yX rfl (jz rfl T.b_range (qa (pv 1) qb)) (qp (i:=8) KM.nd rfl (yG rfl))
 (qd (qr (i:=9) KM.nd rfl (yG rfl) (qA (qB (K:=K) rfl hu) (pv 2) (qM zJ (qM (qaN (K:=K) rfl) (pv 4) (qM qdV (pv 5) (pv 8))) qh) (λ_ _=>rfl)))
 (qe (qG (qj (jo (K:=K) rfl hu) (pv 3) qh (qu _)) (qe (qN (qeb (K:=K) rfl yV Ym Yn je (pv 7) (qa (qM (qaN (K:=K) rfl) (pv 9) (qaZ (qhG (K:=K) rfl) zv qb0 (qag (qM zJ (qM (qaN (K:=K) rfl) (pv 6) (qM qdV qh (pv 8))) qh)))) qb)))) (qe (qG (qj (jo (K:=K) rfl hu) (pv 3) qh (qu _)) (qe (qN (qeb (K:=K) rfl yV Ym Yn je (pv 7) (qa (qM (qaN (K:=K) rfl) (qaZ (qhG (K:=K) rfl) zv qb0 (qag (pv 6))) (pv 9)) qb)))) (qe (qG (qj qdH (pv 8) qh (qu _)) (qe (qN (qeb (K:=K) rfl yV Ym Yn je (pv 7) (qa (qM qdV (qA (qB (K:=K) rfl hu) (pv 2) (pv 4) (λ_ _=>rfl)) (qM (qaN (K:=K) rfl) (pv 8) qh)) qb)))) (qe (qN (qeb (K:=K) rfl yV Ym Yn je (pv 7) (qa (pv 9) qb))))))))))))
 (qe (qi (pv 7))))) ?cut5)))))),?_⟩
  case cut5 =>
   intro D σ H1 h;rw[G] at h;obtain⟨hD,x7,I,J,way,first,step,t,rfl,b1,hB1,an,hf,B,ht⟩:=h;apply⟨wqql,λl hl=>?_⟩;obtain⟨bv,aj,ab⟩:=id hB1;have M:l≠p:=λz=>by rw[z,ab] at hl;cases hl
   apply⟨(m:Int),rfl,by lk,by lk,?_⟩;rw[Ye];show jI (lo:=0) (n:=m) (λi σ H'=>∃(ss:LS) (I J:Option V),σ=[some (.ref p),some (.int (m:Int)),some (.str L26),some (.int way),some (.int first),some (.int step),some (.int (t:Int)),some (.ref l),I,J]/\H'=upd H1 l (.lst (ss.map V.str))/\ss.length=i/\∀(j:Nat) s,ss[j]?=some s->NmK way first step t j s) ⟨[],_,_,rfl,rfl,rfl,λj s h=>by simp at h⟩ (λi σ H' hi hp=>?_) fun σ H' hp=>?_
   .obtain⟨ss,I,J,rfl,rfl,R,A⟩:=hp;have b:upd H1 l (.lst (ss.map V.str)) l=some (.lst (ss.map V.str)):=qc;rw[xN];ext
    have ar:0<=step/\step<=25:=by
     have h:=B;simp only[stepsL,yF,yW,YT] at h;lk
    show qfk (.inl ⟨by lk,by lk⟩) ?_;apply vI (by decide) ?_;have c1:=xE (first+step*(i:Int)) (show(26:Int)≠0 by decide);have c2:=Xw (first+step*(i:Int)) (show(0:Int)<26 by decide);show .inl (qiC (by room) (qhd c1 c2) ?_)
    have C:∀(s:Str),NmK way first step t i s->∃(W:LS) (I J:Option V),[some (V.ref p),some (.int (m:Int)),some (.str L26),some (.int way),some (.int first),some (.int step),some (.int (t:Int)),some (.ref l),some (.int (i:Int)),some (V.str ⟨#[97+((first+step*(i:Int)) % 26).toNat]⟩)]=[some (.ref p),some (.int (m:Int)),some (.str L26),some (.int way),some (.int first),some (.int step),some (.int (t:Int)),some (.ref l),I,J]/\upd (upd H1 l (.lst (ss.map V.str))) l (.lst (ss.map V.str++[.str s]))=upd H1 l (.lst (W.map V.str))/\W.length=i+1/\∀(j:Nat) s,W[j]?=some s->NmK way first step t j s:=λs hs=>by
     show⟨ss++[s],_,_,rfl,?_,by rw[yK,R];rfl,λj s' r=>?_⟩
     .rw [yu];funext c;by_cases hc:c=l
      .subst hc;rw[qc,qc];rfl
      .rw [qo hc,qo hc,qo hc]
     .by_cases ak:j<ss.length
      .rw [yQ ak] at r;show A j s' r
      .rw [Yc (by lk)] at r
       have e0:j-ss.length=0:=by
        have:=(yc.mp r).1;simp only[Yk,xr] at this;lk
       rw[e0] at r;cases r;have:j=i:=by lk
       rw[this];show hs
    have g:(ss.map V.str).length<sizeLine:=by rw[ya];show qg (by lk)
    apply .inl (.inl (.inl ⟨rfl,rfl,?_⟩));rw[qdp];apply qE (λh=>?_) (λh=>?_)
    .have hw:way=0:=yl h;apply⟨.inl ⟨rfl,_,.of b⟩,?_⟩;apply qfk (.inl ⟨by decide,by decide⟩) ?_;apply vI (by decide) ?_;apply qiD (by room) ?_;have e6:((t:Int)+5*(i:Int)) % 6=(((t+5*i) % 6:Nat):Int):=by lk
     rw[e6];have a:=qc4 (Str.ofString "zabqk") ((t+5*i) % 6)
     have Y:((Str.ofString "zabqk").cps.toList.take ((t+5*i) % 6)).all sg=true:=by
      have h0:(Str.ofString "zabqk").cps.toList.all sg=true:=by room
      show Yr.mpr λx hx=>Yr.mp h0 x (Xh hx)
     have y:((Str.ofString "zabqk").cps.toList.take ((t+5*i) % 6)).length<=5:=by rw[yM];lk
     have al:(Txt.slice (Str.ofString "zabqk") none (some (((t+5*i) % 6:Nat):Int))).length<=5:=by
      have:(Txt.slice (Str.ofString "zabqk") none (some (((t+5*i) % 6:Nat):Int))).length=(Txt.slice (Str.ofString "zabqk") none (some (((t+5*i) % 6:Nat):Int))).cps.toList.length:=by simp[Str.length]
      rw[this,a];show y
     show qhY (by show 1+_<=sizeLine;show yN (qg (by lk))) ?_;apply⟨l,_,_,rfl,rfl,b,g,?_⟩;show C _ ?_;unfold NmK;rw[yH hw];show⟨_,?_,Y,y⟩;rw[qe1,a];rfl
    .have S:way≠0:=λe=>h (yx e);apply .inl (.inl (.inl ⟨rfl,rfl,?_⟩));rw[qdp];apply qE (λh=>?_) (λh=>?_)
     .have hw:way=1:=yl h;apply⟨.inl ⟨rfl,_,.of b⟩,?_⟩;apply qiD (by room) ?_;have a:=qc4 (Str.ofString "mmmmm") t
      have am:(Str.ofString "mmmmm").cps.toList.take t=List.replicate t 109:=by
       have h0:(Str.ofString "mmmmm").cps.toList=List.replicate 5 109:=by room
       rw[h0,List.take_replicate,Kj ht]
      rw[am] at a
      have al:(Txt.slice (Str.ofString "mmmmm") none (some (t:Int))).length<=5:=by
       have:(Txt.slice (Str.ofString "mmmmm") none (some (t:Int))).length=(Txt.slice (Str.ofString "mmmmm") none (some (t:Int))).cps.toList.length:=by simp[Str.length]
       rw[this,a,xv];show ht
      apply qhY (by show _+1<=sizeLine;show yN (qg (by lk))) ?_;apply⟨l,_,_,rfl,rfl,b,g,?_⟩;show C _ ?_;unfold NmK;rw[yE S,yH hw,qe1,a];rfl
     .have ad:way≠1:=λe=>h (yx e);ext;by_cases h6:i<6
      .rw [yx (show(i:Int)<6 by lk)];show jv ?_;apply⟨.inl ⟨rfl,_,.of b⟩,?_⟩;apply .inl (qiC (by room) (qhd hf.1 hf.2) ?_);ext;obtain⟨mo,ml⟩:=rep_ok6 (c:=97+first.toNat) h6;show⟨mo,?_⟩;apply⟨l,_,_,rfl,rfl,b,g,?_⟩;show C _ ?_;unfold NmK;rw[yE S,yE ad,yH h6];show ml
      .rw [ym (show ¬ (i:Int)<6 by lk)];show yr ?_;apply⟨.inl ⟨rfl,_,.of b⟩,?_⟩;apply⟨l,_,_,rfl,rfl,b,g,?_⟩;show C _ ?_;unfold NmK;rw[yE S,yE ad,yE h6];rfl
   .obtain⟨ss,I,J,rfl,rfl,R,A⟩:=hp;apply hD _ _ (q l ss _ (b1.new7 hl) ⟨bv,aj,by rw[qo (Yw M)];show ab⟩ (b1.free7 M hl) M qc ⟨by lk,nodup_key λj k s r hk=>?_,λs hs=>?_⟩ R)
    .have ap:j<ss.length:=(yc.mp r).1;have aq:k<ss.length:=(yc.mp hk).1;show NmK.inj B hf (by lk) (by lk) (A j s r) (A k s hk)
    .obtain⟨j,r⟩:=yg hs;show(A j s r).nm ht hf
  apply⟨p,3,rfl,hB,by decide,by decide,λway H1 hw b1 hB1=>?_⟩;apply⟨p,26,rfl,hB1,by decide,by decide,λfirst H2 hf b2 af=>?_⟩;apply⟨by show 12<=sizeLine;decide,λU N=>?_⟩;obtain⟨ae,Z,ac⟩:=id af;have aa:p≠U:=λz=>by rw[<- z,ac] at N;cases N
  have b3:=(b1.trans7 b2).new7 (o:=.lst (stepsL.map V.int)) N;have em:upd H2 U (.lst (stepsL.map V.int)) U=some (.lst (stepsL.map V.int)):=qc;have X:Bx (upd H2 U (.lst (stepsL.map V.int))) p:=⟨ae,Z,by rw[qo aa];show ac⟩;have eu:upd H2 U (.lst [V.int 1,V.int 3,V.int 5,V.int 7,V.int 9,V.int 11,V.int 15,V.int 17,V.int 19,V.int 21,V.int 23,V.int 25])=upd H2 U (.lst (stepsL.map V.int)):=rfl;rw[eu];generalize upd H2 U (.lst (stepsL.map V.int))=H3 at b3 em X;apply⟨p,12,rfl,X,by decide,by decide,λd H4 hd b4 ag=>?_⟩;obtain⟨st,B⟩:∃ st,stepsL[d]?=some st:=⟨_,yb hd⟩;show .inl (qch (b4 _ _ (Yw aa) em) (v:=.int st) (j7 (by rw[ye,B];rfl)) ?_);apply⟨p,6,rfl,ag,by decide,by decide,λt H5 ht b5 ah=>?_⟩;ext;rw[G];show⟨λ_ _ z=>z,_,_,_,way,first,st,t,rfl,((b3.trans7 b4).trans7 b5),ah,by lk,by lk,yf B,by lk⟩
def tn(ss:LS)(i:Nat):Str:=ss.getD i ""
def nmP(ss:LS)(p:Nat×Nat):Str×Str:=(tn ss p.1,tn ss p.2)
def qhI(a b:Nat×Nat):Prop:=a.1<b.1\/(a.1=b.1/\a.2<b.2)
structure TIok(n:Nat)(TI:List (Nat×Nat)):Prop where
 few:TI.length<=30
 ok:∀ p∈TI,p.1<p.2/\p.2<n
 so:TI.Pairwise qhI
theorem qai(h:i<ss.length):ss[i]?=some (tn ss i):=by unfold tn;rw[Yg,yb h];rfl
theorem zO(h:i<ss.length):tn ss i∈ss:=yf (qai h)
theorem zx(a:ss.Nodup)(h:i<ss.length):ss.idxOf (tn ss i)=i:=by
 have h1:ss[ss.idxOf (tn ss i)]?=some (tn ss i):=by rw[yb (y7 (zO h))];show congrArg some (Yu _)
 show jf a h1 (qai h)
theorem jP(a:ss.Nodup)(b:i<ss.length)(c:j<ss.length)(e:tn ss i=tn ss j):i=j:=by rw[<- zx a b,<- zx a c,e]
theorem qbg{n:Addr}{Q:VK}(h:H n=some (.lst (ss.map V.str)))(a:i<ss.length)(q:Q (.str (tn ss i)) H):qiE K (.ref n) (.int (i:Int)) H Q:=
 .inl (qch h (v:=.str (tn ss i)) (by
  unfold atI;rw[ya,qbp a];show(ss.map V.str)[i]?=_;rw[ye,qai a];rfl) q)
theorem TIok.two{TI:List (Nat×Nat)}(h:TIok n TI):∀ q∈TI,q.1<n/\q.2<n:=λq a=>by have:=h.ok q a;lk
theorem qf4(a:Nat×Nat):¬ qhI a a:=λh=>by rcases h with h | ⟨_,h⟩<;>lk
theorem TIok.nd{TI:List (Nat×Nat)}(h:TIok n TI):TI.Nodup:=h.so.imp λ{a b} c e=>by subst e;show qf4 _ c
theorem TIok.filter{TI:List (Nat×Nat)}(h:TIok n TI)(f:Nat×Nat->Bool):TIok n (TI.filter f):=
 ⟨yj (yy _ _) h.few,λp a=>h.ok p (yq.mp a).1,h.so.filter _⟩
theorem All2.app9{R:α->β->Prop}{e g:List α}{m1 h:List β}(a:All2 R e m1)(b:All2 R g h):All2 R (e++g) (m1++h):=by
 show⟨by rw[yK,yK,a.len,b.len],λk x y c d=>?_⟩;by_cases f:k<e.length
 .rw [yQ f] at c;rw[yQ (by rw[<- a.len];show f)] at d;show a.at_ k x y c d
 .rw [Yc (by lk)] at c;rw[Yc (by rw[<- a.len];lk),<- a.len] at d;show b.at_ _ x y c d
def swP(a:Str×Str):Str×Str:=(a.2,a.1)
def evP(p:Nat×Nat):Bool:=decide ((p.1+p.2) % 2=0)
def hdU(ss:LS)(TI:List (Nat×Nat)):LP:=(TI.filter λp=>!evP p).map (λp=>swP (nmP ss p))++((TI.filter evP).map (nmP ss)).reverse
def hdN(ss:LS)(p:Nat×Nat):Str×Str:=if evP p=true then nmP ss p else swP (nmP ss p)
theorem qd9(f:α->Bool):∀ l:List α,(l.filter (λx=>!f x)++l.filter f).Perm l
 | []=>.nil
 | a::l=>by
  have b:=qd9 f l;rw[yR,yR]
  cases f a with
  | false=>show .cons a b
  | true=>show(List.perm_middle).trans (.cons a b)
theorem qcK(ss:LS)(TI:List (Nat×Nat)):(hdU ss TI).Perm (TI.map (hdN ss)):=by
 have b:(TI.filter λp=>!evP p).map (λp=>swP (nmP ss p))=(TI.filter λp=>!evP p).map (hdN ss):=by
  show xq λp a=>?_;have:=(yq.mp a).2;unfold hdN;rw[yE (by simpa using this)]
 have c:(TI.filter evP).map (nmP ss)=(TI.filter evP).map (hdN ss):=by
  show xq λp a=>?_;unfold hdN;rw[yH (yq.mp a).2]
 unfold hdU;rw[b,c];show(List.Perm.append_left _ (XD _)).trans ?_;rw[<- yu];show(qd9 evP TI).map _
theorem qf5(ss:LS)(p:Nat×Nat):hdN ss p=nmP ss p\/hdN ss p=swP (nmP ss p):=by
 unfold hdN;split
 .show .inl rfl
 .show .inr rfl
theorem hd_tA{TI:List (Nat×Nat)}{a b:Str}:tA (hdU ss TI) a b↔tA (TI.map (nmP ss)) a b:=by
 have m:∀ x y,(x,y)∈hdU ss TI->tA (TI.map (nmP ss)) x y:=λx y h=>by
  obtain⟨p,c,e⟩:=yJ.mp ((qcK ss TI).mem_iff.mp h);rcases qf5 ss p with k | k
  .rw [k] at e;show .inl (yJ.mpr ⟨p,c,e⟩)
  .rw [k] at e;show .inr (yJ.mpr ⟨p,c,by cases e;rfl⟩)
 have d:∀ x y,(x,y)∈TI.map (nmP ss)->tA (hdU ss TI) x y:=λx y h=>by
  obtain⟨p,c,e⟩:=yJ.mp h;have:=(qcK ss TI).mem_iff.mpr (yJ.mpr ⟨p,c,rfl⟩);rcases qf5 ss p with k | k
  .rw [k,e] at this;show .inl this
  .rw [k,e] at this;show .inr this
 show⟨λh=>h.elim (m a b) λz=>(m b a z).symm,λh=>h.elim (d a b) λz=>(d b a z).symm⟩
theorem hd_go{TI:List (Nat×Nat)}(c:ss.Nodup)(h:TIok ss.length TI):TGo ss (hdU ss TI):=by
 show⟨by rw[(qcK ss TI).length_eq,ya];show h.few,λs d=>?_,?_⟩
 .obtain⟨p,r,e⟩:=yJ.mp ((qcK ss TI).mem_iff.mp d);have k:=h.ok p r;have m:=zO (ss:=ss) (i:=p.1) (by lk);have n:=zO (ss:=ss) (i:=p.2) (by lk);have o:tn ss p.1≠tn ss p.2:=λz=>by have:=jP c (by lk) (by lk) z;lk
  rcases qf5 ss p with z | z<;>rw[z] at e<;>subst e
  .show⟨m,n,o⟩
  .show⟨n,m,Yw o⟩
 .show((qcK ss TI).pairwise_iff UN.symm).mpr (YM.mpr (h.nd.imp_of_mem λ{a b} q hb f=>?_));have t:=h.ok a q;have u:=h.ok b hb
  have key:nmP ss a≠nmP ss b/\nmP ss a≠swP (nmP ss b):=by
   show⟨λe=>f ?_,λe=>?_⟩
   .have g:=jP c (by lk) (by lk) (congrArg Prod.fst e);have l:=jP c (by lk) (by lk) (congrArg Prod.snd e);show XV g l
   .have g:=jP c (i:=a.1) (j:=b.2) (by lk) (by lk) (congrArg Prod.fst e);have l:=jP c (i:=a.2) (j:=b.1) (by lk) (by lk) (congrArg Prod.snd e);lk
  rcases qf5 ss a with z | z<;>rcases qf5 ss b with y | y<;>rw[z,y]
  .show key
  .show⟨key.2,λe=>key.1 e⟩
  .show⟨λe=>key.2 (by rw[<- e];rfl),λe=>key.1 (congrArg swP e)⟩
  .show⟨λe=>key.1 (congrArg swP e),λe=>key.2 (congrArg swP e)⟩
def qhf(G H:Hp):Hp:=λc=>match G c with
 | none=>H c
 | some _=>none
theorem qcL{c:Addr}(h:G c=none)(e:H c=some o):qhf G H c=some o:=by unfold qhf;rw[h];show e
theorem qes{c:Addr}(h:qhf G H c=some o):G c=none/\H c=some o:=by
 unfold qhf at h
 cases e:G c with
 | none=>rw[e] at h;show⟨rfl,h⟩
 | some u=>rw[e] at h;cases h
theorem qf6:L2.Same (qhf G H) H:=λc o e=>(qes e).2
theorem qf7{m y:Addr}{Q:VK}(I:LTu G m (ss.map V.str))(g:NOk ss)(r:PLT G l us kps)(u:TGo ss kps)(q:G y=none)(H:G dx=none)(p:dx≠y)
  (h:∀ ns H2,L2.Same G H2->Wt cw (qhf G H2) y ss ns kps->Q .non H2):spWeb cw [.ref y,.ref m,.ref l] (upd (upd G dx (.own y)) y (.ins cw dx [])) Q E:=by
 have f:=qw (qw (Sr G) (o:=.own y) H) (o:=.ins cw dx []) (show upd G dx (.own y) y=none by rw[qo (Yw p)];show q);show⟨y,dx,m,l,ss,us,kps,rfl,qc,I.same f,g.few,g.nd,g.nm,⟨r.1.same f,r.2.mono λ_ _ z=>f _ _ z⟩,u,λns H' b i hb=>?_⟩;obtain⟨J,d,ol,n,h1,A,B,C,D,v,w,x⟩:=i;show h ns H' (λc o e=>b c o (λz=>by rw[z,q] at e;cases e) (f _ _ e)) ⟨⟨J,d,ol,n,qcL q h1,qcL (f.free v) A,qcL (f.free w) B,qcL (f.free x) C,D⟩,λa b s t F j=>by rw[hb.2.2 a b s t F j,yC],u.inn⟩
theorem wmake{m y:Addr}{Q:VK}(f:LTu G m (ss.map V.str))(b:NOk ss)(c:PLT G l us kps)(e:TGo ss kps)(g:G y=none)(d:G dx=none)(a:dx≠y)
  (h:∀ ns H2,L2.Same G H2->Wt cw H2 y ss ns kps->Q .non H2):spWeb cw [.ref y,.ref m,.ref l] (upd (upd G dx (.own y)) y (.ins cw dx [])) Q E:=
 qf7 f b c e g d a λns H2 s W=>h ns H2 s (W.same qf6)
theorem Wt.to{y:Addr}(h:Wt cw H y ss ns kps)(ok:∀ ab∈tps,ab.1∈ss/\ab.2∈ss/\ab.1≠ab.2)(e:∀ a b,a∈ss->b∈ss->(tA kps a b↔tA tps a b)):Wt cw H y ss ns tps:=
 ⟨h.web,λa b s t c hb=>(h.adj a b s t c hb).trans (e s t (yf c) (yf hb)),ok⟩
theorem TIok.go{TI:List (Nat×Nat)}(c:ss.Nodup)(h:TIok ss.length TI):∀ a∈TI.map (nmP ss),a.1∈ss/\a.2∈ss/\a.1≠a.2:=λa b=>by
 obtain⟨p,d,rfl⟩:=yJ.mp b;have k:=h.ok p d;show⟨zO (by lk),zO k.2,λz=>by have:=jP c (by lk) (by lk) z;lk⟩
theorem KH:FnScope wql wq0 (qf qaS):=fS
abbrev iT(q:Nat×Nat):HO:=.tup [.int (q.1:Int),.int (q.2:Int)]
def IPL(H:Hp)(l:Addr)(ts:LI)(TI:List (Nat×Nat)):Prop:=H l=some (.lst (ts.map V.ref))/\All2 (λt q=>H t=some (iT q)) ts TI
theorem IPL.same{TI:List (Nat×Nat)}(h:IPL H l ts TI)(s:L2.Same H H'):IPL H' l ts TI:=⟨s _ _ h.1,h.2.mono λ_ _ z=>s _ _ z⟩
theorem vRng2{a:TA}{R:It->Hp->Prop}(h:a σ H λvs H1=>∃ i j:Int,vs=[.int i,.int j]/\(-(2 ^ 62)<=i/\i<2 ^ 62/\-(2 ^ 62)<=j/\j<2 ^ 62)/\R (Itr i (j-i).toNat) H1):qhR a σ H R:=h
theorem qaT{i j:Int}{Q:VK}(q:Q (.bl (decide (i=j))) H):qgF K (.int i) (.int j) H Q:=.inl (.inl (.inl ⟨rfl,rfl,by rw[qdp];show q⟩))
theorem But.same7(s:L2.Same H H1)(a:H p=none)(b:But p H1 H2):L2.Same H H2:=λc o e=>b c o (λz=>by rw[z,a] at e;cases e) (s c o e)
theorem Same.set7(a:L2.Same H H1)(hl:H l=none):L2.Same H (upd H1 l o):=λc u e=>by
 have:c≠l:=λz=>by rw[z,hl] at e;cases e
 rw[qo this];show a c u e
theorem vNeI7{i j:Int}{Q:VK}(q:Q (.bl (!decide (i=j))) H):qg0 K true (.int i) (.int j) H Q:=.inl ⟨rfl,rfl,by
 rw[yH rfl];have:=zl i j;rw[yE (by decide)] at this;rw[this];show q⟩
inductive spDr(vs:List V)(H:Hp)(Q:VK)(E:XK):Prop|mk (c:Int) (ap:Bool) (_:vs=[.int c,.bl ap]) (_:∀(t n l:Addr) (ss:LS) (ts:LI) (TI:List (Nat×Nat)) (H':Hp),L2.Same H H'->H' t=some (.tup [.ref n,.ref l])->H n=none->H' n=some (.lst (ss.map V.str))->NOk ss->H l=none->IPL H' l ts TI->TIok ss.length TI->Q (.ref t) H')
theorem ok_dr(F:Fun K "_law_drawn" "_law_drawn" qaS f fd)(T:Txt K mg cc cw)(v9:wqqh 1 "_law_box" ["_law_cell"] spBx)(KP:wqqh 1 "_law_take" wqs spTk)(vR:wqqh 2 "_law_names" wqs spNm7):wqqj 3 f fd wq0 spDr:=by
 show F.ok KH λ_ _ _ _ H vs Q E hr h=>?_
 .obtain⟨c,ap,rfl,q⟩:=h;have hu:=jw hr;obtain⟨TC3,X⟩:∃ t:TS,t=λD σ H'=>(∀ u H',Q u H'->D.rt u H')/\∃(p:Addr) (m:Nat) (x4 x5 x6 x7 x8 x9 aw:Option V),σ=[some (.int c),some (.bl ap),some (.ref p),some (.int (m:Int)),x4,x5,x6,x7,x8,x9,aw]/\L2.Same H H'/\H p=none/\Bx H' p/\m<=14:=⟨_,rfl⟩;show⟨_,(qd (qr (i:=2) KH.nd rfl (xK rfl) (qm v9 (hmR hr) qv (qa (pv 0) qb)))
 (qd (qr (i:=3) KH.nd rfl (yG rfl) (qm KP (hmR hr) qv (qa (pv 2) (qa qh qb))))
 (qd (qG (qj (jo (K:=K) rfl hu) (qm KP (hmR hr) qv (qa (pv 2) (qa qh qb))) qh (qu _)) (qe (qr (i:=3) KH.nd rfl (yG rfl) (qm KP (hmR hr) qv (qa (pv 2) (qa qh qb))))) qt)
 (qf2 TC3 (qd (qr (i:=4) KH.nd rfl (yG rfl) (qm vR (hmR hr) qv (qa (pv 2) (qa (pv 3) qb))))
 (qd (qr (i:=5) KH.nd rfl (yG rfl) (qM (qaN (K:=K) rfl) qh (qm KP (hmR hr) qv (qa (pv 2) (qa qh qb)))))
 (qd (qay (sc:=qf qaS) (XN:=wql) ["_law_k","_law_box_here"] 1 [2] rfl rfl rfl (by room) rfl (by room) (i:=6) KH.nd rfl rfl
  (jz rfl T.b_range (qa (pv 3) qb)) (λ_ _ _ _=>(qp (i:=0) (show(["_law_k","_law_box_here"]:LS).Nodup by room) rfl (yG rfl))) qF
  (λ_ _ _ _=>jl)
  (λ_ _ _ _=>(qm KP (hmR hr) qv (qa (pv 1) (qa qh qb)))))
 (qd (qr (i:=7) KH.nd rfl (yG rfl) (qS qb))
 (qd (jq yX rfl (jz rfl T.b_range (qa (pv 3) qb)) (qp (i:=8) KH.nd rfl (yG rfl))
 (qe (jq yX rfl (pi_range2 rfl T.b_range (qa (qM (qaN (K:=K) rfl) (pv 8) qh) (qa (pv 3) qb))) (qp (i:=9) KH.nd rfl (yG rfl))
 (qd (qr (i:=10) KH.nd rfl (yG rfl) (qal (qW qdH (qm KP (hmR hr) qv (qa (pv 2) (qa qh qb))) (pv 5) (qu _)) (zU (qhM (qdC (pv 1)) (zU (qW (zT (K:=K) rfl hu) (qA (qB (K:=K) rfl hu) (pv 6) (pv 8) (λ_ _=>rfl)) (qA (qB (K:=K) rfl hu) (pv 6) (pv 9) (λ_ _=>rfl)) (qu _)))))))
 (qe (qG (PW.pt (qb8 (qD (pv 10)) (qbj (qj qdH (qk (j8 (K:=K) rfl) rfl T.b_len Yv (qa (pv 7) qb)) qh (qu _))))) (qe (qN (qeb (K:=K) rfl yV Ym Yn je (pv 7) (qa (ji (qa (pv 8) (qa (pv 9) qb))) qb)))) qt))))))
 (qe (qi (ji (qa (pv 4) (qa (pv 7) qb)))))))))) ?cut3)))),?_⟩
  case cut3 =>
   intro D σ H1 h;rw[X] at h;obtain⟨hD,p,m,x4,x5,x6,x7,x8,x9,aw,rfl,s1,y,hB1,hm⟩:=h;apply⟨p,m,rfl,hB1,hm,λn ss H2 b2 ad az ah ba hO bd=>?_⟩;have s2:=But.same7 s1 y b2;apply⟨p,3,rfl,ad,by decide,by decide,λd H3 hd b3 aa=>?_⟩;have s3:=But.same7 s2 y b3;have bb:=b3 _ _ ah ba;apply⟨(m:Int),rfl,by lk,by lk,?_⟩;rw[Ye];show qcZ (lo:=0) (λi ys J=>L2.Same H J/\Bx J p/\J n=some (.lst (ss.map V.str))/\∃ g:LN,ys=ivs g/\g.length=i/\∀ v∈g,v<2) ⟨s3,aa,bb,[],rfl,rfl,λv hv=>by cases hv⟩ (λi ys J hi Y=>?_) λys J Y=>?_
   .obtain⟨U,r,s,g,rfl,au,ak⟩:=Y;apply jv ?_;apply⟨p,2,rfl,r,by decide,by decide,λd2 J2 an b4 C=>?_⟩
    show⟨by rw[ya];show qg (by lk),But.same7 U y b4,C,b4 _ _ ah s,g++[d2],by show _=List.map iv _;rw[yu];rfl,by rw[yK,au];rfl,λv hv=>by
     rcases yP.mp hv with z | z
     .show ak v z
     .rw [yw.mp z];show an⟩
   .obtain⟨U,r,s,g,rfl,au,ak⟩:=Y;show⟨by rw[ya];show yN (qg (by lk)),λsd Z=>?_⟩;have s4:=qw U (o:=.lst (ivs g)) Z;have av:=qw (Sr J) (o:=.lst (ivs g)) Z;have ag:=av _ _ s;have C:Bx (upd J sd (.lst (ivs g))) p:=r.elim λv h=>⟨v,h.1,av _ _ h.2⟩;have af:upd J sd (.lst (ivs g)) sd=some (.lst (ivs g)):=qc;have be:sd≠p:=λz=>by obtain⟨v,_,e⟩:=r;rw[z,e] at Z;cases Z
    have bf:∀ i,i<m->g[i]?=some (g.getD i 0)/\g.getD i 0<2:=λi hi=>by
     have e:g[i]?=some g[i]:=yb (by lk);rw[Yg,e];show⟨rfl,ak _ (Xo _)⟩
    have am:∀ i,i<m->atI (ivs g) (i:Int)=some (iv (g.getD i 0)):=λi hi=>by
     unfold atI;rw[ya,qbp (show i<g.length by lk)];show(ivs g)[i]?=_;rw[ye,(bf i hi).1];rfl
    have bj:H sd=none:=U.free Z;generalize upd J sd (.lst (ivs g))=H4 at s4 ag C af;apply⟨wqql,λl B=>?_⟩;have s5:=qw s4 (o:=.lst []) B;have al:=qw (Sr H4) (o:=.lst []) B;have aq:H l=none:=s4.free B;have ar:l≠p:=λz=>by obtain⟨v,_,e⟩:=C;rw[z,e] at B;cases B
    have ax:l≠n:=λz=>by rw[z,ag] at B;cases B
    have ay:l≠sd:=λz=>by rw[z,af] at B;cases B
    apply⟨(m:Int),rfl,by lk,by lk,?_⟩;rw[Ye];show jI (lo:=0) (n:=m) (λi σ J=>L2.Same H J/\Bx J p/\J n=some (.lst (ss.map V.str))/\J sd=some (.lst (ivs g))/\∃(ts:LI) (TI:List (Nat×Nat)) (y8 y9 L:Option V),σ=[some (.int c),some (.bl ap),some (.ref p),some (.int (m:Int)),some (.ref n),some (.int (1+(d:Int))),some (.ref sd),some (.ref l),y8,y9,L]/\IPL J l ts TI/\TI.length<=30/\(∀ q∈TI,q.1<q.2/\q.2<m)/\TI.Pairwise qhI/\∀ q∈TI,q.1<i)
     ⟨s5,C.elim λv h=>⟨v,h.1,al _ _ h.2⟩,al _ _ ag,al _ _ af,[],[],_,_,_,rfl,⟨qc,.nil⟩,by decide,λq I=>(by cases I),.nil,λq I=>by cases I⟩ (λi σ J hi Y=>?_) fun σ J Y=>?_
    .obtain⟨U,r,s,R,ts,TI,y8,y9,L,rfl,W,j,x,A,G⟩:=Y;rw[xN];apply vRng2 ?_;apply⟨_,_,rfl,⟨by lk,by lk,by lk,by lk⟩,?_⟩;rw[show((m:Int)-((i:Int)+1)).toNat=m-(i+1) by lk];show jI (lo:=(i:Int)+1) (n:=m-(i+1)) (λk σ J=>L2.Same H J/\Bx J p/\J n=some (.lst (ss.map V.str))/\J sd=some (.lst (ivs g))/\∃(ts:LI) (TI:List (Nat×Nat)) (y9 L:Option V),σ=[some (.int c),some (.bl ap),some (.ref p),some (.int (m:Int)),some (.ref n),some (.int (1+(d:Int))),some (.ref sd),some (.ref l),some (.int (i:Int)),y9,L]/\IPL J l ts TI/\TI.length<=30/\(∀ q∈TI,q.1<q.2/\q.2<m)/\TI.Pairwise qhI/\∀ q∈TI,q.1<i\/(q.1=i/\q.2<i+1+k))
      ⟨U,r,s,R,ts,TI,_,_,rfl,W,j,x,A,λq I=>.inl (G q I)⟩ (λk σ J hk Y=>?_) fun σ J Y=>?_
     .obtain⟨U,r,s,R,ts,TI,y9,L,rfl,W,j,x,A,G⟩:=Y;apply⟨p,4,rfl,r,by decide,by decide,λd2 J2 an b6 ab=>?_⟩;have s6:=But.same7 U y b6;have ac:=b6 _ _ ah s;have N:IPL J2 l ts TI:=⟨b6 _ _ ar W.1,W.2.mono λt q z=>b6 _ _ (λe=>by obtain⟨v,_,e2⟩:=r;rw[e,e2] at z;cases z) z⟩;have O:=b6 _ _ be R;have M:∀ q∈TI,q.1<i\/(q.1=i/\q.2<i+1+(k+1)):=λq I=>by have:=G q I;lk
      ext;by_cases ao:(d2:Int)<1+(d:Int)
      .rw [yx ao];show jv ?_;apply qE (λh0=>?_) λ_=>?_
       rotate_left
       apply .inl (qch O (am i (by lk)) ?_);apply .inl (qch O (v:=iv (g.getD (i+1+k) 0)) (by rw[show(i:Int)+1+(k:Int)=((i+1+k:Nat):Int) by lk];show am _ (by lk)) ?_);apply vNeI7 ?_;by_cases bh:g.getD i 0=g.getD (i+1+k) 0
       .rw [yx (show(g.getD i 0:Int)=(g.getD (i+1+k) 0:Nat) by lk)];apply yr ?_;show yr ?_;apply⟨s6,ab,ac,O,ts,TI,_,_,rfl,N,j,x,A,M⟩
       rw[ym (show ¬ (g.getD i 0:Int)=(g.getD (i+1+k) 0:Nat) by lk)]
       all_goals
        ext
        first | show jv ?_ | show qE (λ_=>?_) λh=>absurd h0 h
        apply zK N.1 ?_;ext;by_cases bg:TI.length<30
        .rw [yx (show(((ts.map V.ref).length:Nat):Int)<30 by rw[ya,W.2.len];lk)];show jv ?_;apply⟨.inl ⟨rfl,_,.of N.1⟩,?_⟩;apply⟨wqqn,λt ai=>?_⟩;have S:=qw (Sr J2) (o:=.tup [.int (i:Int),.int ((i:Int)+1+(k:Int))]) ai
         have aj:upd J2 t (.tup [.int (i:Int),.int ((i:Int)+1+(k:Int))]) t=some (iT (i,i+1+k)):=by
          rw[qc];show _=some (HO.tup [_,V.int ((i+1+k:Nat):Int)]);rw[show((i+1+k:Nat):Int)=(i:Int)+1+(k:Int) by lk]
         have s7:=s6.trans S;generalize upd J2 t (.tup [.int (i:Int),.int ((i:Int)+1+(k:Int))])=J7 at S aj s7;have ae:=N.same S;apply⟨l,_,_,rfl,rfl,ae.1,by rw[ya,W.2.len];show qg (by lk),?_⟩;have as:∀{c:Addr} {o:HO},J7 c=some o->(∀ xs,o≠.lst xs)->c≠l:=λe bc z=>by rw[z,ae.1] at e;cases e;show bc _ rfl
         show⟨Same.set7 s7 aq,ab.elim λv h=>⟨v,h.1,by rw[qo (Yw ar)];show S _ _ h.2⟩,by rw[qo (Yw ax)];show S _ _ ac,by rw[qo (Yw ay)];show S _ _ O,ts++[t],TI++[(i,i+1+k)],_,_,rfl,⟨by rw[qc,yu];rfl,?_⟩,by rw[yK];show TI.length+1<=30;lk,λq I=>?_,?_,λq I=>?_⟩
         .show All2.snoc (ae.2.mono λt' q z=>?_) ?_
          .rw [qo (as z λxs e=>by cases e)];show z
          .rw [qo (as aj λxs e=>by cases e)];show aj
         .rcases yP.mp I with z | z
          .show x q z
          .rw [yw.mp z];show i<i+1+k/\i+1+k<m;lk
         .show kt.mpr ⟨A,List.pairwise_singleton _ _,λa ha b hb=>?_⟩;rw[yw.mp hb];rcases G a ha with z | z
          .show .inl z
          .show .inr z
         .rcases yP.mp I with z | z
          .show M q z
          .rw [yw.mp z];show .inr ⟨rfl,by show i+1+k<_;lk⟩
        .rw [ym (show ¬ (((ts.map V.ref).length:Nat):Int)<30 by rw[ya,W.2.len];lk)];show yr ?_;apply⟨s6,ab,ac,O,ts,TI,_,_,rfl,N,j,x,A,M⟩
      .rw [ym ao];show yr ?_;apply yr ?_;show yr ?_;apply⟨s6,ab,ac,O,ts,TI,_,_,rfl,N,j,x,A,M⟩
     .obtain⟨U,r,s,R,ts,TI,y9,L,rfl,W,j,x,A,G⟩:=Y;show⟨U,r,s,R,ts,TI,_,_,_,rfl,W,j,x,A,λq I=>by have:=G q I;lk⟩
    .obtain⟨U,r,s,R,ts,TI,y8,y9,L,rfl,W,j,x,A,G⟩:=Y;apply⟨wqqn,λt ai=>hD _ _ ?_⟩;have s8:=qw (Sr J) (o:=.tup [.ref n,.ref l]) ai;show q t n l ss ts TI _ (U.trans s8) qc (s1.free az) (s8 _ _ s) hO aq (W.same s8) ⟨j,λq I=>by rw[bd];show x q I,A⟩
  apply⟨c,rfl,λp H1 s1 y hB1=>?_⟩;apply⟨p,8,rfl,hB1,by decide,by decide,λm H2 hm b2 ad=>?_⟩;have s2:=But.same7 s1 y b2;apply⟨p,8,rfl,ad,by decide,by decide,λm2 H3 bm b3 aa=>?_⟩;have s3:=But.same7 s2 y b3;apply qaT ?_;apply qE (λh=>?_) (λh=>?_)
  .ext;show⟨p,15,rfl,aa,by decide,by decide,λm4 H4 bn b4 C=>?_⟩;ext;rw[X];show⟨λ_ _ z=>z,p,m4,_,_,_,_,_,_,_,rfl,But.same7 s3 y b4,y,C,by lk⟩
  .ext;rw[X];show⟨λ_ _ z=>z,p,m,_,_,_,_,_,_,_,rfl,s3,y,aa,by lk⟩
theorem Uw:FnScope wqE wqq (qf qb6):=fS
inductive spWb(cw:Addr)(vs:List V)(H:Hp)(Q:VK)(E:XK):Prop|mk (n l:Addr) (ss:LS) (ts:LI) (TI:List (Nat×Nat)) (_:vs=[.ref n,.ref l]) (_:H n=some (.lst (ss.map V.str))) (_:IPL H l ts TI) (_:NOk ss) (_:TIok ss.length TI) (_:∀(b:Addr) (ns:LN) (H':Hp),L2.Same H H'->Wt cw (qhf H H') b ss ns (TI.map (nmP ss))->Q (.ref b) H')
theorem ok_wb(F:Fun K "_law_web" "_law_web" qb6 f fd)(T:Txt K mg cc cw)(U7:wqqk 5 cw "Web" wqC (spWeb cw)):wqqj 7 f fd wqq (spWb cw):=by
 show F.ok Uw λ_ _ _ _ H vs Q E hr h=>?_
 .obtain⟨n,l,ss,ts,TI,rfl,hn,I,hO,hT,q⟩:=h;have hu:=jw hr;have few:=hT.few;have two:=hT.two;show⟨_,(qd (qay (sc:=qf qb6) (XN:=wqE) wqi 2 [0] rfl rfl rfl (by room) rfl (by room) (i:=2) Uw.nd rfl rfl
  (qc2 (K:=K) rfl (pv 1)) (λ_ _ _ _=>(qbh (n:=2) rfl (qU (qp (i:=0) (show(wqi:LS).Nodup by room) rfl (yG rfl)) (qU (qp (i:=1) (show(wqi:LS).Nodup by room) rfl (yG rfl)) qaf)))) qd1
  (λ_ _ _ _=>(qJ (qj (jo (K:=K) rfl hu) (qM zJ (qM (qaN (K:=K) rfl) (pv 0) (pv 1)) qh) qh (qu _))))
  (λ_ _ _ _=>(ji (qa (qA (qB (K:=K) rfl hu) (pv 2) (pv 0) (λ_ _=>rfl)) (qa (qA (qB (K:=K) rfl hu) (pv 2) (pv 1) (λ_ _=>rfl)) qb)))))
 (qd (qr (i:=2) Uw.nd rfl (yG rfl) (qM (qaN (K:=K) rfl) (qK (sc:=qf qb6) (XN:=wqE) wqi 2 [0] rfl rfl rfl (by room) rfl (by room)
  (qc2 (K:=K) rfl (pv 1)) (λ_ _ _ _=>(qbh (n:=2) rfl (qU (qp (i:=0) (show(wqi:LS).Nodup by room) rfl (yG rfl)) (qU (qp (i:=1) (show(wqi:LS).Nodup by room) rfl (yG rfl)) qaf)))) qd1
  (λ_ _ _ _=>(qJ (qj (jo (K:=K) rfl hu) (qM zJ (qM (qaN (K:=K) rfl) (pv 0) (pv 1)) qh) qh (qu _))))
  (λ_ _ _ _=>(ji (qa (qA (qB (K:=K) rfl hu) (pv 2) (pv 1) (λ_ _=>rfl)) (qa (qA (qB (K:=K) rfl hu) (pv 2) (pv 0) (λ_ _=>rfl)) qb))))) (qeU (K:=K) rfl (pv 2) (qag (qfu qdG qh)))))
 (qd (qG (qj (jo (K:=K) rfl hu) (qM zJ (qk (j8 (K:=K) rfl) rfl T.b_len Yv (qa (pv 1) qb)) qh) qh (qu _)) (qe (qi (qbC U7 (hmR hr) (qa (qX (qaC (K:=K) rfl) rfl T.b_tuple Xi (qa (pv 0) qb)) (qa (pv 2) qb))))) qt)
 (qe (qi (qbC U7 (hmR hr) (qa (qX (qb2 (K:=K) rfl rfl) rfl T.b_list Xe (qa (pv 0) qb)) (qa (qX (qaC (K:=K) rfl) rfl T.b_tuple Xi (qa (pv 2) qb)) qb)))))))),?_⟩
  apply qfl ?_;apply⟨l,_,rfl,.of I.1,qx (xs:=ts.map V.ref) (λi ys J=>L2.Same H J/\∃ us:LI,ys=us.map V.ref/\All2 (λt g=>J t=some (.tup [.str g.1,.str g.2])) us (((TI.take i).filter evP).map (nmP ss))) ⟨L2.Same.refl H,[],rfl,.nil⟩ (λi ys J _ d=>.of (d.1 _ _ I.1)) (λi x ys J hx d=>?_) λys J d=>?_⟩
  .obtain⟨s2,us,rfl,W⟩:=d;rw[ye] at hx;obtain⟨u,A,rfl⟩:=yo.mp hx;have hi:i<TI.length:=by rw[<- I.2.len];show(yc.mp A).1
   obtain⟨p,hp⟩:∃ p,TI[i]?=some p:=⟨_,yb hi⟩;have ac:=s2 _ _ (I.2.at_ i u p A hp);have r:=two p (yf hp);show⟨u,_,rfl,.of ac,rfl,_,_,rfl,_,_,rfl,rfl,?_⟩;apply vI (by decide) ?_;show qaT ?_;ext;have ee:decide (((p.1:Int)+(p.2:Int)) % 2=0)=evP p:=yY.mpr (by lk);rw[ee,yI,hp,yZ,yu]
   have ai:us.length<=30:=by
    rw[W.len,ya];have:=yy evP (TI.take i);rw[yM] at this;lk
   show qE (λh=>?_) (λh=>?_)
   .ext;show qbg (s2 _ _ hn) r.1 ?_;apply qbg (s2 _ _ hn) r.2 ?_;apply⟨wqqn,λm hm=>?_⟩;show⟨by rw[ya];show qg (by lk),qw s2 hm,us++[m],by rw[yu];rfl,?_⟩;have e:([p].filter evP).map (nmP ss)=[nmP ss p]:=by rw[yR,yH h];rfl
    show All2 _ _ (_++([p].filter evP).map (nmP ss));rw[e];show(W.mono λt' q z=>qw (Sr J) hm _ _ z).snoc qc
   .show⟨s2,us,rfl,?_⟩;have e:([p].filter evP).map (nmP ss)=[]:=by rw[yR,yE h];rfl
    show All2 _ _ (_++([p].filter evP).map (nmP ss));rw[e,Yb];show W
  .obtain⟨s2,us,rfl,W⟩:=d;have e:(ts.map V.ref).length=TI.length:=by rw[ya,I.2.len]
   rw[e,yD] at W;have ba:us.length<=30:=by rw[W.len,ya];show yj (yy _ _) few
   show⟨by rw[ya];show yN (qg (by lk)),λr1 al=>?_⟩;have s3:=qw s2 (o:=.lst (us.map V.ref)) al;have ap:=qw (Sr J) (o:=.lst (us.map V.ref)) al;have M:upd J r1 (.lst (us.map V.ref)) r1=some (.lst (us.map V.ref)):=qc;have ag:=W.mono λt g z=>ap _ _ z;generalize upd J r1 (.lst (us.map V.ref))=H3 at s3 ap M ag;apply qfl ?_;ext;have Y:=I.same s3;show⟨l,_,rfl,.of Y.1,qx (xs:=ts.map V.ref) (λi ys J=>L2.Same H3 J/\∃ us:LI,ys=us.map V.ref/\All2 (λt g=>J t=some (.tup [.str g.1,.str g.2])) us (((TI.take i).filter λp=>!evP p).map λp=>swP (nmP ss p))) ⟨L2.Same.refl H3,[],rfl,.nil⟩ (λi ys J _ d=>.of (d.1 _ _ Y.1)) (λi x ys J hx d=>?_) λys J d=>?_⟩
   .obtain⟨s4,vs,rfl,X⟩:=d;rw[ye] at hx;obtain⟨u,A,rfl⟩:=yo.mp hx;have hi:i<TI.length:=by rw[<- I.2.len];show(yc.mp A).1
    obtain⟨p,hp⟩:∃ p,TI[i]?=some p:=⟨_,yb hi⟩;have ac:=s4 _ _ (Y.2.at_ i u p A hp);have r:=two p (yf hp);have aj:=s4 _ _ (s3 _ _ hn);show⟨u,_,rfl,.of ac,rfl,_,_,rfl,_,_,rfl,rfl,?_⟩;apply vI (by decide) ?_;show qaT ?_;ext
    have ee:decide (((p.1:Int)+(p.2:Int)) % 2=1)=!evP p:=by
     unfold evP;rw[<- decide_not];show yY.mpr (by lk)
    rw[ee,yI,hp,yZ,yu]
    have ai:vs.length<=30:=by
     rw[X.len,ya];have:=yy (λp=>!evP p) (TI.take i);rw[yM] at this;lk
    show qE (λh=>?_) (λh=>?_)
    .ext;show qbg aj r.2 ?_;apply qbg aj r.1 ?_;apply⟨wqqn,λm hm=>?_⟩;show⟨by rw[ya];show qg (by lk),qw s4 hm,vs++[m],by rw[yu];rfl,?_⟩;have e:([p].filter λp=>!evP p).map (λp=>swP (nmP ss p))=[swP (nmP ss p)]:=by rw[yR,yH h];rfl
     show All2 _ _ (_++([p].filter λp=>!evP p).map (λp=>swP (nmP ss p)));rw[e];show(X.mono λt' q z=>qw (Sr J) hm _ _ z).snoc qc
    .show⟨s4,vs,rfl,?_⟩;have e:([p].filter λp=>!evP p).map (λp=>swP (nmP ss p))=[]:=by rw[yR,yE h];rfl
     show All2 _ _ (_++([p].filter λp=>!evP p).map (λp=>swP (nmP ss p)));rw[e,Yb];show X
   .obtain⟨s4,vs,rfl,X⟩:=d;have e:(ts.map V.ref).length=TI.length:=by rw[ya,I.2.len]
    rw[e,yD] at X;have bb:vs.length<=30:=by rw[X.len,ya];show yj (yy _ _) few
    show⟨by rw[ya];show yN (qg (by lk)),λr2 av=>?_⟩;have aq:=qw (Sr J) (o:=.lst (vs.map V.ref)) av;have s5:=s4.trans aq;have N:upd J r2 (.lst (vs.map V.ref)) r2=some (.lst (vs.map V.ref)):=qc;have ah:=X.mono λt g z=>aq _ _ z;generalize upd J r2 (.lst (vs.map V.ref))=H5 at s5 N ah;show qif ?_;apply vU ?_;apply⟨rfl,r1,_,rfl,.of (s5 _ _ M),λr3 aw=>?_⟩;rw[<- kn];have B:=qw (Sr H5) (o:=.lst (us.reverse.map V.ref)) aw;have O:upd H5 r3 (.lst (us.reverse.map V.ref)) r3=some (.lst (us.reverse.map V.ref)):=qc;generalize upd H5 r3 (.lst (us.reverse.map V.ref))=H6 at B O;show .inl ⟨r2,r3,_,_,rfl,rfl,B _ _ N,O,by rw[ya,ya,YI];show yN (qg (by lk)),λr4 ax=>?_⟩;rw[<- yu];have L:=qw (Sr H6) (o:=.lst ((vs++us.reverse).map V.ref)) ax;have s:upd H6 r4 (.lst ((vs++us.reverse).map V.ref)) r4=some (.lst ((vs++us.reverse).map V.ref)):=qc;have s7:=((s3.trans s5).trans B).trans L;have ao:=(s5.trans B).trans L
    have hU:All2 (λt g=>upd H6 r4 (.lst ((vs++us.reverse).map V.ref)) t=some (.tup [.str g.1,.str g.2])) (vs++us.reverse) (hdU ss TI):=by
     show All2.app9 (ah.mono λt g z=>L _ _ (B _ _ z)) ?_
     have am:∀{α β:Type} {R:α->β->Prop} {x:List α} {y:List β},All2 R x y->All2 R x.reverse y.reverse:=λ{α β R x y} h=>by
      show⟨by rw[YI,YI,h.len],λk a b ha hb=>?_⟩;have hk:=(yc.mp ha).1;rw[YI] at hk;rw[xY hk] at ha;rw[xY (by rw[<- h.len];show hk),<- h.len] at hb;show h.at_ _ a b ha hb
     show am (ag.mono λt g z=>ao _ _ z)
    generalize upd H6 r4 (.lst ((vs++us.reverse).map V.ref))=U at L s s7 ao hU;have ak:=s7 _ _ hn;have au:=I.same s7;have ar:=hd_go hO.nd hT
    have af:∀(S:Addr) (ns:LN) (D G:Hp),L2.Same U D->L2.Same D G->Wt cw (qhf D G) S ss ns (hdU ss TI)->Q (.ref S) G:=λS ns D G C s9 hW =>
     q S ns G ((s7.trans C).trans s9) ((hW.same λc o e=>qcL ((s7.trans C).free (qes e).1) (qes e).2).to (hT.go hO.nd) λ_ _ _ _=>hd_tA)
    apply zK au.1 ?_;apply vI (by decide) ?_;show qaT ?_;apply qE (λh=>?_) (λh=>?_)
    .ext;show⟨n,_,rfl,.inl ⟨.of ak,λt1 aa=>?_⟩⟩;have C:=qw (Sr U) (o:=.tup (ss.map V.str)) aa;have v:upd U t1 (.tup (ss.map V.str)) t1=some (.tup (ss.map V.str)):=qc;generalize upd U t1 (.tup (ss.map V.str))=D at C v;apply λS as ad j Z=>?_;show qf7 (.inr v) hO ⟨.inl (C _ _ s),hU.mono λt g z=>C _ _ z⟩ ar ad j Z λns G s9 hW=>⟨rfl,af S ns D G C s9 hW⟩
    .ext;show .inl ⟨n,_,rfl,.inl (.of ak),λt1 aa=>?_⟩;have C:=qw (Sr U) (o:=.lst (ss.map V.str)) aa;have v:upd U t1 (.lst (ss.map V.str)) t1=some (.lst (ss.map V.str)):=qc;generalize upd U t1 (.lst (ss.map V.str))=D at C v;apply⟨r4,_,rfl,.inl ⟨.of (C _ _ s),λt2 ay=>?_⟩⟩;have ae:=qw (Sr D) (o:=.tup ((vs++us.reverse).map V.ref)) ay;have an:upd D t2 (.tup ((vs++us.reverse).map V.ref)) t2=some (.tup ((vs++us.reverse).map V.ref)):=qc;have s9:=C.trans ae;generalize upd D t2 (.tup ((vs++us.reverse).map V.ref))=G at ae an s9;apply λS as ad j Z=>?_;show qf7 (.inl (ae _ _ v)) hO ⟨.inr an,hU.mono λt g z=>s9 _ _ z⟩ ar ad j Z λns H10 az hW=>⟨rfl,af S ns G H10 s9 az hW⟩
theorem and_or_dis:∀(a b:Nat),a &&& b=0->a+b=a ||| b:=by
 intro a
 induction a using Nat.strongRecOn with
 | ind a ih =>
  intro b h;by_cases d:a=0
  .subst d;simp
  .have c:(a / 2) &&& (b / 2)=0:=by rw[<- Nat.and_div_two,h]
   have e:=ih (a / 2) (by lk) (b / 2) c
   have h1:(a % 2) &&& (b % 2)=0:=by
    have:=congrArg (· % 2) h;simpa [Nat.and_mod_two_pow (n:=1)] using this
   have j:(a ||| b) / 2=a / 2 ||| b / 2:=Nat.or_div_two
   have i:(a ||| b) % 2=(a % 2) ||| (b % 2):=by
    simpa using Nat.or_mod_two_pow (a:=a) (b:=b) (n:=1)
   have g:(a % 2) ||| (b % 2)=a % 2+b % 2:=by
    rcases xU a with x | x<;>rcases xU b with y | y<;>rw[x,y] at h1 ⊢<;>first | rfl | show absurd h1 (by decide)
   have f:=Kk (a ||| b) 2;rw[j,i,g,<- e] at f;lk
def bsT(is:LN):Nat:=(is.map λk=>2 ^ k).sum
theorem qet:∀{is:LN},is.Nodup->∀ k,(bsT is).testBit k=decide (k∈is)
 | [],_,k=>by unfold bsT;simp
 | i::r,nd,k=>by
  obtain⟨c,d⟩:=yp.mp nd;have a:=qet d;have e:bsT (i::r)=2 ^ i+bsT r:=by unfold bsT;rw[Ys,List.sum_cons]
  have b:2 ^ i &&& bsT r=0:=by
   apply YW;intro j;rw[Nat.testBit_and,xp,YA,a];by_cases h:i=j
   .subst h;rw[ym c,Kn]
   .rw [ym h,kH]
  rw[e,and_or_dis _ _ b,Xr,xp,a,yT,xt,yC,yC,yC,yF];show⟨λz=>z.imp Kx id,λz=>z.imp Kx id⟩
theorem bsT_lt{is:LN}(nd:is.Nodup)(h:∀ k∈is,k<n):bsT is<2 ^ n:=by
 show XJ _ λi a=>?_;rw[qet nd];show ym λz=>by have:=h i z;lk
theorem qa9(r:α->α->Prop)(f:∀ a,¬ r a a)(g:∀ a b,r a b->¬ r b a):∀(l m:List α),l.Pairwise r->m.Pairwise r->(∀ x,x∈l↔x∈m)->l=m
 | [],[],_,_,_=>rfl
 | [],b::m,_,_,h=>by have:=(h b).mpr (yL ..);cases this
 | a::l,[],_,_,h=>by have:=(h a).mp (yL ..);cases this
 | a::l,b::m,hl,hm,h=>by
  have c:=Xv.mp hl;have d:=Xv.mp hm
  have j:a=b:=by
   rcases yF.mp ((h a).mp (yL ..)) with e | e
   .show e
   .rcases yF.mp ((h b).mpr (yL ..)) with e2 | e2
    .show e2.symm
    .show absurd (d.1 a e) (g _ _ (c.1 b e2))
  subst j
  congr 1
  show qa9 r f g l m c.2 d.2 λx=>⟨λi=>?_,λi=>?_⟩
  .rcases yF.mp ((h x).mp (yz _ i)) with e | e
   .subst e;show absurd (c.1 x i) (f x)
   .show e
  .rcases yF.mp ((h x).mpr (yz _ i)) with e | e
   .subst e;show absurd (d.1 x i) (f x)
   .show e
theorem qhg{P c:Nat}(h:P<2 ^ n)(hc:P.testBit c=true):c<n:=by
 apply Xb;intro a;rw[YX (yk h (xi (by decide) (by lk)))] at hc;cases hc
def adjI(TI:List (Nat×Nat))(a b:Nat):Prop:=(a,b)∈TI\/(b,a)∈TI
def bsN(TI:List (Nat×Nat))(h:Nat):LN:=(TI.filter λp=>decide (h=p.1)||decide (h=p.2)).map λp=>p.1+p.2-h
inductive RI(TI:List (Nat×Nat))(a:Nat):Nat->Prop
 | refl:RI TI a a
 | on {b c:Nat} (h:RI TI a b) (t:adjI TI b c):RI TI a c
def BI(ns:LN)(TI:List (Nat×Nat)):Prop:=∀ a b,(ns.getD a 0).testBit b=true↔adjI TI a b
theorem RI.trans{TI:List (Nat×Nat)}{a b c:Nat}(h:RI TI a b)(k:RI TI b c):RI TI a c:=by
 induction k with
 | refl=>show h
 | on _ t ih=>show ih.on t
theorem adjI.symm{TI:List (Nat×Nat)}{a b:Nat}(h:adjI TI a b):adjI TI b a:=Or.symm h
theorem RI.symm{TI:List (Nat×Nat)}{a b:Nat}(h:RI TI a b):RI TI b a:=by
 induction h with
 | refl=>show .refl
 | on _ t ih=>show(RI.refl.on t.symm).trans ih
section
variable{n:Nat}{TI:List (Nat×Nat)}
theorem TIok.adj(c:TIok n TI){a b:Nat}(h:adjI TI a b):a<n/\b<n/\a≠b:=by
 rcases h with h | h<;>have:=c.ok _ h<;>simp only at this<;>lk
theorem zP(d:TIok n TI){h b:Nat}:b∈bsN TI h↔adjI TI h b:=by
 unfold bsN;rw[yJ];constructor
 .rintro ⟨p,c,rfl⟩;obtain⟨a,e⟩:=yq.mp c;rw[xt,yC,yC] at e;rcases e with e | e
  .subst e;rw[show p.1+p.2-p.1=p.2 by lk];show .inl a
  .subst e;rw[show p.1+p.2-p.2=p.1 by lk];show .inr a
 .rintro (k | k)
  .show⟨_,yq.mpr ⟨k,by simp⟩,by show h+b-h=b;lk⟩
  .show⟨_,yq.mpr ⟨k,by simp⟩,by show b+h-h=b;lk⟩
theorem sum_sub{a b h:Nat}(e:h=a\/h=b):(a=h/\a+b-h=b)\/(b=h/\a+b-h=a):=by
 rcases e with e | e<;>subst e<;>simp
theorem qe5(c:TIok n TI)(h:Nat):(bsN TI h).Nodup:=by
 unfold bsN;show YM.mpr ((c.nd.filter _).imp_of_mem λ{a b} d g f e=>f ?_);have ⟨d,i⟩:=yq.mp d;have ⟨g,j⟩:=yq.mp g;have k:=(c.ok a d).1;have l:=(c.ok b g).1;rw[xt,yC,yC] at i j
 rcases sum_sub i with ⟨p,q⟩ | ⟨p,q⟩<;>rcases sum_sub j with ⟨r,s⟩ | ⟨r,s⟩<;>rw[q,s] at e
 .show XV (p.trans r.symm) e
 .show absurd (Nat.lt_trans (p ▸ e ▸ k) (r ▸ l)) (Nat.lt_irrefl _)
 .show absurd (Nat.lt_trans (p ▸ e ▸ k) (r ▸ l)) (Nat.lt_irrefl _)
 .show XV e (p.trans r.symm)
theorem qeu(a:TIok n TI)(h:Nat):(bsN TI h).length<=30:=by
 unfold bsN;rw[ya];show yj (yy _ _) a.few
def zy(TI:List (Nat×Nat))(v:Nat):Nat:=bsT (bsN TI v)
theorem qaj(a:TIok n TI){b:Nat}:(zy TI v).testBit b=true↔adjI TI v b:=by
 unfold zy;rw[qet (qe5 a v),yC,zP a]
theorem qf8(a:TIok n TI)(v:Nat):zy TI v<2 ^ n:=bsT_lt (qe5 a v) λk b=>(a.adj ((zP a).mp b)).2.1
theorem BI.col(h:BI ns TI)(a:TIok n TI)(v:Nat):ns.getD v 0=zy TI v:=YW λi=>by
 rw[yT,h v i,qaj a]
theorem qe6(c:BI ns TI){a b:Nat}:Rch ns a b↔RI TI a b:=by
 constructor
 .intro h
  induction h with
  | zero=>show .refl
  | step _ t ih=>show ih.on ((c _ _).mp t)
 .intro h
  induction h with
  | refl=>show .zero
  | on _ t ih=>show .step ih ((c _ _).mpr t)
def nr(TI:List (Nat×Nat))(cl:Nat->Bool)(n s:Nat)(c:Bool):LN:=(List.range n).filter λv=>@decide (RI TI s v/\cl v=c) (Classical.propDecidable _)
theorem nr_mem:v∈nr TI cl n s c↔v<n/\RI TI s v/\cl v=c:=by
 unfold nr;rw[yq,Yd,@decide_eq_true_iff _ (Classical.propDecidable _)]
theorem nr_inc:(nr TI cl n s c).Pairwise (· < ·):=xC _ xo
theorem nr_nd:(nr TI cl n s c).Nodup:=nr_inc.imp λh e=>by lk
theorem qcb:(nr TI cl n s c).length<=n:=by
 unfold nr;have:=yy (λv=>@decide (RI TI s v/\cl v=c) (Classical.propDecidable _)) (List.range n)
 rwa[YF] at this
theorem qf9{l m:LN}(hl:∀ v,v∈l↔v<n/\RI TI s v/\cl v=c)(nd:l.Nodup)(e:m.Perm l)(f:m.Pairwise (·<=·)):m=nr TI cl n s c:=by
 show qa9 (· < ·) (λa=>Yp a) (λa b h k=>Kg h k) m _ ?_ nr_inc λx=>?_
 .have d:=(e.nodup_iff).mpr nd;show(List.Pairwise.and f d).imp λ{a b} h=>Nat.lt_of_le_of_ne h.1 h.2
 .rw [e.mem_iff,hl,nr_mem]
end
theorem Wt.bi{TI:List (Nat×Nat)}(W:Wt cw H x ss ns (TI.map (nmP ss)))(d:TIok ss.length TI):BI ns TI:=by
 have f:=W.wok.nd
 have l:∀{i j:Nat},i<ss.length->j<ss.length->((tn ss i,tn ss j)∈TI.map (nmP ss)↔(i,j)∈TI):=λ{i j} o q=>by
  constructor
  .intro h;obtain⟨p,g,e⟩:=yJ.mp h;have k:=d.ok p g;have m:=jP f (i:=p.1) (j:=i) (by lk) o (congrArg Prod.fst e);have n:=jP f (i:=p.2) (j:=j) (by lk) q (congrArg Prod.snd e);rw[<- m,<- n];show g
  .show λh=>yJ.mpr ⟨_,h,rfl⟩
 intro a b;by_cases c:a<ss.length
 .by_cases hb:b<ss.length
  .rw [W.adj a b _ _ (qai c) (qai hb),l c hb,l hb c];show Ky
  .show⟨λh=>absurd (qhg (W.wok.lt a) h) hb,λh=>absurd (d.adj h).2.1 hb⟩
 .show⟨λh=>?_,λh=>absurd (d.adj h).1 c⟩;have hl:=W.wok.len;rw[Yg,xZ (by lk)] at h;simp at h
def par{α:Type}(l:List α)(p:α->Bool):Bool:=l.foldr (λi b=>p i ^^ b) false
section
variable{α β:Type}
theorem jt(x:α)(l:List α)(p:α->Bool):par (x::l) p=(p x ^^ par l p):=rfl
theorem qhh{l:List α}{p:α->Bool}(h:∀ i∈l,p i=false):par l p=false:=by
 induction l with
 | nil=>rfl
 | cons x l ih=>rw[jt,h x yL,ih λi a=>h i (yz _ a)];rfl
theorem zQ{l:List α}{p q:α->Bool}(h:∀ i∈l,p i=q i):par l p=par l q:=by
 induction l with
 | nil=>rfl
 | cons x l ih=>rw[jt,jt,h x yL,ih λi a=>h i (yz _ a)]
theorem qga(l:List α)(p q:α->Bool):par l (λi=>p i ^^ q i)=(par l p ^^ par l q):=by
 induction l with
 | nil=>rfl
 | cons x l ih=>rw[jt,jt,jt,ih];cases p x<;>cases q x<;>cases par l p<;>cases par l q<;>rfl
theorem par_one{l:List α}(nd:l.Nodup){x:α}(b:x∈l){p:α->Bool}(h:∀ i∈l,i≠x->p i=false):par l p=p x:=by
 induction l with
 | nil=>cases b
 | cons y l ih =>
  obtain⟨c,d⟩:=yp.mp nd;rw[jt];by_cases e:y=x
  .subst e;rw[qhh λi a=>h i (yz _ a) λz=>c (z ▸ a)];cases p y<;>rfl
  .rw [h y yL e,ih d ((yF.mp b).resolve_left (Yw e)) λi a=>h i (yz _ a)];cases p x<;>rfl
theorem qev(l:List α)(p:α->Bool):par l p=decide ((l.filter p).length % 2=1):=by
 induction l with
 | nil=>rfl
 | cons x l ih =>
  rw[jt,ih,yR];cases p x
  .rw [yE (by decide),Kp]
  .rw [yH rfl,Yk];rcases xU (l.filter p).length with k | k
   .rw [k,show((l.filter p).length+1) % 2=1 by lk];rfl
   .rw [k,show((l.filter p).length+1) % 2=0 by lk];rfl
end
def dot(n:Nat)(T:Nat->Bool)(v:Nat):Bool:=par (List.range n) λb=>T b&&v.testBit b
theorem dot_xor(n:Nat)(T:Nat->Bool)(v w:Nat):dot n T (v ^^^ w)=(dot n T v ^^ dot n T w):=by
 unfold dot;rw[<- qga];show zQ λb _=>?_;rw[Yh];cases T b<;>cases v.testBit b<;>cases w.testBit b<;>rfl
theorem qgb(n:Nat)(T U:Nat->Bool)(v:Nat):dot n (λb=>T b ^^ U b) v=(dot n T v ^^ dot n U v):=by
 unfold dot;rw[<- qga];show zQ λb _=>?_;show((T b ^^ U b)&&_)=_;cases T b<;>cases U b<;>cases v.testBit b<;>rfl
theorem qio:∀{L:LN} {g:Nat},g<2 ^ n->(∀ v∈L,v<2 ^ n)->¬ Spn L g->∃ T:Nat->Bool,(∀ v∈L,dot n T v=false)/\dot n T g=true
 | [],g,hg,_,h=>by
  obtain⟨b,hb⟩:∃ b,g.testBit b=true:=Xb λz=>h (YW λi=>by
   rw[YA]
   cases e:g.testBit i with
   | false=>rfl
   | true=>show absurd ⟨i,e⟩ z)
  show⟨λi=>decide (i=b),λv hv=>by(cases hv),?_⟩;unfold dot;rw[par_one List.nodup_range (x:=b) (Yd.mpr (qhg hg hb)) λi _ ne=>by show(decide (i=b)&&_)=_;rw[ym ne];rfl];show(decide (b=b)&&_)=_;rw[yx rfl,hb];rfl
 | x::L,g,hg,hL,h=>by
  have q:=hL x yL;have c:∀ v∈L,v<2 ^ n:=λv hv=>hL v (yz _ hv);have h1:¬ Spn L g:=λz=>h (.inl z);have p:¬ Spn L (g ^^^ x):=λz=>h (.inr z);obtain⟨T,j,l⟩:=qio hg c h1;obtain⟨U,m,a⟩:=qio (kL hg q) c p;rw[dot_xor] at a
  cases f:dot n T x with
  | false =>
   show⟨T,λv hv=>?_,l⟩;rcases yF.mp hv with z | z
   .rw [z];show f
   .show j v z
  | true =>
   cases d:dot n U x with
   | false =>
    rw[d,YJ] at a;show⟨U,λv hv=>?_,a⟩;rcases yF.mp hv with z | z
    .rw [z];show d
    .show m v z
   | true =>
    rw[d,XA] at a;show⟨λb=>T b ^^ U b,λv hv=>?_,?_⟩
    .rw [qgb];rcases yF.mp hv with z | z
     .rw [z,f,d];rfl
     .rw [j v z,m v z];rfl
    .rw [qgb,l]
     cases o:dot n U g with
     | false=>rfl
     | true=>rw[o] at a;cases a
theorem qdq{f:Nat->Nat}{x:Nat->Bool}:∀{l:LN} {g:Nat},(∀ b,g.testBit b=par l λv=>x v&&(f v).testBit b)->Spn (l.map f) g
 | [],g,h=>YW λb=>by rw[h b,YA];rfl
 | a::l,g,h=>by
  cases e:x a with
  | false =>
   show .inl (qdq (x:=x) λb=>?_);rw[h b,jt,e,kH,Kp]
  | true =>
   show .inr (qdq (x:=x) λb=>?_);rw[Yh,h b,jt,e,Kt];cases (f a).testBit b<;>cases par l _<;>rfl
def oth(TI:List (Nat×Nat))(cl:Nat->Bool)(n s:Nat):LN:=(nr TI cl n s (cl s)).filter λv=>!decide (v=s)
def Lst(TI:List (Nat×Nat))(cl:Nat->Bool)(n s:Nat):Prop:=Spn ((oth TI cl n s).map (zy TI)) (zy TI s)
theorem qc6(l:List α)(q p:α->Bool):par (l.filter q) p=par l λi=>q i&&p i:=by
 induction l with
 | nil=>rfl
 | cons x l ih =>
  rw[yR,jt,<- ih];cases q x
  .rw [yE (by decide),kH,Kp]
  .rw [yH rfl,Kt,jt]
theorem qew{l:LN}{q:Nat->Bool}(nd:l.Nodup)(hl:∀ v∈l,v<n)(h:∀ v,v<n->q v=true->v∈l):par l q=par (List.range n) q:=by
 have e:par l q=par (l.filter q) λ_=>true:=by rw[qc6];show zQ λi _=>by cases q i<;>rfl
 have a:par (List.range n) q=par ((List.range n).filter q) λ_=>true:=by rw[qc6];show zQ λi _=>by cases q i<;>rfl
 rw[e,a]
 have:(l.filter q).Perm ((List.range n).filter q):=by
  show(xV (nd.filter _) (List.nodup_range.filter _)).mpr λv=>?_;rw[yq,yq,Yd];show⟨λz=>⟨hl v z.1,z.2⟩,λz=>⟨h v z.1 z.2,z.2⟩⟩
 rw[qev,qev,(this.filter _).length_eq]
section
variable{n:Nat}{TI:List (Nat×Nat)}{cl:Nat->Bool}{s p:Nat}
theorem oth_mem:v∈oth TI cl n s↔(v<n/\RI TI s v/\cl v=cl s)/\v≠s:=by
 unfold oth;rw[yq,nr_mem];simp
theorem qgc(c:TIok n TI)(a b:Nat):(zy TI a).testBit b=(zy TI b).testBit a:=by
 rw[yT,qaj c,qaj c];show⟨adjI.symm,adjI.symm⟩
theorem lost_mask(a:TIok n TI)(h:¬ Lst TI cl n s):∃ T:Nat->Bool,(∀ v∈oth TI cl n s,dot n T (zy TI v)=false)/\dot n T (zy TI s)=true:=by
 obtain⟨T,h1,b⟩:=qio (qf8 a s) (λv hv=>by obtain⟨w,_,rfl⟩:=yJ.mp hv;show qf8 a w) h;show⟨T,λv hv=>h1 _ (yJ.mpr ⟨v,hv,rfl⟩),b⟩
theorem far_spn(g:TIok n TI)(i:∀ a b,adjI TI a b->cl b=!cl a)(o:s<n)(h:¬ Lst TI cl n s):Spn ((nr TI cl n s (!cl s)).map (zy TI)) (1 <<< s):=by
 obtain⟨T,l,m⟩:=lost_mask g h;show qdq (x:=T) λb=>?_;rw[qb3]
 have e:∀ b,cl b=cl s->RI TI s b->(par (nr TI cl n s (!cl s)) λf=>T f&&(zy TI f).testBit b)=dot n T (zy TI b):=λb hb j=>by
  unfold dot;rw[<- qew (n:=n) nr_nd (λf d=>(nr_mem.mp d).1) λf d k=>?_]
  .show zQ λf _=>by rw[qgc g]
  .rw [Yl] at k;have a:=(qaj g).mp k.2;show nr_mem.mpr ⟨d,j.on a,by rw[i _ _ a,hb]⟩
 by_cases c:b=s
 .subst c;rw[e b rfl .refl,m,yx rfl]
 .rw [ym c];by_cases hb:b∈oth TI cl n s
  .have k:=oth_mem.mp hb;rw[e b k.1.2.2 k.1.2.1,l b hb]
  .show(qhh λf d=>?_).symm
   cases k:(zy TI f).testBit b with
   | false=>show Kn _
   | true =>
    have a:=(qaj g).mp k;show absurd (oth_mem.mpr ⟨⟨(g.adj a).2.1,(nr_mem.mp d).2.1.on a,?_⟩,c⟩) hb;rw[i _ _ a,(nr_mem.mp d).2.2,Bool.not_not]
end
open Classical in
section
variable{n:Nat}{TI:List (Nat×Nat)}{cl:Nat->Bool}{s:Nat}
end
theorem vw:FnScope wqt wqt (qf qaq):=fS
theorem uu:FnScope ["_law_ties","_law_start","_law_side","_law_line","_law_here","_law_other"] wqh (qf qbM):=fS
theorem qgd(c:H a=some (.lst xs))(hb:H b=some (.lst [])):EqT K H 1 a b xs.isEmpty:=by
 cases xs with
 | nil=>show EqT.lst (n:=0) (e:=λ_=>true) (SqL.of c) (SqL.of hb) rfl λj x y h=>by(simp at h)
 | cons x r=>show EqT.lstL (SqL.of c) (SqL.of hb) (by simp)
theorem qe7{Q:VK}(c:H a=some (.lst xs))(hb:H b=some (.lst []))(q:Q (.bl (!xs.isEmpty)) H):qg0 K true (.ref a) (.ref b) H Q:=
 .inr (.inl ⟨a,b,_,1,rfl,rfl,by decide,qgd c hb,q⟩)
theorem qcM{l:LN}(nd:l.Nodup)(h:∀ v∈l,v<n):l.length<=n:=by
 have e:l.Perm ((List.range n).filter λv=>decide (v∈l)):=(xV nd (List.nodup_range.filter _)).mpr λv=>by
  rw[yq,Yd,yC];show⟨λz=>⟨h v z,z⟩,λz=>z.2⟩
 rw[e.length_eq];have:=yy (λv=>decide (v∈l)) (List.range n)
 rwa[YF] at this
inductive spBeI(vs:List V)(H:Hp)(Q:VK)(E:XK):Prop|mk (l:Addr) (ts:LI) (TI:List (Nat×Nat)) (h n:Nat) (_:vs=[.ref l,iv h]) (_:IPL H l ts TI) (_:TIok n TI) (_:∀(b:Addr) (H':Hp),L2.Same H H'->H b=none->H' b=some (.lst (ivs (bsN TI h)))->Q (.ref b) H')
def sdK(cl:Nat->Bool)(s:Nat)(vis:LN):List (Key×V):=vis.map λ(v:Nat)=>((Sum.inl (v:Int):Key),iv (if cl v=cl s then 0 else 1))
theorem qcc(cl:Nat->Bool)(s:Nat)(v:Nat):∀ vis:LN,qam (sdK cl s vis) (Sum.inl (v:Int):Key)=if v∈vis then some (iv (if cl v=cl s then 0 else 1)) else none
 | []=>rfl
 | u::vis=>by
  have a:=qcc cl s v vis;unfold sdK at a ⊢;unfold qam at a ⊢;rw[Ys,xD];by_cases h:u=v
  .subst h;rw[yx rfl,yH yL];rfl
  .have ne:¬ (Sum.inl (u:Int):Key)=Sum.inl (v:Int):=λe=>h (by have:=Sum.inl.inj e;lk);rw[ym ne];by_cases b:v∈vis
   .rw [yH b] at a;rw[yH (yz _ b)];show a
   .rw [yE b] at a;rw[yE (λz=>b ((yF.mp z).resolve_left (Yw h)))];show a
theorem sd_put(h:v∉vis):qbT (sdK cl s vis) (Sum.inl (v:Int):Key) (iv (if cl v=cl s then 0 else 1))=sdK cl s (vis++[v]):=by
 rw[qdb _ (by rw[qcc,yE h])];unfold sdK;rw[yu];rfl
def DvC(TI:List (Nat×Nat))(s:Nat)(cl:Nat->Bool)(vis:LN):Prop:=∀ col:Nat->Bool,(∀ a b,adjI TI a b->col b=!col a)->∀ v∈vis,(cl v=cl s↔col v=col s)
theorem qhD{col:Nat->Bool}(h:∀ v∈vis,(cl v=cl s↔col v=col s)):sdK cl s vis=sdK col s vis:=by
 unfold sdK;show xq λv hv=>?_;by_cases k:cl v=cl s
 .rw [yH k,yH ((h v hv).mp k)]
 .rw [yE k,yE λz=>k ((h v hv).mpr z)]
inductive spSiI(vs:List V)(H:Hp)(Q:VK)(E:XK):Prop|mk (l:Addr) (ts:LI) (TI:List (Nat×Nat)) (s n:Nat) (_:vs=[.ref l,iv s]) (_:IPL H l ts TI) (_:TIok n TI) (_:n<=14) (_:s<n) (_:∀(d:Addr) (vis:LN) (cl:Nat->Bool) (H':Hp),L2.Same H H'->H d=none->H' d=some (.dK (sdK cl s vis))->DvC TI s cl vis->vis.Nodup->(∀ v,v∈vis↔v<n/\RI TI s v)->Q (.ref d) H')
theorem ok_beI(F:Fun K "_law_beside" "_law_beside" qaq f fd):wqqj 1 f fd wqt spBeI:=by
 show F.ok vw λ_ _ _ _ H vs Q E O h=>?_
 .obtain⟨l,ts,TI,h,n,rfl,c,v,q⟩:=h;have R:=jw O;show⟨_,(qe (qi (qK (sc:=qf qaq) (XN:=wqt) wqS 2 [1] rfl rfl rfl (by room) rfl (by room)
  (qc2 (K:=K) rfl (pv 0)) (λ_ _ _ _=>(qbh (n:=2) rfl (qU (qp (i:=0) (show(wqS:LS).Nodup by room) rfl (yG rfl)) (qU (qp (i:=1) (show(wqS:LS).Nodup by room) rfl (yG rfl)) qaf)))) qd1
  (λ_ _ _ _=>(qJ (qj (qaO (K:=K) rfl R) (pv 2) (ji (qa (pv 0) (qa (pv 1) qb))) (by with_unfolding_all rfl))))
  (λ_ _ _ _=>(qM qcu (qM (qaN (K:=K) rfl) (pv 0) (pv 1)) (pv 2)))))),?_⟩
  apply qfl ?_;apply⟨l,_,rfl,.of c.1,qx (xs:=ts.map V.ref) (λi ys J=>L2.Same H J/\ys=ivs (bsN (TI.take i) h)) ⟨L2.Same.refl H,rfl⟩ (λi ys J _ a=>.of (a.1 _ _ c.1)) (λi x ys J D a=>?_) λys J a=>?_⟩
  .obtain⟨j,rfl⟩:=a;rw[ye] at D;obtain⟨u,g,rfl⟩:=yo.mp D;have M:i<TI.length:=by rw[<- c.2.len];show(yc.mp g).1
   obtain⟨p,y⟩:∃ p,TI[i]?=some p:=⟨_,yb M⟩;have z:=j _ _ (c.2.at_ i u p g y);show⟨u,_,rfl,.of z,rfl,_,_,rfl,_,_,rfl,rfl,?_⟩;apply⟨wqqn,λm N=>?_⟩;have A:=qw j (o:=iT p) N;have d:upd J m (iT p) m=some (iT p):=qc;generalize upd J m (iT p)=S at A d;apply .inl ⟨m,_,rfl,.inr (SqT.of d),rfl,rfl,?_⟩
   have t:(if false=true then !inV (iv h) [iv p.1,iv p.2] else inV (iv h) [iv p.1,iv p.2])=(decide (h=p.1)||decide (h=p.2)):=by
    rw[yE (by decide)];have B:=zl (p.1:Int) (h:Int);have C:=zl (p.2:Int) (h:Int);rw[yE (by decide)] at B C;show(eqV (iv p.1) (iv h)||(eqV (iv p.2) (iv h)||false))=_;rw[B,C,kW]
    congr 1<;>show yY.mpr (by lk)
   rw[t]
   have s:bsN (TI.take (i+1)) h=bsN (TI.take i) h++bsN [p] h:=by
    unfold bsN;rw[yI,y,yZ,yu];rfl
   rw[s]
   have L:(bsN (TI.take i) h).length<=30:=by
    unfold bsN;rw[ya];show yj (yy _ _) ?_;rw[yM];have:=v.few;lk
   ext
   cases r:(decide (h=p.1)||decide (h=p.2)) with
   | false =>
    show yr ?_;have G:bsN [p] h=[]:=by unfold bsN;rw[yR,r];rfl
    rw[G];show⟨A,by simp⟩
   | true =>
    show jv ?_;ext;have I:bsN [p] h=[p.1+p.2-h]:=by unfold bsN;rw[yR,r];rfl
    rw[I];have T:=v.ok p (yf y);rw[xt,yC,yC] at r;show⟨by rw[ya];show qg (by lk),A,?_⟩;show _=List.map iv _;rw[yu];show _++[V.int _]=_++[V.int ((p.1+p.2-h:Nat):Int)]
    congr 3
    lk
  .obtain⟨j,rfl⟩:=a;have e:(ts.map V.ref).length=TI.length:=by rw[ya,c.2.len]
   rw[e,yD];show⟨by rw[ya];show yN (qg (by have:=qeu v h;lk)),λb hb=>?_⟩;show q b _ (qw j hb) (j.free hb) qc
theorem ok_siI(F:Fun K "_law_sides" "_law_sides" qbM f fd)(T:Txt K mg cc cw)(KU:wqqh 1 "_law_beside" wqt spBeI):wqqj 2 f fd wqh spSiI:=by
 show F.ok uu λ_ _ _ _ H vs Q E hr h=>?_
 .obtain⟨l,ts,TI,st,n,rfl,hI,hT,bo,bg,q⟩:=h;have X:=jw hr;show⟨_,(qd (qr (i:=2) uu.nd rfl (yG rfl) (pe_disp (pps_cons (pv 1) qh pps_nil) rfl rfl (λh=>nomatch h) (by show 1<=15;decide)))
 (qd (qr (i:=3) uu.nd rfl (yG rfl) (qS (qa (pv 1) qb)))
 (qd (qcf yX (qj (zT (K:=K) rfl X) (pv 3) (qS qb) (qu _))
 (qd (qr (i:=4) uu.nd rfl (yG rfl) (qh0 (K:=K) rfl yV PySem.F.slot_list_pop PySem.F.type_list_pop mtR_pop (pv 3)))
 (qe (jq yX rfl (qL (K:=K) rfl (qm KU (hmR hr) qv (qa (pv 0) (qa (pv 4) qb)))) (qp (i:=5) uu.nd rfl (yG rfl))
 (qe (qG (qj (zc (K:=K) rfl X) (pv 5) (pv 2) (by with_unfolding_all rfl)) (qd (qbt (qM qcu qh (qA (qB (K:=K) rfl X) (pv 2) (pv 4) (λ_ _=>rfl))) (qb9 (pv 2) (pv 5) (qca X)))
 (qe (qN (qeb (K:=K) rfl yV Ym Yn je (pv 3) (qa (pv 5) qb))))) qt))))))
 (qe (qi (pv 2)))))),?_⟩
  ext;intro d hd;show⟨_,rfl,qc,[(Sum.inl (st:Int),V.int 0)],rfl,by show 1<=15;decide,?_⟩;have s1:L2.Same H (upd (upd H d (HO.dK [])) d (HO.dK (qbv [] [(Sum.inl (st:Int),V.int 0)]))):=qgr (qgr (Sr H) hd) hd
  have ed:upd (upd H d (HO.dK [])) d (HO.dK (qbv [] [(Sum.inl (st:Int),V.int 0)])) d=some (.dK (sdK (λ_=>false) st [st])):=by
   rw[qc];have e0:sdK (λ_=>false) st [st]=[(Sum.inl (st:Int),V.int 0)]:=by unfold sdK;rw[Ys,yH rfl];rfl
   rw[e0];rfl
  show qhE _ _ _ _ (upd (upd H d (HO.dK [])) d (HO.dK (qbv [] [(Sum.inl (st:Int),V.int 0)])));generalize upd (upd H d (HO.dK [])) d (HO.dK (qbv [] [(Sum.inl (st:Int),V.int 0)]))=H1 at s1 ed;apply⟨wqqm,λj U=>?_⟩;have s2:=qw s1 (o:=.lst (ivs [st])) U;have bj:=qw (Sr H1) (o:=.lst (ivs [st])) U;have ew:upd H1 j (.lst (ivs [st])) j=some (.lst (ivs [st])):=qc;have am:=bj _ _ ed;have aw:H j=none:=s1.free U;have aj:j≠d:=λz=>by rw[z,ed] at U;cases U
  show qhE _ _ _ _ (upd H1 j (.lst (ivs [st])));generalize upd H1 j (.lst (ivs [st]))=H2 at s2 ew am;ext;obtain⟨Wp,ag⟩:∃ Wp:Nat->L2.St->Hp->Prop,Wp=λm σ J=>∃(cl:Nat->Bool) (vis wl:LN) (y4 y5:Option V),m=2*(n-vis.length)+wl.length/\σ=[some (.ref l),some (iv st),some (.ref d),some (.ref j),y4,y5]/\L2.Same H J/\J j=some (.lst (ivs wl))/\J d=some (.dK (sdK cl st vis))/\DvC TI st cl vis/\vis.Nodup/\(∀ v∈vis,v<n/\RI TI st v)/\(∀ v∈wl,v∈vis)/\(∀ a∈vis,a∉wl->∀ b,adjI TI a b->b∈vis)/\st∈vis/\wl.length<=vis.length:=⟨_,rfl⟩
  have vl:∀{vis:LN},vis.Nodup->(∀ v∈vis,v<n/\RI TI st v)->vis.length<=n:=λ{vis} h1 h2=>by
   show qcM h1 λv hv=>(h2 v hv).1
  show⟨Wp,⟨_,by rw[ag];show⟨_,[st],[st],none,none,rfl,rfl,s2,ew,am,λcol _ v hv=>by rw[yw.mp hv];show⟨λ_=>rfl,λ_=>rfl⟩,by simp,λv hv=>by rw[yw.mp hv];show⟨bg,.refl⟩,λv hv=>hv,λa ha hn=>absurd ha hn,by simp,yi _⟩⟩,λm σ J hW=>?_⟩;rw[ag] at hW;obtain⟨cl,vis,wl,y4,y5,hm,rfl,sJ,af,ao,M,A,g,W,R,r,ai⟩:=hW;have bh:=vl A g;apply⟨wqql,λe be=>?_⟩;have s3:=qw (Sr J) (o:=.lst []) be;have ee:upd J e (.lst []) e=some (.lst []):=qc;generalize upd J e (.lst [])=J3 at s3 ee;show qe7 (s3 _ _ af) ee ?_;ext
  have hL:wl=[]\/∃ c a,wl=c++[a]:=by
   rcases List.eq_nil_or_concat wl with h | ⟨c,a,h⟩
   .show .inl h
   .show .inr ⟨c,a,by rw[h,List.concat_eq_append]⟩
  rcases hL with rfl | ⟨c,a,rfl⟩
  .show yr ?_;apply q d vis cl J3 (sJ.trans s3) hd (s3 _ _ ao) M A λv=>⟨g v,λh=>?_⟩;obtain⟨_,h⟩:=h
   induction h with
   | refl=>show r
   | on _ t ih=>show R _ (ih (hT.adj t).1) (by simp) _ t
  .show qE (λ_=>⟨λbm H'=>∃ n',n'<m/\Wp n' bm H',λ_ _ z=>z,?_⟩) λh=>absurd (show(!(ivs (c++[a])).isEmpty)=true by rw[show ivs (c++[a])=ivs c++[iv a] from yu ..];cases ivs c<;>rfl) h;apply⟨.inl ⟨rfl,_,.of (s3 _ _ af)⟩,?_⟩;show⟨j,_,iv a,rfl,rfl,s3 _ _ af,by rw[ya,yK,ye];simp,?_⟩;have ba:(ivs (c++[a])).dropLast=ivs c:=by rw[show ivs (c++[a])=ivs c++[iv a] from yu ..];simp
   rw[ba];have s4:L2.Same H (upd J3 j (.lst (ivs c))):=qgr (sJ.trans s3) aw;have ad:upd J3 j (.lst (ivs c)) j=some (.lst (ivs c)):=qc;have ac:upd J3 j (.lst (ivs c)) d=some (.dK (sdK cl st vis)):=by rw[qo (Yw aj)];show s3 _ _ ao
   generalize upd J3 j (.lst (ivs c))=J4 at s4 ad ac;have p:a∈vis:=W a (by simp);have bp:=g a p;apply⟨l,ts,TI,a,n,rfl,hI.same s4,hT,λb J5 s5 Z hb=>?_⟩;have az:b≠j:=λz=>by rw[z,ad] at Z;cases Z
   have bd:b≠d:=λz=>by rw[z,ac] at Z;cases Z
   show .inl ⟨⟨_,.of hb⟩,jX (xs:=ivs (bsN TI a)) (λi σ G=>∃(cl:Nat->Bool) (vs B:LN) (y5:Option V),σ=[some (.ref l),some (iv st),some (.ref d),some (.ref j),some (iv a),y5]/\L2.Same H G/\G b=some (.lst (ivs (bsN TI a)))/\G j=some (.lst (ivs B))/\G d=some (.dK (sdK cl st vs))/\DvC TI st cl vs/\vs.Nodup/\(∀ v∈vs,v<n/\RI TI st v)/\(∀ v∈B,v∈vs)/\(∀ u∈vs,u∉B->u≠a->∀ x,adjI TI u x->x∈vs)/\st∈vs/\a∈vs/\(∀ x∈(bsN TI a).take i,x∈vs)/\2*(n-vs.length)+B.length<=2*(n-vis.length)+c.length/\B.length<=vs.length)
    ⟨cl,vis,c,_,rfl,s4.trans s5,hb,s5 _ _ ad,s5 _ _ ac,M,A,g,λv hv=>W v (by simp[hv]),λu X hw ne=>R u X (by simp[hw,ne]),r,p,λx I=>by simp at I,yi _,by simp at ai;lk⟩
    (λi σ G _ hp=>?_) (λi y σ G hy hp=>?_) fun σ G hp=>?_⟩
   .obtain⟨cl,vs,B,y5,_,_,e,_⟩:=hp;show .of e
   .obtain⟨cl,vs,B,y5,rfl,sG,ab,Y,L,M,A,g,W,R,r,p,S,as,ai⟩:=hp;have bh:=vl A g;rw[ye] at hy;obtain⟨o,ho,rfl⟩:=yo.mp hy;have ah:adjI TI a o:=(zP hT).mp (yf ho);have aa:(bsN TI a).take (i+1)=(bsN TI a).take i++[o]:=by rw[yI,ho];rfl
    apply .inr (.inl ⟨d,_,rfl,DGet.k (k:=Sum.inl (o:Int)) L,?_⟩);rw[yH rfl,qcc];ext;by_cases N:o∈vs
    .rw [yH N];show yr ?_;show⟨cl,vs,B,_,rfl,sG,ab,Y,L,M,A,g,W,R,r,p,λx I=>?_,as,ai⟩;rw[aa] at I;rcases yP.mp I with z | z
     .show S x z
     .rw [yw.mp z];show N
    .rw [yE N];show jv ?_;apply .inr ⟨d,iv (if cl a=cl st then 0 else 1),rfl,by have:=DGet.k (k:=Sum.inl (a:Int)) L;rw[qcc,yH p] at this;show this,?_⟩;ext;obtain⟨s,aq⟩:∃ s:Nat->Bool,s=λx=>if x=o then !cl a else cl x:=⟨_,rfl⟩;have ak:s o=!cl a:=by rw[aq];show yH rfl
     have O:∀ v∈vs,s v=cl v:=λv hv=>by rw[aq];show yE λz=>N (by rw[<- z];show hv)
     have bc:DvC TI st s (vs++[o]):=λcol hC v hv=>by
      rw[O st r];rcases yP.mp hv with z | z
      .rw [O v z];show M col hC v z
      .rw [yw.mp z,ak,hC _ _ ah];have:=M col hC a p;cases h1:cl a<;>cases h2:cl st<;>cases h3:col a<;>cases h4:col st<;>rw[h1,h2,h3,h4] at this<;>simp at this ⊢
     have bb:sdK cl st vs=sdK s st vs:=qhD λv hv=>by rw[O v hv,O st r]
     have ev:V.int (1-((if cl a=cl st then 0 else 1:Nat):Int))=iv (if s o=s st then 0 else 1):=by
      rw[ak,O st r];cases cl a<;>cases cl st<;>rfl
     rw[ev];show .inr ⟨d,_,rfl,DPut.k (k:=Sum.inl (o:Int)) L (by rw[show(sdK cl st vs).length=vs.length from ya ..,XE];lk),?_⟩;rw[bb,sd_put N];have s6:L2.Same H (upd G d (.dK (sdK s st (vs++[o])))):=qgr sG hd;have an:upd G d (.dK (sdK s st (vs++[o]))) d=some (.dK (sdK s st (vs++[o]))):=qc;have ae:upd G d (.dK (sdK s st (vs++[o]))) j=some (.lst (ivs B)):=by rw[qo aj];show Y
     have al:upd G d (.dK (sdK s st (vs++[o]))) b=some (.lst (ivs (bsN TI a))):=by rw[qo bd];show ab
     generalize upd G d (.dK (sdK s st (vs++[o])))=G6 at s6 an ae al;apply⟨.inl ⟨rfl,_,.of ae⟩,?_⟩;apply⟨j,_,_,rfl,rfl,ae,by rw[ya];show qg (by lk),?_⟩;have bf:=hT.adj ah;have D:(vs++[o]).Nodup:=YD.mpr ⟨A,by simp,λx I y hy e=>N (by rw[<- yw.mp hy,<- e];show I)⟩
     have C:∀ v∈vs++[o],v<n/\RI TI st v:=λv hv=>by
      rcases yP.mp hv with z | z
      .show g v z
      .rw [yw.mp z];show⟨bf.2.1,(g a p).2.on ah⟩
     have av:=vl D C;rw[yK,xX] at av;show⟨s,vs++[o],B++[o],_,rfl,qgr s6 aw,by rw[qo az];show al,by rw[qc,show ivs (B++[o])=ivs B++[iv o] from yu ..],by rw[qo (Yw aj)];show an,bc,D,C,λv hv=>?_,λu X hw ne x I=>?_,by simp[r],by simp[p],λx I=>?_,by rw[yK,yK,xX];lk,by rw[yK,yK,xX];lk⟩
     .rcases yP.mp hv with z | z
      .show YB _ (W v z)
      .show yU _ z
     .rcases yP.mp X with z | z
      .show YB _ (R u z (λk=>hw (YB _ k)) ne x I)
      .show absurd (yU _ z) hw
     .rw [aa] at I;rcases yP.mp I with z | z
      .show YB _ (S x z)
      .show yU _ z
   .obtain⟨cl,vs,B,y5,rfl,sG,ab,Y,L,ar,D,C,ay,ap,au,bn,S,as,ax⟩:=hp;rw[show(ivs (bsN TI a)).length=(bsN TI a).length from ya ..,yD] at S;show⟨2*(n-vs.length)+B.length,?_,?_⟩
    .rw [yK,xX] at hm;lk
    .rw [ag];show⟨cl,vs,B,_,_,rfl,rfl,sG,Y,L,ar,D,C,ay,λu X hw x I=>?_,au,ax⟩;by_cases h:u=a
     .subst h;show S x ((zP hT).mpr I)
     .show ap u X hw h x I
theorem UZ:FnScope wqz wqh (qf qbN):=fS
theorem vd:FnScope wqz wqh (qf qcN):=fS
theorem qdr(c:ms.Perm (L.map λ(v:Nat)=>(v:Int)))(d:ms.Pairwise (·<=·)):∃ M:LN,ms=(M.map λ(v:Nat)=>(v:Int))/\M.Perm L/\M.Pairwise (·<=·):=by
 have e:ms=(ms.map Int.toNat).map λ(v:Nat)=>(v:Int):=by
  rw[YE];show(Ko _).symm.trans (xq λx f=>?_);obtain⟨v,_,rfl⟩:=yJ.mp (c.mem_iff.mp f);show(v:Int)=(((v:Int).toNat:Nat):Int);lk
 show⟨ms.map Int.toNat,e,?_,?_⟩
 .have:=c.map Int.toNat;rw[YE] at this;show this.trans (List.Perm.of_eq ?_);show(xq λv _=>rfl).trans (Ko _)
 .show YM.mpr (d.imp λ{a b} h=>by lk)
inductive spNrI(far:Bool)(vs:List V)(H:Hp)(Q:VK)(E:XK):Prop|mk (l:Addr) (ts:LI) (TI:List (Nat×Nat)) (s n:Nat) (cl:Nat->Bool) (_:vs=[.ref l,iv s]) (_:IPL H l ts TI) (_:TIok n TI) (_:n<=14) (_:s<n) (_:(∀ a b,adjI TI a b->cl b=!cl a)) (_:∀(b:Addr) (H':Hp),L2.Same H H'->H b=none->H' b=some (.lst (ivs (nr TI cl n s (cl s ^^ far))))->Q (.ref b) H')
theorem ok_nrI(F:Fun K "_law_near" "_law_near" qbN f fd)(T:Txt K mg cc cw)(Z:wqqh 2 "_law_sides" wqh spSiI):wqqj 3 f fd wqh (spNrI false):=by
 show F.ok UZ λ_ _ _ s H vs Q E C h=>?_
 .obtain⟨l,ts,TI,st,n,cl,rfl,N,O,p,z,L,q⟩:=h;have g:=jw C;show⟨_,(qd (qr (i:=2) UZ.nd rfl (xK rfl) (qm Z (hmR C) qv (qa (pv 0) (qa (pv 1) qb))))
 (qe (qi (qk (qdj (K:=K) rfl) rfl T.b_sorted boot_sorted (qa (qK (sc:=qf qbN) (XN:=wqz) wqO 1 [2] rfl rfl rfl (by room) rfl (by room)
  (qg3 (pv 2)) (λ_ _ _ _=>(qp (i:=0) (show(wqO:LS).Nodup by room) rfl (yG rfl))) qF
  (λ_ _ _ _=>(qJ (qj (jo (K:=K) rfl g) (qA (qB (K:=K) rfl g) (pv 1) (pv 0) (λ_ _=>rfl)) qh (qu _))))
  (λ_ _ _ _=>(pv 0))) qb))))),?_⟩
  apply⟨l,ts,TI,st,n,rfl,N,O,p,z,λd vis c0 H1 W t B x j hv=>?_⟩;rw[qhD (x cl L)] at B;ext;have S:vis.length<=n:=qcM j λv h=>((hv v).mp h).1;show qh6 ?_;apply⟨d,_,rfl,B,λo=>qd3 (λi ys J=>J=upd H1 d (.frz o (.dK (sdK cl st vis)))/\ys=ivs ((vis.take i).filter λv=>decide (cl v=(cl st ^^ false)))) ⟨rfl,rfl⟩ (λi ys J _ a=>by rw[a.1];show qc) (λi k v ys J y a=>?_) λys J a=>?_⟩
  .obtain⟨rfl,rfl⟩:=a
   have e:∃ u,vis[i]?=some u/\k=Sum.inl (u:Int)/\v=iv (if cl u=cl st then 0 else 1):=by
    unfold sdK at y;rw[ye] at y;obtain⟨u,g,e⟩:=yo.mp y;cases e;show⟨u,g,rfl,rfl⟩
   obtain⟨u,g,rfl,rfl⟩:=e;have A:=yf g;apply .inr ⟨d,iv (if cl u=cl st then 0 else 1),rfl,.inl ⟨_,Sum.inl (u:Int),.inr ⟨_,qc⟩,rfl,by rw[qcc,yH A]⟩,?_⟩;apply .inl (.inl (.inl ⟨rfl,rfl,?_⟩));rw[zl];have I:decide (((if cl u=cl st then 0 else 1:Nat):Int)=0)=decide (cl u=(cl st ^^ false)):=by cases cl u<;>cases cl st<;>rfl
   rw[I,show vis.take (i+1)=vis.take i++[u] by rw[yI,g];rfl,yZ,yR];ext
   cases e:decide (cl u=(cl st ^^ false)) with
   | false =>
    show yr ?_;show⟨rfl,?_⟩;rw[yE (by decide)];simp
   | true =>
    show jv ?_;apply⟨?_,rfl,?_⟩
    .rw [ya];show qg (yj (yy _ _) (by rw[yM];lk))
    .rw [yH rfl];show _=List.map iv _;rw[yu];rfl
  .obtain⟨rfl,rfl⟩:=a;rw[show(sdK cl st vis).length=vis.length from ya ..,yD];have hl:=yy (λv=>decide (cl v=(cl st ^^ false))) vis;show⟨by rw[ya];show yN (qg (by lk)),λb hb=>?_⟩;have X:L2.Same H (upd H1 d (.frz o (.dK (sdK cl st vis)))):=qgr W t;have D:=qw X (o:=.lst (ivs (vis.filter λv=>decide (cl v=(cl st ^^ false))))) hb;apply⟨b,(vis.filter λv=>decide (cl v=(cl st ^^ false))).map λ(v:Nat)=>(v:Int),rfl,.of (by rw[YE];show qc),by rw[ya];lk,λr ms m a R=>?_⟩;obtain⟨M,rfl,U,Y⟩:=qdr a R;have G:=qf9 (n:=n) (TI:=TI) (cl:=cl) (s:=st) (c:=(cl st ^^ false)) (λv=>by rw[yq,hv,yC,and_assoc]) (j.filter _) U Y;rw[G];show q r _ (qw D m) (D.free m) ?_;rw[qc,YE];cases cl st<;>rfl
theorem ok_frI(F:Fun K "_law_far" "_law_far" qcN f fd)(T:Txt K mg cc cw)(Z:wqqh 2 "_law_sides" wqh spSiI):wqqj 3 f fd wqh (spNrI true):=by
 show F.ok vd λ_ _ _ s H vs Q E C h=>?_
 .obtain⟨l,ts,TI,st,n,cl,rfl,N,O,p,z,L,q⟩:=h;have g:=jw C;show⟨_,(qd (qr (i:=2) vd.nd rfl (xK rfl) (qm Z (hmR C) qv (qa (pv 0) (qa (pv 1) qb))))
 (qe (qi (qk (qdj (K:=K) rfl) rfl T.b_sorted boot_sorted (qa (qK (sc:=qf qcN) (XN:=wqz) wqO 1 [2] rfl rfl rfl (by room) rfl (by room)
  (qg3 (pv 2)) (λ_ _ _ _=>(qp (i:=0) (show(wqO:LS).Nodup by room) rfl (yG rfl))) qF
  (λ_ _ _ _=>(qJ (qj (jo (K:=K) rfl g) (qA (qB (K:=K) rfl g) (pv 1) (pv 0) (λ_ _=>rfl)) qh (qu _))))
  (λ_ _ _ _=>(pv 0))) qb))))),?_⟩
  apply⟨l,ts,TI,st,n,rfl,N,O,p,z,λd vis c0 H1 W t B x j hv=>?_⟩;rw[qhD (x cl L)] at B;ext;have S:vis.length<=n:=qcM j λv h=>((hv v).mp h).1;show qh6 ?_;apply⟨d,_,rfl,B,λo=>qd3 (λi ys J=>J=upd H1 d (.frz o (.dK (sdK cl st vis)))/\ys=ivs ((vis.take i).filter λv=>decide (cl v=(cl st ^^ true)))) ⟨rfl,rfl⟩ (λi ys J _ a=>by rw[a.1];show qc) (λi k v ys J y a=>?_) λys J a=>?_⟩
  .obtain⟨rfl,rfl⟩:=a
   have e:∃ u,vis[i]?=some u/\k=Sum.inl (u:Int)/\v=iv (if cl u=cl st then 0 else 1):=by
    unfold sdK at y;rw[ye] at y;obtain⟨u,g,e⟩:=yo.mp y;cases e;show⟨u,g,rfl,rfl⟩
   obtain⟨u,g,rfl,rfl⟩:=e;have A:=yf g;apply .inr ⟨d,iv (if cl u=cl st then 0 else 1),rfl,.inl ⟨_,Sum.inl (u:Int),.inr ⟨_,qc⟩,rfl,by rw[qcc,yH A]⟩,?_⟩;apply .inl (.inl (.inl ⟨rfl,rfl,?_⟩));rw[zl];have I:decide (((if cl u=cl st then 0 else 1:Nat):Int)=1)=decide (cl u=(cl st ^^ true)):=by cases cl u<;>cases cl st<;>rfl
   rw[I,show vis.take (i+1)=vis.take i++[u] by rw[yI,g];rfl,yZ,yR];ext
   cases e:decide (cl u=(cl st ^^ true)) with
   | false =>
    show yr ?_;show⟨rfl,?_⟩;rw[yE (by decide)];simp
   | true =>
    show jv ?_;apply⟨?_,rfl,?_⟩
    .rw [ya];show qg (yj (yy _ _) (by rw[yM];lk))
    .rw [yH rfl];show _=List.map iv _;rw[yu];rfl
  .obtain⟨rfl,rfl⟩:=a;rw[show(sdK cl st vis).length=vis.length from ya ..,yD];have hl:=yy (λv=>decide (cl v=(cl st ^^ true))) vis;show⟨by rw[ya];show yN (qg (by lk)),λb hb=>?_⟩;have X:L2.Same H (upd H1 d (.frz o (.dK (sdK cl st vis)))):=qgr W t;have D:=qw X (o:=.lst (ivs (vis.filter λv=>decide (cl v=(cl st ^^ true))))) hb;apply⟨b,(vis.filter λv=>decide (cl v=(cl st ^^ true))).map λ(v:Nat)=>(v:Int),rfl,.of (by rw[YE];show qc),by rw[ya];lk,λr ms m a R=>?_⟩;obtain⟨M,rfl,U,Y⟩:=qdr a R;have G:=qf9 (n:=n) (TI:=TI) (cl:=cl) (s:=st) (c:=(cl st ^^ true)) (λv=>by rw[yq,hv,yC,and_assoc]) (j.filter _) U Y;rw[G];show q r _ (qw D m) (D.free m) ?_;rw[qc,YE];cases cl st<;>rfl
theorem qgH{i j:Int}{Q:VK}(q:Q (.bl (decide (i=j))) H):qgF K (.int i) (.int j) H Q:=.inl (.inl (.inl ⟨rfl,rfl,by rw[zl];show q⟩))
theorem qY(L:LN):(ivs L).length=L.length:=ya ..
theorem qba{f:Nat->Bool}(h:L[i]?=some n):(L.take (i+1)).filter f=(L.take i).filter f++if f n=true then [n] else []:=by
 rw[yI,h,yZ]
 congr 1
 show List.filter f [n]=_;rw[yR];rfl
theorem qak{f:Nat->Bool}(h:L.length<=1000):((L.take i).filter f).length<=1000:=by
 have h1:=yy f (L.take i);rw[yM] at h1;lk
theorem vJ:FnScope wqm wqm (qf qaU):=fS
theorem qhi(k:Nat)(L:LN):inV (iv k) (ivs L)=decide (k∈L):=by
 unfold inV;rw[List.any_map,yT,xA,yC]
 have ev:∀ y:Nat,((λy=>eqV y (iv k)) ∘ iv) y=decide (y=k):=λy=>by
  have:=zl (y:Int) (k:Int);rw[yE (by decide)] at this;show eqV (iv y) (iv k)=_;rw[this];show yY.mpr (by lk)
 constructor
 .rintro ⟨y,a,e⟩;rw[ev] at e;rw[<- yl e];show a
 .show λh=>⟨k,h,by rw[ev];show yx rfl⟩
theorem vInI{Q:VK}(e:H p=some (.lst (ivs L)))(q:Q (.bl (decide (v∈L))) H):qgE K false (iv v) (.ref p) H Q:=by
 show .inl ⟨p,_,rfl,.inl (.of e),rfl,?_,?_⟩
 .show Yr.mpr λx a=>by obtain⟨u,_,rfl⟩:=yJ.mp a;rfl
 .rw [yE (by decide),qhi];show q
theorem qgI{Q:VK}(e:H p=some (.lst (ivs L)))(q:Q (.bl (!decide (v∈L))) H):qgE K true (iv v) (.ref p) H Q:=by
 show .inl ⟨p,_,rfl,.inl (.of e),rfl,?_,?_⟩
 .show Yr.mpr λx a=>by obtain⟨u,_,rfl⟩:=yJ.mp a;rfl
 .rw [yH rfl,qhi];show q
def oft(TI:List (Nat×Nat))(h:Nat)(ps:LN):Nat:=((bsN TI h).filter λv=>decide (v∈ps)).length
inductive spOf(vs:List V)(H:Hp)(Q:VK)(E:XK):Prop|mk (l pl:Addr) (ts:LI) (TI:List (Nat×Nat)) (h n:Nat) (ps:LN) (_:vs=[.ref l,iv h,.ref pl]) (_:IPL H l ts TI) (_:TIok n TI) (_:H pl=some (.lst (ivs ps))) (_:∀ H',L2.Same H H'->Q (iv (oft TI h ps)) H')
theorem ok_of(F:Fun K "_law_often" "_law_often" qaU f fd)(T:Txt K mg cc cw)(o:wqqh 1 "_law_beside" wqt spBeI):wqqj 2 f fd wqm spOf:=by
 show F.ok vJ λ_ _ _ _ H vs Q E g h=>?_
 .obtain⟨l,pl,ts,TI,h,n,ps,rfl,p,e,c,q⟩:=h;have u:=jw g;show⟨_,(qe (qi (qk (j8 (K:=K) rfl) rfl T.b_len Yv (qa (qK (sc:=qf qaU) (XN:=wqm) ["_law_one","_law_places"] 1 [2] rfl rfl rfl (by room) rfl (by room)
  (qL (K:=K) rfl (qm o (hmR g) qv (qa (pv 0) (qa (pv 1) qb)))) (λ_ _ _ _=>(qp (i:=0) (show(["_law_one","_law_places"]:LS).Nodup by room) rfl (yG rfl))) qF
  (λ_ _ _ _=>(qJ (qj (qaO (K:=K) rfl u) (pv 0) (pv 1) (by with_unfolding_all rfl))))
  (λ_ _ _ _=>(pv 0))) qb)))),?_⟩
  apply⟨l,ts,TI,h,n,rfl,p,e,λb H1 m s hb=>?_⟩;have t:=qeu e h;show .inl ⟨⟨_,.of hb⟩,qx (xs:=ivs (bsN TI h)) (λi ys J=>J=H1/\ys=ivs (((bsN TI h).take i).filter λv=>decide (v∈ps))) ⟨rfl,by simp⟩ (λi ys J _ c=>by rw[c.1];show .of hb) (λi x ys J j a=>?_) λys J a=>?_⟩
  .obtain⟨rfl,rfl⟩:=a;rw[ye] at j;obtain⟨v,hv,rfl⟩:=yo.mp j;apply vInI (m _ _ c) ?_;ext;rw[qba hv];show qE (λh=>?_) (λh=>?_)
   .ext;show⟨by rw[ya];show qg (qak (by lk)),rfl,?_⟩;rw[yH h];show _=List.map iv _;rw[yu];rfl
   .show⟨rfl,?_⟩;rw[yE h,Yb]
  .obtain⟨rfl,rfl⟩:=a;rw[qY (bsN TI h),yD];have hl:=yy (λv=>decide (v∈ps)) (bsN TI h);show⟨by rw[ya];show yN (qg (by lk)),λr d=>?_⟩;apply zK qc ?_;rw[qY];show q _ (qw m d)
theorem U3:FnScope wqy wqy (qf zA):=fS
theorem qbi{n:Addr}{Q:VK}(a:H n=some (.lst (ss.map V.str)))(q:Q (.bl (decide (z∈ss))) H):qgE K false (.str z) (.ref n) H Q:=
 .inl ⟨n,_,rfl,.inl (.of a),rfl,Yr.mpr λx b=>by(obtain⟨s,_,rfl⟩:=yJ.mp b;rfl),by rw[yE (by decide),qer];show q⟩
theorem range_map(ss:LS):(List.range ss.length).map (λi=>ss.getD i "")=ss:=by
 apply List.ext_getElem?;intro i;rw[ye];by_cases h:i<ss.length
 .rw [List.getElem?_range h,yb h];simp[List.getD,h]
 .rw [xZ (by simpa using h),xZ (by lk)];rfl
theorem tn_map(ss:LS):(List.range ss.length).map (tn ss)=ss:=range_map ss
theorem qge(ss:LS)(q:Str->Bool):ss.filter q=((List.range ss.length).filter λi=>q (tn ss i)).map (tn ss):=by
 conv=>lhs;arg 2;rw[<- tn_map ss]
 rw[Kl];rfl
def qc7(TI:List (Nat×Nat))(n s:Nat):LN:=(List.range n).filter λv=>@decide (RI TI s v) (Classical.propDecidable _)
theorem cmp_mem{TI:List (Nat×Nat)}:v∈qc7 TI n s↔v<n/\RI TI s v:=by
 unfold qc7;rw[yq,Yd,@decide_eq_true_iff _ (Classical.propDecidable _)]
theorem qhj{TI:List (Nat×Nat)}:(qc7 TI n s).filter (λv=>decide (cl v=c))=nr TI cl n s c:=by
 unfold qc7 nr;rw[List.filter_filter];show xn λv _=>?_;rw[yT,Yl,yC,@decide_eq_true_iff _ (Classical.propDecidable _),@decide_eq_true_iff _ (Classical.propDecidable _)];show And.comm
theorem comp_eq{TI:List (Nat×Nat)}{k:Nat}(d:ss.Nodup)(c:BI ns TI)(b:ss[s]?=some y)(h:y∈qcH ss ns k):qcH ss ns k=(qc7 TI ss.length s).map (tn ss):=by
 have f:=(yc.mp b).1;have e:ss.idxOf y=s:=jf d (by rw[yb (y7 (yf b))];show congrArg some (Yu _)) b;unfold qcH at h ⊢;have a:=@yl _ (Classical.propDecidable _) (yq.mp h).2;rw[e,qe6 c] at a;rw[qge];unfold qc7
 congr 1
 show xn λv hv=>?_;rw[zx d (Yd.mp hv),yT,@decide_eq_true_iff _ (Classical.propDecidable _),@decide_eq_true_iff _ (Classical.propDecidable _),qe6 c];show⟨λz=>a.symm.trans z,λz=>a.trans z⟩
theorem rep_has{TI:List (Nat×Nat)}(l:ss.Nodup)(e:BI ns TI)(d:ss[s]?=some y):∃ k,k∈qft ns ss.length/\y∈qcH ss ns k:=by
 have n:=(yc.mp d).1;have g:ss.idxOf y=s:=jf l (by rw[yb (y7 (yf d))];show congrArg some (Yu _)) d
 have f:∃ k,k<=s/\RI TI k s/\∀ j,j<k->¬ RI TI j s:=by
  have:∀ m,(∃ k,k<=m/\k<=s/\RI TI k s)->∃ k,k<=s/\RI TI k s/\∀ j,j<k->¬ RI TI j s:=λm=>by
   induction m with
   | zero=>rintro⟨k,h,h1,a⟩;show⟨k,h1,a,λj b=>by lk⟩
   | succ m ih =>
    rintro⟨k,h,h1,a⟩;by_cases z:∃ j,j<k/\RI TI j s
    .obtain⟨j,b,c⟩:=z;show ih ⟨j,by lk,by lk,c⟩
    .show⟨k,h1,a,λj b c=>z ⟨j,b,c⟩⟩
  show this s ⟨s,yi _,yi _,.refl⟩
 obtain⟨k,h1,a,i⟩:=f;show⟨k,?_,?_⟩
 .unfold qft;show yq.mpr ⟨Yd.mpr (by lk),isRep_iff.mpr λj b c=>i j b (((qe6 e).mp c).trans a)⟩
 .unfold qcH;show yq.mpr ⟨yf d,@decide_eq_true _ (Classical.propDecidable _) ?_⟩;rw[g];show(qe6 e).mpr a
inductive spPw(cw:Addr)(vs:List V)(H:Hp)(Q:VK)(E:XK):Prop|mk (x:Addr) (ss:LS) (ns:LN) (TI:List (Nat×Nat)) (s:Nat) (y:Str) (_:vs=[.ref x,.str y]) (_:Wt cw H x ss ns (TI.map (nmP ss))) (_:TIok ss.length TI) (_:ss[s]?=some y) (_:∀(l:Addr) (H':Hp),L2.Same H H'->H l=none->H' l=some (.lst (((qc7 TI ss.length s).map (tn ss)).map V.str))->Q (.ref l) H')
theorem ok_pw2(F:Fun K "piece_with" "piece_with" zA f fd)(T:Txt K mg cc cw)(ve:wqqi 3 cw "pieces" wa (spPcs cw)):wqqj 4 f fd wqy (spPw cw):=by
 show F.ok U3 λ_ _ _ _ H vs Q E O h=>?_
 .obtain⟨x,ss,ns,TI,st,y,rfl,W,U,S,q⟩:=h;have e:=jw O;have L:=W.bi U;have N:=W.wok.nd;obtain⟨wx,d,ol,nn,hb,X,aa,Z,hw⟩:=id W.web;show⟨_,(qe (qi (qA (qB (K:=K) rfl e) (qK (sc:=qf zA) (XN:=wqy) ["piece","place"] 1 [1] rfl rfl rfl (by room) rfl (by room)
  (qL (K:=K) rfl (qz ve (hmR O) (pv 0))) (λ_ _ _ _=>(qp (i:=0) (show(["piece","place"]:LS).Nodup by room) rfl (yG rfl))) qF
  (λ_ _ _ _=>(qJ (qj (qaO (K:=K) rfl e) (pv 1) (pv 0) (by with_unfolding_all rfl))))
  (λ_ _ _ _=>(pv 0))) qh (λ_ _=>rfl)))),?_⟩
  apply⟨x,wx,_,rfl,hb,zh (by room),?_⟩;apply⟨x,ss,ns,rfl,W.web,λl G H1 s1 Y hl t=>?_⟩
  have M:G.length<=14:=by
   rw[t.len,ya];unfold qft;have:=yy (qfm ns) (List.range ss.length);rw[YF] at this;have:=W.wok.few;lk
  have cont:∀ i a,G[i]?=some a->∃ k,(qft ns ss.length)[i]?=some k/\H a=none/\H1 a=some (.lst ((qcH ss ns k).map V.str)):=λi a g=>by
   have B:=(yc.mp g).1;rw[t.len,ya] at B;have I:=yb B;have:=t.at_ i a _ g (by rw[ye,I];rfl);show⟨_,I,this.1,this.2.2⟩
  show .inl ⟨⟨_,.of hl⟩,qx (xs:=G.map V.ref) (λi ys J=>J=H1/\∃ us:LI,ys=us.map V.ref/\us.length<=i/\(∀ u∈us,H u=none/\H1 u=some (.lst (((qc7 TI ss.length st).map (tn ss)).map V.str)))/\(us=[]->∀ k∈(qft ns ss.length).take i,y∉qcH ss ns k)) ⟨rfl,[],rfl,yi _,λu e=>(by cases e),λ_ k m=>by simp at m⟩ (λi ys J _ o=>by rw[o.1];show .of hl) (λi v ys J R o=>?_) λys J o=>?_⟩
  .obtain⟨rfl,us,rfl,s,c,b⟩:=o;rw[ye] at R;obtain⟨a,g,rfl⟩:=yo.mp R;have B:=(yc.mp g).1;obtain⟨k,m,A,j⟩:=cont i a g;apply qbi j ?_;apply qE (λh=>?_) (λh=>?_)
   .have C:=yl h;apply⟨by rw[ya];show qg (by lk),rfl,us++[a],by rw[yu];rfl,by rw[yK];show us.length+1<=i+1;lk,λu e=>?_,λz=>by simp at z⟩;rcases yP.mp e with z | z
    .show c u z
    .rw [yw.mp z,<- comp_eq N L S C];show⟨A,j⟩
   .show⟨rfl,us,rfl,by lk,c,λz k' n=>?_⟩;rw[yI,m] at n;rcases yP.mp n with z' | z'
    .show b z k' z'
    .rw [yw.mp z'];show λz=>h (yx z)
  .obtain⟨rfl,us,rfl,s,c,b⟩:=o;rw[ya] at s b;obtain⟨k,m,D⟩:=rep_has N L S
   cases us with
   | nil =>
    show absurd D (b rfl k ?_);rw[t.len,ya,yD];show m
   | cons u us =>
    show⟨by rw[ya];show yN (qg (by lk)),λr p=>?_⟩;apply .inl (qch (i:=0) (v:=.ref u) qc (by unfold atI;rw[ya,show(0:Int)=((0:Nat):Int) from rfl,qbp (by simp)];rfl) ?_);have:=c u yL;show q u _ (qw s1 p) this.1 (qw (Sr J) p _ _ this.2)
theorem K9:FnScope ["web","start","sides","own"] wh (qf zm):=fS
theorem uB:FnScope ["web","start","near"] wh (qf zH):=fS
theorem qgf{n:Addr}{Q:VK}(a:H n=some (.lst (ss.map V.str)))(q:Q (.bl (!decide (z∈ss))) H):qgE K true (.str z) (.ref n) H Q:=
 .inl ⟨n,_,rfl,.inl (.of a),rfl,Yr.mpr λx b=>by(obtain⟨s,_,rfl⟩:=yJ.mp b;rfl),by rw[yH rfl,qer];show q⟩
theorem qe8{TI:List (Nat×Nat)}(c:ss.Nodup)(f:TIok ss.length TI){a b:Str}(h:tA (TI.map (nmP ss)) a b):adjI TI (ss.idxOf a) (ss.idxOf b):=by
 have m:∀ x y,(x,y)∈TI.map (nmP ss)->(ss.idxOf x,ss.idxOf y)∈TI:=λx y h=>by
  obtain⟨p,d,e⟩:=yJ.mp h;have k:=f.ok p d;cases e;rw[zx c (by lk),zx c k.2];show d
 show h.imp (m a b) (m b a)
theorem qhk{TI:List (Nat×Nat)}(h:adjI TI i j):tA (TI.map (nmP ss)) (tn ss i) (tn ss j):=
 h.imp (λz=>yJ.mpr ⟨_,z,rfl⟩) λz=>yJ.mpr ⟨_,z,rfl⟩
theorem ri_rc{TI:List (Nat×Nat)}(h:RI TI i j):Rc (tA (TI.map (nmP ss))) (tn ss i) (tn ss j):=by
 induction h with
 | refl=>show .refl
 | on _ t ih=>show ih.on (qhk t)
def qH(ss:LS)(l:LN):List V:=(l.map (tn ss)).map V.str
inductive spNS(cw:Addr)(far:Bool)(vs:List V)(H:Hp)(Q:VK)(E:XK):Prop|mk (x:Addr) (ss:LS) (ns:LN) (TI:List (Nat×Nat)) (s:Nat) (cl:Nat->Bool) (_:vs=[.ref x,.str (tn ss s)]) (_:Wt cw H x ss ns (TI.map (nmP ss))) (_:TIok ss.length TI) (_:s<ss.length) (_:(∀ a b,adjI TI a b->cl b=!cl a)) (_:∀(l:Addr) (H':Hp),L2.Same H H'->H l=none->H' l=some (.lst (qH ss (nr TI cl ss.length s (cl s ^^ far))))->Q (.ref l) H')
theorem qbO{f:Nat->Bool}(h:L[i]?=some v):qH ss ((L.take (i+1)).filter f)=qH ss ((L.take i).filter f)++if f v=true then [V.str (tn ss v)] else []:=by
 unfold qH;rw[qba h,yu,yu];split<;>rfl
theorem jR{x:V}(h:(qH ss L)[i]?=some x):∃ v,L[i]?=some v/\x=.str (tn ss v):=by
 unfold qH at h;rw[ye] at h;obtain⟨y,a,rfl⟩:=yo.mp h;rw[ye] at a;obtain⟨v,hv,rfl⟩:=yo.mp a;show⟨v,hv,rfl⟩
theorem qI(ss:LS)(L:LN):(qH ss L).length=L.length:=by unfold qH;rw[ya,ya]
theorem ok_nS(F:Fun K "near_side" "near_side" zm f fd)(T:Txt K mg cc cw)(KB:wqqi 4 cw "number_of" wqd (spNum cw))(u5:wqqh 9 "sides_of" wqqd (spSd cw))(uM:wqqh 4 "piece_with" wqy (spPw cw)):wqqj 10 f fd wh (spNS cw false):=by
 show F.ok K9 λ_ _ _ s H vs Q E g h=>?_
 .obtain⟨x,ss,ns,TI,st,cl,rfl,W,X,I,hC,q⟩:=h;have B:=jw g;have N:=W.wok.nd;have few:=W.wok.few;have A:=qai I;obtain⟨wx,dd,ol,nn,hb,_⟩:=id W.web;show⟨_,(qd (qN (qR KB (hmR g) (pv 0) (qa (pv 1) qb)))
 (qd (qr (i:=2) K9.nd rfl (yG rfl) (qm u5 (hmR g) qv (qa (pv 0) qb)))
 (qd (qr (i:=3) K9.nd rfl (xK rfl) (qbs (qj (qaO (K:=K) rfl B) (pv 1) (qA (qB (K:=K) rfl B) (pv 2) qh (λ_ _=>rfl)) (by with_unfolding_all rfl)) (qA (qB (K:=K) rfl B) (pv 2) qh (λ_ _=>rfl)) (qA (qB (K:=K) rfl B) (pv 2) qh (λ_ _=>rfl))))
 (qe (qi (qK (sc:=qf zm) (XN:=["web","start","sides","own"]) ["place","own"] 1 [3] rfl rfl rfl (by room) rfl (by room)
  (qL (K:=K) rfl (qm uM (hmR g) qv (qa (pv 0) (qa (pv 1) qb)))) (λ_ _ _ _=>(qp (i:=0) (show(["place","own"]:LS).Nodup by room) rfl (yG rfl))) qF
  (λ_ _ _ _=>(qJ (qj (qaO (K:=K) rfl B) (pv 0) (pv 1) (by with_unfolding_all rfl))))
  (λ_ _ _ _=>(pv 0)))))))),?_⟩
  apply⟨x,wx,_,rfl,hb,zh (by room),?_⟩;apply⟨x,ss,ns,tn ss st,st,rfl,W.web,A,λH1 Z=>?_⟩;apply⟨x,ss,ns,_,λz=>cl (ss.idxOf z),rfl,W.same Z,λa b h=>hC _ _ (qe8 N X h),λd t S Y H2 s2 hd O h1 h2=>?_⟩;have D:=Z.trans s2;have m:(tn ss st∈ss.filter d)↔d (tn ss st)=true:=by rw[yq];show⟨λz=>z.2,λz=>⟨zO I,z⟩⟩
  have same:∀ v,v∈qc7 TI ss.length st->(d (tn ss v)=d (tn ss st)↔cl v=cl st):=λv hv=>by
   obtain⟨R,g⟩:=cmp_mem.mp hv;have:=hd (tn ss st) (tn ss v) (zO I) (ri_rc g);rw[zx N I,zx N R] at this;show⟨λz=>(this.mp z.symm).symm,λz=>(this.mpr z.symm).symm⟩
  have U:(qc7 TI ss.length st).length<=14:=by
   unfold qc7;show yj (yy _ _) ?_;rw[YF];show few
  have j:∀(o:Addr) (f:Str->Bool),H2 o=some (.lst ((ss.filter f).map V.str))->(∀ v∈qc7 TI ss.length st,f (tn ss v)=decide (cl v=(cl st ^^ false)))->qig (qgA (qid K (qfg (spPw cw) [] E0 (zb (qfq 0) (zb (qfq 1) qfr)))) (qcR 0) (qgw (tOp (qgE K false) (qfq 0) (qfq 1))) (qfq 0) 1 [3]) { nx:=λ_ H'=>Q V.non H',rt:=Q } [some (.ref x),some (.str (tn ss st)),some (.ref t),some (.ref o)] H2:=λo f eo ef=>by
   apply⟨x,ss,ns,TI,st,_,rfl,W.same D,X,A,λl H3 s3 aa hl=>?_⟩;have G:=D.trans s3;have M:=s3 _ _ eo;show .inl ⟨⟨_,.of hl⟩,qx (xs:=qH ss (qc7 TI ss.length st)) (λi ys J=>J=H3/\ys=qH ss (((qc7 TI ss.length st).take i).filter λv=>decide (cl v=(cl st ^^ false)))) ⟨rfl,by simp[qH]⟩ (λi ys J _ p=>by rw[p.1];show .of hl) (λi y ys J hy p=>?_) λys J p=>?_⟩
   .obtain⟨rfl,rfl⟩:=p;obtain⟨v,hv,rfl⟩:=jR hy;have C:=yf hv;apply qbi M ?_
    have e:decide (tn ss v∈ss.filter f)=decide (cl v=(cl st ^^ false)):=by
     rw[<- ef v C,yT,yC,yq];show⟨λz=>z.2,λz=>⟨zO (cmp_mem.mp C).1,z⟩⟩
    rw[e];ext;rw[qbO hv];show qE (λh=>?_) (λh=>?_)
    .ext;show⟨by rw[qI];show qg (qak (by lk)),rfl,?_⟩;rw[yH h]
    .show⟨rfl,?_⟩;rw[yE h,Yb]
   .obtain⟨rfl,rfl⟩:=p;rw[qI (L:=qc7 TI ss.length st),yD,qhj];have nl:=qcb (n:=ss.length) (TI:=TI) (cl:=cl) (s:=st) (c:=(cl st ^^ false));show⟨by rw[qI];show yN (qg (by lk)),λr u=>?_⟩;show q r _ (qw G u) (G.free u) qc
  apply .inl (qbU O (v:=.ref S) rfl ?_);show qbi h1 ?_;apply qE (λh=>?_) (λh=>?_)
  .have e:=m.mp (yl h);apply .inl (qbU O (v:=.ref S) rfl ?_);show j S d h1 λv hv=>?_;rw[YJ,yT,yC,<- same v hv,e]
  .have e:d (tn ss st)=false:=by
    cases z:d (tn ss st) with
    | false=>rfl
    | true=>show absurd (yx (m.mpr z)) h
   apply .inl (qbU O (v:=.ref Y) rfl ?_);show j Y (λs=>!d s) h2 λv hv=>?_;rw[YJ,yT,yC,<- same v hv,e];cases d (tn ss v)<;>decide
theorem ok_fS(F:Fun K "far_side" "far_side" zH f fd)(T:Txt K mg cc cw)(S:wqqh 10 "near_side" wh (spNS cw false))(uM:wqqh 4 "piece_with" wqy (spPw cw)):wqqj 11 f fd wh (spNS cw true):=by
 show F.ok uB λ_ _ _ s H vs Q E d h=>?_
 .obtain⟨x,ss,ns,TI,st,cl,rfl,W,G,M,U,q⟩:=h;have B:=jw d;have Y:=W.wok.nd;have few:=W.wok.few;have A:=qai M
  have D:(qc7 TI ss.length st).length<=14:=by
   unfold qc7;show yj (yy _ _) ?_;rw[YF];show few
  show⟨_,(qd (qr (i:=2) uB.nd rfl (xK rfl) (qm S (hmR d) qv (qa (pv 0) (qa (pv 1) qb))))
 (qe (qi (qK (sc:=qf zH) (XN:=["web","start","near"]) ["place","near"] 1 [2] rfl rfl rfl (by room) rfl (by room)
  (qL (K:=K) rfl (qm uM (hmR d) qv (qa (pv 0) (qa (pv 1) qb)))) (λ_ _ _ _=>(qp (i:=0) (show(["place","near"]:LS).Nodup by room) rfl (yG rfl))) qF
  (λ_ _ _ _=>(qJ (qj (zc (K:=K) rfl B) (pv 0) (pv 1) (by with_unfolding_all rfl))))
  (λ_ _ _ _=>(pv 0)))))),?_⟩
  apply⟨x,ss,ns,TI,st,cl,rfl,W,G,M,U,λo H2 N Z I=>?_⟩;rw[YJ] at I;ext
  .show⟨x,ss,ns,TI,st,_,rfl,W.same N,G,A,λl R O X hl=>?_⟩;have m:=N.trans O;have p:=O _ _ I;show .inl ⟨⟨_,.of hl⟩,qx (xs:=qH ss (qc7 TI ss.length st)) (λi ys J=>J=R/\ys=qH ss (((qc7 TI ss.length st).take i).filter λv=>decide (cl v=(cl st ^^ true)))) ⟨rfl,by simp[qH]⟩ (λi ys J _ b=>by rw[b.1];show .of hl) (λi y ys J hy b=>?_) λys J b=>?_⟩
   .obtain⟨rfl,rfl⟩:=b;obtain⟨v,hv,rfl⟩:=jR hy;have C:=yf hv;apply qgf p ?_
    have e:(!decide (tn ss v∈(nr TI cl ss.length st (cl st)).map (tn ss)))=decide (cl v=(cl st ^^ true)):=by
     obtain⟨j,d⟩:=cmp_mem.mp C;rw[yT,Y6,YU,yC,yJ,XA];constructor
     .intro z;cases h1:cl v<;>cases t:cl st<;>first | rfl | show absurd ⟨v,nr_mem.mpr ⟨j,d,h1.trans t.symm⟩,rfl⟩ z
     .rintro z ⟨u,B,e⟩;have a:=nr_mem.mp B;rw[jP Y a.1 j e,z] at a;have:=a.2.2;cases t:cl st<;>rw[t] at this<;>cases this
    rw[e];ext;rw[qbO hv];show qE (λh=>?_) (λh=>?_)
    .ext;show⟨by rw[qI];show qg (qak (by lk)),rfl,?_⟩;rw[yH h]
    .show⟨rfl,?_⟩;rw[yE h,Yb]
   .obtain⟨rfl,rfl⟩:=b;rw[qI (L:=qc7 TI ss.length st),yD,qhj];have nl:=qcb (n:=ss.length) (TI:=TI) (cl:=cl) (s:=st) (c:=(cl st ^^ true));show⟨by rw[qI];show yN (qg (by lk)),λr g=>?_⟩;show q r _ (qw m g) (m.free g) qc
theorem Ua:FnScope wqJ wqJ (qf jg):=fS
theorem vx:FnScope wqI wqI (qf qar):=fS
theorem vS:FnScope wqy wqy (qf qcr):=fS
inductive spBe(cw:Addr)(vs:List V)(H:Hp)(Q:VK)(E:XK):Prop|mk (x l:Addr) (ss:LS) (ns:LN) (TI:List (Nat×Nat)) (L:LN) (_:vs=[.ref x,.ref l]) (_:Wt cw H x ss ns (TI.map (nmP ss))) (_:TIok ss.length TI) (_:H l=some (.lst (qH ss L))) (_:L.length<=14) (_:(∀ v∈L,v<ss.length)) (_:∀(b:Addr) (H':Hp),L2.Same H H'->H b=none->H' b=some (.lst (ivs (L.map (zy TI))))->Q (.ref b) H')
inductive spNa(vs:List V)(H:Hp)(Q:VK)(E:XK):Prop|mk (l m:Addr) (ss:LS) (L P:LN) (_:vs=[.ref l,.ref m]) (_:H l=some (.lst (qH ss L))) (_:H m=some (.lst (ivs P))) (_:P.length<=100) (_:(∀ i∈P,i<L.length)) (_:∀(b:Addr) (H':Hp),L2.Same H H'->H b=none->H' b=some (.lst (qH ss (P.map λi=>L.getD i 0)))->Q (.ref b) H')
inductive spBi(cw:Addr)(vs:List V)(H:Hp)(Q:VK)(E:XK):Prop|mk (x:Addr) (ss:LS) (ns:LN) (s:Nat) (_:vs=[.ref x,.str (tn ss s)]) (_:WebAt cw H x ss ns) (_:s<ss.length) (_:ss.length<=14) (_:∀ H',L2.Same H H'->Q (iv (1 <<< s)) H')
theorem ok_be(F:Fun K "bits_beside_each" "bits_beside_each" jg f fd)(T:Txt K mg cc cw)(m:wqqi 5 cw "bits_beside" wqd (spBB cw)):wqqj 6 f fd wqJ (spBe cw):=by
 show F.ok Ua λ_ _ _ _ H vs Q E j h=>?_
 .obtain⟨x,l,ss,ns,TI,L,rfl,W,g,hl,n,o,q⟩:=h;have z:=jw j;show⟨_,(qe (qi (qK (sc:=qf jg) (XN:=wqJ) ["place","web"] 1 [0] rfl rfl rfl (by room) rfl (by room)
  (qL (K:=K) rfl (pv 1)) (λ_ _ _ _=>(qp (i:=0) (show(["place","web"]:LS).Nodup by room) rfl (yG rfl))) qF
  (λ_ _ _ _=>jl)
  (λ_ _ _ _=>(qR m (hmR j) (pv 1) (qa (pv 0) qb)))))),?_⟩
  apply .inl ⟨⟨_,.of hl⟩,qx (xs:=qH ss L) (λi ys J=>L2.Same H J/\ys=ivs ((L.take i).map (zy TI))) ⟨L2.Same.refl H,by simp⟩ (λi ys J _ a=>.of (a.1 _ _ hl)) (λi y ys J p a=>?_) λys J a=>?_⟩
  .obtain⟨c,rfl⟩:=a;obtain⟨v,hv,rfl⟩:=jR p;have d:=o v (yf hv);have e:=W.same c;obtain⟨t,u,ol,A,hb,_⟩:=id e.web;apply jv ?_;apply⟨x,t,_,rfl,hb,zh (by room),?_⟩;apply⟨x,ss,ns,tn ss v,v,rfl,e.web,qai d,λH1 s=>?_⟩;rw[(W.bi g).col g v];show⟨by rw[ya,ya,yM];show qg (by lk),c.trans s,?_⟩;rw[yI,hv,yu];show _=List.map iv _;rw[yu];rfl
  .obtain⟨c,rfl⟩:=a;rw[qI ss L,yD];show⟨by rw[ya,ya];show yN (qg (by lk)),λr b=>?_⟩;show q r _ (qw c b) (c.free b) qc
theorem ok_na(F:Fun K "names_at" "names_at" qar f fd)(T:Txt K mg cc cw):wqqj 1 f fd wqI spNa:=by
 show F.ok vx λ_ _ _ _ H vs Q E n h=>?_
 .obtain⟨l,m,ss,L,N,rfl,hl,e,d,j,q⟩:=h;have o:=jw n;show⟨_,(qe (qi (qK (sc:=qf qar) (XN:=wqI) ["number","names"] 1 [0] rfl rfl rfl (by room) rfl (by room)
  (qL (K:=K) rfl (pv 1)) (λ_ _ _ _=>(qp (i:=0) (show(["number","names"]:LS).Nodup by room) rfl (yG rfl))) qF
  (λ_ _ _ _=>jl)
  (λ_ _ _ _=>(qA (qB (K:=K) rfl o) (pv 1) (pv 0) (λ_ _=>rfl)))))),?_⟩
  apply .inl ⟨⟨_,.of e⟩,qx (xs:=ivs N) (λi ys J=>J=H/\ys=qH ss ((N.take i).map λi=>L.getD i 0)) ⟨rfl,by simp[qH]⟩ (λi ys J _ a=>by rw[a.1];show .of e) (λi y ys J g a=>?_) λys J a=>?_⟩
  .obtain⟨rfl,rfl⟩:=a;rw[ye] at g;obtain⟨v,hv,rfl⟩:=yo.mp g;have c:=j v (yf hv);apply jv ?_;ext
   show .inl (qch hl (v:=.str (tn ss (L.getD v 0))) (by
    unfold atI;rw[qI,qbp c];show(qH ss L)[v]?=_;unfold qH;rw[ye,ye,Yg,yb c];rfl) ?_)
   show⟨by rw[qI,ya,yM];show qg (by lk),rfl,?_⟩;unfold qH;rw[yI,hv,yu,yu,yu];rfl
  .obtain⟨rfl,rfl⟩:=a;rw[qY N,yD];show⟨by rw[qI,ya];show yN (qg (by lk)),λr b=>?_⟩;show q r _ (qw (Sr _) b) b qc
theorem ok_bi(F:Fun K "bit_of" "bit_of" qcr f fd)(T:Txt K mg cc cw)(b:wqqi 4 cw "number_of" wqd (spNum cw)):wqqj 5 f fd wqy (spBi cw):=by
 show F.ok vS λ_ _ _ _ H vs Q E a h=>?_
 .obtain⟨x,ss,ns,st,rfl,W,d,c,q⟩:=h;have l:=jw a;obtain⟨i,j,ol,m,hb,_⟩:=id W;show⟨_,(qe (qi (qM qdF qh (qR b (hmR a) (pv 0) (qa (pv 1) qb))))),?_⟩;apply⟨x,i,_,rfl,hb,zh (by room),?_⟩;apply⟨x,ss,ns,tn ss st,st,rfl,W,qai d,λH1 g=>?_⟩;show vI ⟨by lk,by lk,by decide⟩ ?_
  have e:V.int (1*2 ^ (st:Int).toNat)=iv (1 <<< st):=by
   show V.int _=V.int _
   congr 1
   rw[Ye,Nat.shiftLeft_eq];simp
  rw[e];show q H1 g
theorem KW:FnScope wqB wh (qf zn):=fS
theorem qgg{x:V}{b:Bool}{Q:VK}(e:decide (x=.non)=b)(q:Q (.bl b) H):qin x .non H Q:=by subst e;cases x<;>show q
theorem qbq(a b:Str):eqV (.str a) (.str b)=decide (a=b):=by
 unfold eqV;by_cases h:a=b<;>simp[h]
theorem qiM{i j:Str}{Q:VK}(q:Q (.bl (decide (i=j))) H):qgF K (.str i) (.str j) H Q:=.inl (.inl (.inl ⟨rfl,rfl,by rw[yE (by decide),qbq];show q⟩))
theorem vNeS{i j:Str}{Q:VK}(q:Q (.bl (!decide (i=j))) H):qg0 K true (.str i) (.str j) H Q:=.inl ⟨rfl,rfl,by rw[yH rfl,qbq];show q⟩
theorem qfo{TI:List (Nat×Nat)}(b:TIok n TI)(a:n<=14)(v:Nat):zy TI v<2 ^ 30:=yk (qf8 b v) (xi (by decide) (by lk))
theorem pk_sum(a:∀ v∈L,v<2 ^ 30)(h:Spn L g):xsm ((pkL L g).map λi=>L.getD i 0)=g:=by
 have e:=qg2 L 0 (qcU L g);rw[pick_sum a h] at e;unfold pkL;rw[show(λi=>(qcU L g).testBit i)=λi=>(qcU L g).testBit (0+i) from funext λi=>by rw[xM]];show e.symm
theorem qaH(a:Nat)(l:LN):xsm (a::l)=a ^^^ xsm l:=by
 rw[show xsm (a::l)=l.foldl (· ^^^ ·) (0 ^^^ a) from rfl,qa2,YY]
theorem qds{l m:LN}(h:l.Perm m):xsm l=xsm m:=by
 induction h with
 | nil=>rfl
 | cons x _ ih=>rw[qaH,qaH,ih]
 | swap x y l=>rw[qaH,qaH,qaH,qaH,<- Kq,<- Kq,Nat.xor_comm y x]
 | trans _ _ i1 i2=>show i1.trans i2
def pkN(TI:List (Nat×Nat))(l:LN)(g:Nat):LN:=(pkL (l.map (zy TI)) g).map λi=>l.getD i 0
theorem qdt{TI:List (Nat×Nat)}{l:LN}(h:i∈pkL (l.map (zy TI)) g):i<l.length/\l[i]?=some (l.getD i 0):=by
 unfold pkL at h;have:=Yd.mp (yq.mp h).1;rw[ya] at this;show⟨this,by rw[Yg,yb this];rfl⟩
theorem qgh{TI:List (Nat×Nat)}{l:LN}(h:v∈pkN TI l g):v∈l:=by
 obtain⟨i,a,rfl⟩:=yJ.mp h;show yf (qdt a).2
theorem qgi{TI:List (Nat×Nat)}{l:LN}(h:l.Pairwise (· < ·)):(pkN TI l g).Pairwise (· < ·):=by
 show YM.mpr (List.Pairwise.imp_of_mem (λ{a b} i hb c=>?_) (xC _ xo:(pkL (l.map (zy TI)) g).Pairwise (· < ·)));obtain⟨h1,d⟩:=qdt i;obtain⟨f,e⟩:=qdt hb;rw[yb h1] at d;rw[yb f] at e;rw[<- yn d,<- yn e];show YO.mp h a b h1 f c
theorem qgj{TI:List (Nat×Nat)}{l:LN}(hl:∀ v∈l,zy TI v<2 ^ 30)(h:Spn (l.map (zy TI)) g):xsm ((pkN TI l g).map (zy TI))=g:=by
 have e:=pk_sum (λv hv=>by obtain⟨u,c,rfl⟩:=yJ.mp hv;show hl u c) h;rw[show(pkN TI l g).map (zy TI)=(pkL (l.map (zy TI)) g).map λi=>(l.map (zy TI)).getD i 0 from ?_]
 .show e
 .unfold pkN;rw[YE];show xq λi b=>?_;obtain⟨h1,a⟩:=qdt b;show zy TI (l.getD i 0)=_;rw[Yg (l:=l.map (zy TI)),ye,a];rfl
def tdN(TI:List (Nat×Nat))(cl:Nat->Bool)(n s:Nat)(b:Bool):LN:=if b=true then(nr TI cl n s (cl s)).filter (λv=>decide (v=s)||decide (v∈pkN TI (oth TI cl n s) (zy TI s))) else pkN TI (nr TI cl n s (cl s ^^ true)) (1 <<< s)
def TdL(TI:List (Nat×Nat))(cl:Nat->Bool)(n s:Nat)(b:Bool)(L:LN):Prop:=L.Pairwise (· < ·)/\(∀ v∈L,v∈nr TI cl n s (cl s ^^ !b))/\xsm (L.map (zy TI))=(if b=true then 0 else 1 <<< s)/\(b=true->s∈L)/\L=tdN TI cl n s b
inductive spEs(cw:Addr)(vs:List V)(H:Hp)(Q:VK)(E:XK):Prop|mk (x:Addr) (ss:LS) (ns:LN) (TI:List (Nat×Nat)) (s:Nat) (cl:Nat->Bool) (_:vs=[.ref x,.str (tn ss s)]) (_:Wt cw H x ss ns (TI.map (nmP ss))) (_:TIok ss.length TI) (_:s<ss.length) (_:(∀ a b,adjI TI a b->cl b=!cl a)) (_:(Lst TI cl ss.length s->∀(l:Addr) (L:LN) (H':Hp),L2.Same H H'->H l=none->H' l=some (.lst (qH ss L))->L.length<=14->TdL TI cl ss.length s true L->Q (.ref l) H')) (_:(¬ Lst TI cl ss.length s->∀ H',L2.Same H H'->Q .non H'))
theorem ok_es(F:Fun K "even_set" "even_set" zn f fd)(T:Txt K mg cc cw)(KA:wqqh 10 "near_side" wh (spNS cw false))(UT:wqqh 5 "picks" wq6 spPk)(KJ:wqqh 6 "bits_beside_each" wqJ (spBe cw))(u6:wqqh 1 "names_at" wqI spNa)(KL:wqqi 5 cw "bits_beside" wqd (spBB cw)):wqqj 11 f fd wh (spEs cw):=by
 show F.ok KW λ_ _ _ s H vs Q E q h=>?_
 .obtain⟨x,ss,ns,TI,st,cl,rfl,W,p,t,hC,q1,q2⟩:=h;have hu:=jw q;have hn:=W.wok.nd;have few:=W.wok.few;have nl:=qcb (n:=ss.length) (TI:=TI) (cl:=cl) (s:=st) (c:=cl st);have eo:((nr TI cl ss.length st (cl st)).filter λv=>!decide (v=st))=oth TI cl ss.length st:=rfl;have ol:(oth TI cl ss.length st).length<=ss.length:=yj (yy _ _) nl;show⟨_,(qd (qr (i:=2) KW.nd rfl (yG rfl) (qm KA (hmR q) qv (qa (pv 0) (qa (pv 1) qb))))
 (qd (qay (sc:=qf zn) (XN:=wqB) ["place","start"] 1 [1] rfl rfl rfl (by room) rfl (by room) (i:=3) KW.nd rfl rfl
  (qL (K:=K) rfl (pv 2)) (λ_ _ _ _=>(qp (i:=0) (show(["place","start"]:LS).Nodup by room) rfl (yG rfl))) qF
  (λ_ _ _ _=>(qJ (qj (zT (K:=K) rfl hu) (pv 0) (pv 1) (qu _))))
  (λ_ _ _ _=>(pv 0)))
 (qd (qr (i:=4) KW.nd rfl (yG rfl) (qm UT (hmR q) qv (qa (qm KJ (hmR q) qv (qa (pv 0) (qa (pv 3) qb))) (qa (qR KL (hmR q) (pv 0) (qa (pv 1) qb)) qb))))
 (qd (qG (qj u_is (pv 4) qaP (qu _)) (qe (qi qaP)) qt)
 (qd (qr (i:=5) KW.nd rfl (xK rfl) (qm u6 (hmR q) qv (qa (pv 3) (qa (pv 4) qb))))
 (qe (qi (qK (sc:=qf zn) (XN:=wqB) ["place","start","chosen"] 1 [1,5] rfl rfl rfl (by room) rfl (by room)
  (qL (K:=K) rfl (pv 2)) (λ_ _ _ _=>(qp (i:=0) (show(["place","start","chosen"]:LS).Nodup by room) rfl (yG rfl))) qF
  (λ_ _ _ _=>(qJ (PW.pt (zI (qj (jo (K:=K) rfl hu) (pv 0) (pv 1) (qu _)) (za (qj (qaO (K:=K) rfl hu) (pv 0) (pv 2) (by with_unfolding_all rfl)))))))
  (λ_ _ _ _=>(pv 0)))))))))),?_⟩
  apply⟨x,ss,ns,TI,st,cl,rfl,W,p,t,hC,λo H2 s2 ah X=>?_⟩;rw[YJ] at X;apply .inl ⟨⟨_,.of X⟩,qx (xs:=qH ss (nr TI cl ss.length st (cl st))) (λi ys J=>J=H2/\ys=qH ss (((nr TI cl ss.length st (cl st)).take i).filter λv=>!decide (v=st))) ⟨rfl,by simp[qH]⟩ (λi ys J _ a=>by rw[a.1];show .of X) (λi y ys J hy a=>?_) λys J a=>?_⟩
  .obtain⟨rfl,rfl⟩:=a;obtain⟨v,hv,rfl⟩:=jR hy;have g:=nr_mem.mp (yf hv);apply vNeS ?_;rw[show(!decide (tn ss v=tn ss st))=!decide (v=st) by congr 1;show yY.mpr ⟨λz=>jP hn g.1 t z,λz=>by rw[z]⟩,qbO hv];apply qE (λh=>?_) (λh=>?_)
   .ext;show⟨by rw[qI];show qg (qak (by lk)),rfl,?_⟩;rw[yH h]
   .show⟨rfl,?_⟩;rw[yE h,Yb]
  .obtain⟨rfl,rfl⟩:=a;rw[qI (L:=nr TI cl ss.length st (cl st)),yD,eo];show⟨by rw[qI];show yN (qg (by lk)),λr G=>?_⟩;have s3:=qw s2 (o:=.lst (qH ss (oth TI cl ss.length st))) G;have A:=qw (Sr J) (o:=.lst (qH ss (oth TI cl ss.length st))) G _ _ X;have Z:upd J r (.lst (qH ss (oth TI cl ss.length st))) r=some (.lst (qH ss (oth TI cl ss.length st))):=qc;generalize upd J r (.lst (qH ss (oth TI cl ss.length st)))=J2 at s3 A Z;apply⟨x,r,ss,ns,TI,_,rfl,W.same s3,p,Z,by lk,λv hv=>(oth_mem.mp hv).1.1,λb H4 s4 ad hb=>?_⟩;have O:=s3.trans s4;ext;have W4:=W.same O;obtain⟨wx,dd,ai,nn,aa,_⟩:=id W4.web;show⟨x,wx,_,rfl,aa,zh (by room),?_⟩;apply⟨x,ss,ns,tn ss st,st,rfl,W4.web,qai t,λH5 s5=>?_⟩;rw[(W.bi p).col p st];have R:=O.trans s5;have hg:GoodL H5 b ((oth TI cl ss.length st).map (zy TI)):=⟨s5 _ _ hb,by rw[ya];lk,λv hv=>by obtain⟨u,_,rfl⟩:=yJ.mp hv;show qfo p few u⟩;show⟨b,_,_,rfl,hg,qfo p few st,λab H6 Y=>?_,λj l H6 Y ag hl=>?_⟩
   .ext;show qgg (b:=true) (by decide) ?_;apply jv ?_;apply q2 ab _ (R.trans Y)
   .ext;show qgg (b:=false) (ym λz=>by cases z) ?_;apply yr ?_;ext;have U:=s5.trans Y;have S:=R.trans Y;show⟨r,l,ss,_,_,rfl,U _ _ (s4 _ _ Z),hl,?_,?_,λc H7 s7 ae hc=>?_⟩
    .unfold pkL;show yj (yy _ _) ?_;rw[YF,ya];lk
    .intro i hi;unfold pkL at hi;have:=Yd.mp (yq.mp hi).1
     rwa[ya] at this
    .ext;have D:=s7 _ _ (U _ _ (s4 _ _ A));have B:H7 c=some (.lst (qH ss (pkN TI (oth TI cl ss.length st) (zy TI st)))):=hc;generalize d:pkN TI (oth TI cl ss.length st) (zy TI st)=PK at B;have m:∀ v∈PK,v∈oth TI cl ss.length st:=λv hv=>qgh (by rw[d];show hv)
     have C:∀ v,v<ss.length->(tn ss v∈PK.map (tn ss)↔v∈PK):=λv hv=>by
      rw[yJ];show⟨λ⟨z,hz,e⟩=>by rw[<- jP hn (oth_mem.mp (m z hz)).1.1 hv e];show hz,λz=>⟨v,z,rfl⟩⟩
     show .inl ⟨⟨_,.of D⟩,qx (xs:=qH ss (nr TI cl ss.length st (cl st))) (λi ys J=>J=H7/\ys=qH ss (((nr TI cl ss.length st (cl st)).take i).filter λv=>decide (v=st)||decide (v∈PK))) ⟨rfl,by simp[qH]⟩ (λi ys J _ a=>by rw[a.1];show .of D) (λi y ys J hy a=>?_) λys J a=>?_⟩
     .obtain⟨rfl,rfl⟩:=a;obtain⟨v,hv,rfl⟩:=jR hy;have g:=nr_mem.mp (yf hv);rw[qbO hv];have lb:(qH ss (((nr TI cl ss.length st (cl st)).take i).filter λv=>decide (v=st)||decide (v∈PK))).length<sizeLine:=by rw[qI];show qg (qak (by lk))
      apply qiM ?_;rw[show decide (tn ss v=tn ss st)=decide (v=st) from yY.mpr ⟨λz=>jP hn g.1 t z,λz=>by rw[z]⟩];apply qE (λh=>?_) (λh=>?_)
      .show jv ?_;apply⟨lb,rfl,?_⟩;rw[yH (by rw[show decide (v=st)=true from h];rfl)]
      .have h:decide (v=st)=false:=by simpa using h
       apply qbi B ?_;rw[show decide (tn ss v∈PK.map (tn ss))=decide (v∈PK) from yY.mpr (C v g.1),h];apply qE (λh=>?_) (λh=>?_)
       .ext;show⟨lb,rfl,?_⟩;rw[yH (by rw[kX];show h)]
       .show⟨rfl,?_⟩;rw[yE (by rw[kX];show h),Yb]
     .obtain⟨rfl,rfl⟩:=a;rw[qI ss (nr TI cl ss.length st (cl st)),yD];have af:=yy (λv=>decide (v=st)||decide (v∈PK)) (nr TI cl ss.length st (cl st));show⟨by rw[qI];show yN (qg (by lk)),λr2 I=>?_⟩;show q1 j _ _ _ (qw (S.trans s7) I) ((S.trans s7).free I) qc (by lk) ⟨xC _ nr_inc,λv hv=>by rw[show(cl st ^^ !true)=cl st from YJ _];show(yq.mp hv).1,?_,λ_=>yq.mpr ⟨nr_mem.mpr ⟨t,.refl,rfl⟩,by rw[yx rfl];rfl⟩,by unfold tdN;rw[yH rfl,d]⟩;rw[yH rfl];have N:(oth TI cl ss.length st).Pairwise (· < ·):=xC _ nr_inc;have ac:PK.Nodup:=by rw[<- d];show(qgi N).imp λh e=>by lk
      have M:xsm (PK.map (zy TI))=zy TI st:=by rw[<- d];show qgj (λv _=>qfo p few v) j
      have pm:((nr TI cl ss.length st (cl st)).filter λv=>decide (v=st)||decide (v∈PK)).Perm (st::PK):=(xV (nr_nd.filter _) (yp.mpr ⟨λz=>(oth_mem.mp (m _ z)).2 rfl,ac⟩)).mpr λv=>by
       rw[yq,xt,yC,yC,yF];show⟨λz=>z.2,λz=>⟨?_,z⟩⟩;rcases z with rfl | z
       .show nr_mem.mpr ⟨t,.refl,rfl⟩
       .show nr_mem.mpr (oth_mem.mp (m v z)).1
      rw[qds (pm.map _),Ys,qaH,M,Nat.xor_self]
theorem uh:FnScope ["web","start","even","far"] wh (qf qas):=fS
inductive spTd(cw:Addr)(vs:List V)(H:Hp)(Q:VK)(E:XK):Prop|mk (x:Addr) (ss:LS) (ns:LN) (TI:List (Nat×Nat)) (s:Nat) (cl:Nat->Bool) (_:vs=[.ref x,.str (tn ss s)]) (_:Wt cw H x ss ns (TI.map (nmP ss))) (_:TIok ss.length TI) (_:s<ss.length) (_:(∀ a b,adjI TI a b->cl b=!cl a)) (_:∀(b:Bool) (l t:Addr) (L:LN) (H':Hp),L2.Same H H'->(b=true↔Lst TI cl ss.length s)->H l=none->H' l=some (.lst (qH ss L))->L.length<=14->TdL TI cl ss.length s b L->H' t=some (.tup [.str (if b=true then "lost" else "won"),.ref l])->Q (.ref t) H')
theorem ok_td(F:Fun K "told_set" "told_set" qas f fd)(T:Txt K mg cc cw)(u7:wqqh 11 "even_set" wh (spEs cw))(uv:wqqh 11 "far_side" wh (spNS cw true))(u6:wqqh 1 "names_at" wqI spNa)(X:wqqh 5 "picks" wq6 spPk)(U:wqqh 6 "bits_beside_each" wqJ (spBe cw))(Y:wqqh 5 "bit_of" wqy (spBi cw)):wqqj 12 f fd wh (spTd cw):=by
 show F.ok uh λ_ _ _ s H vs Q E a h=>?_
 .obtain⟨x,ss,ns,TI,st,cl,rfl,W,d,y,B,q⟩:=h;have hu:=jw a;have few:=W.wok.few;have nl:=qcb (n:=ss.length) (TI:=TI) (cl:=cl) (s:=st) (c:=(cl st ^^ true));show⟨_,(qd (qr (i:=2) uh.nd rfl (yG rfl) (qm u7 (hmR a) qv (qa (pv 0) (qa (pv 1) qb))))
 (qd (qG (qj op_notN (pv 2) qaP (qu _)) (qe (qi (ji (qa zv (qa (pv 2) qb))))) qt)
 (qd (qr (i:=3) uh.nd rfl (yG rfl) (qm uv (hmR a) qv (qa (pv 0) (qa (pv 1) qb))))
 (qe (qi (ji (qa zv (qa (qm u6 (hmR a) qv (qa (pv 3) (qa (qm X (hmR a) qv (qa (qm U (hmR a) qv (qa (pv 0) (qa (pv 3) qb))) (qa (qm Y (hmR a) qv (qa (pv 0) (qa (pv 1) qb))) qb))) qb))) qb)))))))),?_⟩
  apply⟨x,ss,ns,TI,st,cl,rfl,W,d,y,B,λhl l L H1 A l0 Z ll sL=>?_,λe H1 A=>?_⟩
  .ext;show⟨rfl,true,rfl,?_⟩;show jv ?_;apply⟨wqqn,λt j=>?_⟩;show q true _ t L _ (qw A j) ⟨λ_=>hl,λ_=>rfl⟩ l0 (qw (Sr H1) j _ _ Z) ll sL qc
  .ext;show⟨rfl,false,rfl,?_⟩;show yr ?_;apply⟨x,ss,ns,TI,st,cl,rfl,W.same A,d,y,B,λo H2 s2 ac N=>?_⟩;have m:=A.trans s2;apply⟨x,o,ss,ns,TI,_,rfl,W.same m,d,N,by lk,λv hv=>(nr_mem.mp hv).1,λb H3 O aa hb=>?_⟩;have p:=m.trans O;apply⟨x,ss,ns,st,rfl,(W.same p).web,y,few,λR I=>?_⟩;have r:=p.trans I;have hg:GoodL R b ((nr TI cl ss.length st (cl st ^^ true)).map (zy TI)):=⟨I _ _ hb,by rw[ya];lk,λv hv=>by obtain⟨u,_,rfl⟩:=yJ.mp hv;show qfo d few u⟩;have g:Spn ((nr TI cl ss.length st (cl st ^^ true)).map (zy TI)) (1 <<< st):=by rw[XA];show far_spn d B y e
   show⟨b,_,_,rfl,hg,?_,λhn=>absurd g hn,λ_ l H5 J ab hl=>?_⟩
   .rw [kU];show XF (by decide) (by lk)
   .have G:=O.trans (I.trans J);show⟨o,l,ss,_,_,rfl,G _ _ N,hl,?_,?_,λc S s7 C hc=>?_⟩
    .unfold pkL;show yj (yy _ _) ?_;rw[YF,ya];lk
    .intro i M;unfold pkL at M;have:=Yd.mp (yq.mp M).1
     rwa[ya] at this
    .show⟨wqqn,λt j=>?_⟩
     have D:(pkN TI (nr TI cl ss.length st (cl st ^^ true)) (1 <<< st)).length<=14:=by
      unfold pkN;rw[ya];unfold pkL;show yj (yy _ _) ?_;rw[YF,ya];lk
     show q false _ t _ _ (qw ((r.trans J).trans s7) j) ⟨(λz=>by cases z),λz=>absurd z e⟩ ((r.trans J).free C) (qw (Sr S) j _ _ hc) D ⟨qgi nr_inc,λv hv=>qgh hv,qgj (λv _=>qfo d few v) g,λz=>(by cases z),rfl⟩ qc
def qgs(seen:LS):List (Key×V):=seen.map λs=>(.inr s,.bl true)
theorem qcO(y:Str):∀ seen:LS,(qam (qgs seen) (.inr y:Key)).isSome=decide (y∈seen)
 | []=>rfl
 | s::r=>by
  by_cases e:s=y
  .subst e;show(qam (((.inr s:Key),V.bl true)::qgs r) _).isSome=_;rw[yx (by simp)];simp[qam]
  .show(qam (((.inr s:Key),V.bl true)::qgs r) _).isSome=_;rw[jG (p:=((.inr s:Key),V.bl true)) (λz=>e (kO z)),qcO y r];apply yY.mpr;simp[Yw e]
theorem yesK_put{seen:LS}(h:y∉seen):qbT (qgs seen) (.inr y:Key) (.bl true)=qgs (seen++[y]):=by
 have:qam (qgs seen) (.inr y:Key)=none:=by
  have:=qcO y seen;rw[ym h] at this;show Option.isNone_iff_eq_none.mp (by rw[<- Option.not_isSome,this];rfl)
 rw[qdb _ this];unfold qgs;rw[yu];rfl
def pt:LP->Str->Option Str
 | [],_=>none
 | q::r,s=>if q.1=s then some q.2 else if q.2=s then some q.1 else pt r s
def qfp:V->Bool
 | .str x=>qah x
 | _=>false
def qgJ:V->Str
 | .str x=>x
 | _=>""
theorem nameV_str{x:V}(h:qfp x=true):x=.str (qgJ x)/\qah (qgJ x)=true/\(qgJ x).length<=6:=by
 cases x with
 | str y =>
  show⟨rfl,h,?_⟩;have h':qah y=true:=h;unfold qah at h';split at h'
  .rename_i z;show z.2
  .cases h'
 | _=>cases h
inductive Th(p:Addr)(H:Hp):Nat->V->Prop
 | flat {n:Nat} {v:V} (f:zS v=true) (l:∀ s,v=.str s->s.length<=100000):Th p H n v
 | lst {n:Nat} {a:Addr} {xs:List V} (e:H a=some (.lst xs)) (ne:a≠p) (h:∀ x∈xs,Th p H n x) (l:xs.length<=1000):Th p H (n+1) (.ref a)
 | tup {n:Nat} {a:Addr} {xs:List V} (e:H a=some (.tup xs)) (ne:a≠p) (h:∀ x∈xs,Th p H n x) (l:xs.length<=1000):Th p H (n+1) (.ref a)
 | dct {n:Nat} {a:Addr} {kvs:List (Key×V)} (e:H a=some (.dK kvs)) (ne:a≠p):Th p H n (.ref a)
theorem Th.mono:∀{n:Nat} {v:V},Th p H n v->Th p H (n+1) v
 | _,_,.flat f l=>.flat f l
 | _,_,.lst e ne h l=>.lst e ne (λx a=>(h x a).mono) l
 | _,_,.tup e ne h l=>.tup e ne (λx a=>(h x a).mono) l
 | _,_,.dct e ne=>.dct e ne
theorem Th.keep(k:∀ b o,b≠p->H b=some o->H' b=some o):∀{n:Nat} {v:V},Th p H n v->Th p H' n v
 | _,_,.flat f l=>.flat f l
 | _,_,.lst e ne h l=>.lst (k _ _ ne e) ne (λx a=>(h x a).keep k) l
 | _,_,.tup e ne h l=>.tup (k _ _ ne e) ne (λx a=>(h x a).keep k) l
 | _,_,.dct e ne=>.dct (k _ _ ne e) ne
theorem Th.same{v:V}(h:Th p H n v)(s:L2.Same H H'):Th p H' n v:=h.keep λb o _ e=>s b o e
def isB:V->Bool
 | .bl _=>true
 | _=>false
theorem Th.ty{v:V}(h:Th p H n v):∃ t∈wqM,TyOf K H v (.type t)/\(qgq t "str"=true->∃ x,v=.str x/\x.length<=100000)/\(qgq t "str"=false->qfp v=false) /\
  (qgq t "tuple"=true->∃ a xs,v=.ref a/\H a=some (.tup xs)/\xs.length<=1000/\∀ x∈xs,Th p H n x)/\(qgq t "tuple"=false->∀ a xs,v=.ref a->H a≠some (.tup xs))/\qgq t "bool"=isB v:=by
 have c:∀{P:Prop} {a b:String},qgq a b=false->qgq a b=true->P:=λh1 d=>by rw[h1] at d;cases d
 have g:∀{P:Prop} {a b:String},qgq a b=true->qgq a b=false->P:=λh1 d=>by rw[h1] at d;cases d
 cases h with
 | flat f l =>
  cases v with
  | non=>show⟨_,by simp,.non,c (by decide),λ_=>rfl,c (by decide),λ_ _ _ e=>by(cases e),rfl⟩
  | bl x=>show⟨_,by simp,.bl x,c (by decide),λ_=>rfl,c (by decide),λ_ _ _ e=>by(cases e),rfl⟩
  | int x=>show⟨_,by simp,.int x,c (by decide),λ_=>rfl,c (by decide),λ_ _ _ e=>by(cases e),rfl⟩
  | str x=>show⟨_,by simp,.str x,λ_=>⟨x,rfl,l x rfl⟩,g (by decide),c (by decide),λ_ _ _ e=>by(cases e),rfl⟩
  | _=>cases f
 | lst e ne h l=>show⟨_,by simp,.lst e,c (by decide),λ_=>rfl,c (by decide),λ_ _ _ z=>by(cases z;rw[e];intro y;cases y),rfl⟩
 | tup e ne h l=>show⟨_,by simp,.tup e,c (by decide),λ_=>rfl,λ_=>⟨_,_,rfl,e,l,λx i=>(h x i).mono⟩,g (by decide),rfl⟩
 | dct e ne=>show⟨_,by simp,.dK e,c (by decide),λ_=>rfl,c (by decide),λ_ _ _ z=>by(cases z;rw[e];intro y;cases y),rfl⟩
inductive spNameG(vs:List V)(H:Hp)(Q:VK)(E:XK):Prop|mk (p:Addr) (n:Nat) (v:V) (_:vs=[v]) (_:Th p H n v) (_:∀ H',L2.Same H H'->Q (.bl (qfp v)) H')
theorem ok_nameG(F:Fun K "is_name" "is_name" zN f fd)(T:Txt K mg cc cw):wqqj 1 f fd wqk spNameG:=by
 show F.ok UJ λ_ _ _ _ H vs Q E C h=>?_
 .obtain⟨p,n,v,rfl,hv,q⟩:=h;show⟨_,(qd (qG (PW.pt (zI (qP (qD (qk (zi (K:=K) rfl) rfl T.b_isinstance Yi (qa (pv 0) (qa (jh (v:=.ty "str") rfl T.b_str boot_str rfl) qb))))) (za (qP (qeD qgp qgp qh (qk (j8 (K:=K) rfl) rfl T.b_len Yv (qa (pv 0) qb)) (qaz rfl T.g_LONGEST_NAME)))))) (qe (qi jy)) qt)
 (qe (qi (qk (qdW (K:=K) rfl rfl) rfl T.b_all kM (qa (qK (sc:=qf zN) (XN:=wqk) ["sign"] 1 [] rfl rfl rfl (by room) rfl (by room)
  (qL (K:=K) rfl (pv 0)) (λ_ _ _ _=>(qp (i:=0) (show(["sign"]:LS).Nodup by room) rfl (yG rfl))) qF
  (λ_ _ _ _=>jl)
  (λ_ _ _ _=>(qc9 qgp qgp zv (pv 0) zv))) qb))))),?_⟩
  obtain⟨t,s,ty,r,y,_,_,_⟩:=hv.ty (K:=K);apply qaB (.inl ty) rfl (jQ K t s "str" (by simp)) ?_;apply qE (λh=>?_) λh=>?_
  .ext;have z:=q H (Sr H);rw[y (by simpa using h)] at z;show z
  .obtain⟨x,rfl,A⟩:=r (by simpa using h);apply qhZ (yj A (by decide)) ?_;ext;have d:=q;simp only[qfp,qah] at d
   have a:¬ (1<=x.length/\x.length<=6)->∀ H',L2.Same H H'->Q (.bl false) H':=λhc H' r=>by
    have z:=d H' r;rw[yE hc] at z;show z
   show qE (λh1=>?_) λh1=>?_
   .ext;show qE (λe=>?_) λe=>?_
    .ext;show a (λh=>?_) H (Sr H);simp only[Y6,YU] at e;lk
    .ext
     have j:1<=x.length/\x.length<=6:=by
      have B:=yl h1;simp only[Y6,YU,Classical.not_not] at e;lk
     rw[yH j] at d;show qeL (λi ys H'=>H'=H/\ys=((x.cps.toList.take i).map sg).map V.bl) ⟨rfl,by simp⟩ (λi c ys H' hc m=>?_) λys H' m=>?_
     .obtain⟨rfl,rfl⟩:=m;apply jv ?_;ext
      have hl:(List.map V.bl (List.map sg (List.take i x.cps.toList))).length<sizeLine:=by
       rw[ya,ya,yM];show qg (yj (kj _ _) (by simpa [Str.length] using(show x.length<=1000 by lk)))
      have key:∀ b,b=sg c->(List.map V.bl (List.map sg (List.take i x.cps.toList)))++[V.bl b]=List.map V.bl (List.map sg (List.take (i+1) x.cps.toList)):=by
       intro b hb;have u:x.cps.toList[i]?=some c:=by simpa using hc
       rw[hb,yI,u];simp
      show qE (λg=>?_) λg=>?_
      .ext;show⟨hl,rfl,key _ (by unfold sg;rw[yH g])⟩
      .show⟨hl,rfl,key _ (by unfold sg;rw[yE g])⟩
     .obtain⟨rfl,rfl⟩:=m;have s:x.cps.toList.take x.cps.size=x.cps.toList:=by rw[<- YZ,yD]
      rw[s];show⟨?_,λl hl=>?_⟩
      .rw [ya,ya];show yN (qg (by simpa [Str.length] using(show x.length<=1000 by lk)))
      .ext;show⟨l,x.cps.toList.map sg,rfl,SqL.of qc,?_⟩;have z:=d _ (qw (Sr H') (o:=.lst ((x.cps.toList.map sg).map V.bl)) hl);rw[kc];show z
   .ext;show a (λh=>h1 (yx (by lk))) H (Sr H)
def qaV(ss:LS)(v:V):Bool:=if qfp v=true then decide (qgJ v∈ss) else false
inductive spPlaceG(vs:List V)(H:Hp)(Q:VK)(E:XK):Prop|mk (p:Addr) (n:Nat) (d:Addr) (ss:LS) (v:V) (_:vs=[.ref d,v]) (_:H d=some (.dK (qcd ss 0))) (_:Th p H n v) (_:∀ H',L2.Same H H'->Q (.bl (qaV ss v)) H')
theorem ok_placeG(F:Fun K "is_place" "is_place" qao f fd)(j:wqqh 1 "is_name" wqk spNameG):wqqj 2 f fd wqx spPlaceG:=by
 show F.ok Uq λ_ _ _ _ H vs Q E b h=>?_
 .obtain⟨p,n,d,ss,v,rfl,g,hv,q⟩:=h;have i:=jw b;show⟨_,(qe (qi (qal (qm j (hmR b) qv (qa (pv 1) qb)) (zU (qW (qaO (K:=K) rfl i) (pv 1) (pv 0) (by with_unfolding_all rfl)))))),?_⟩;apply⟨p,n,v,rfl,hv,λH1 c=>?_⟩;ext;have a:=q H1 c;unfold qaV at a;show qE (λhc=>?_) λhc=>?_
  .ext;rw[yH hc] at a;obtain⟨e,_,_⟩:=nameV_str hc;generalize qgJ v=x at a e;subst e;show .inr (.inl ⟨d,_,rfl,DGet.k (k:=Sum.inr x) (c d _ g),?_⟩);rw[qbo];show a
  .rw [yE hc] at a;show a
theorem KZ:FnScope ["web","thing","seen","place"] ["web","thing"] (qf ju):=fS
def UpN(H:Hp)(ss:LS)(a:Addr)(gs:LN):Prop:=H a=some (.lst (qH ss gs))/\gs.Nodup/\∀ u∈gs,u<ss.length
theorem UpN.same(h:UpN H ss a gs)(s:L2.Same H H'):UpN H' ss a gs:=⟨s _ _ h.1,h.2⟩
inductive spUlN(cw:Addr)(vs:List V)(H:Hp)(Q:VK)(E:XK):Prop|mk (x a:Addr) (ss:LS) (ns gs:LN) (_:vs=[.ref x,.ref a]) (_:WebAt cw H x ss ns) (_:UpN H ss a gs) (_:gs.length<=14) (_:∀ H',L2.Same H H'->Q (.bl true) H')
inductive spHasT(cw:Addr)(vs:List V)(H:Hp)(Q:VK)(E:XK):Prop|mk (p:Addr) (k:Nat) (x:Addr) (ss:LS) (ns:LN) (v:V) (_:vs=[.ref x,v]) (_:WebAt cw H x ss ns) (_:Th p H k v) (_:∀ H',L2.Same H H'->Q (.bl (qaV ss v)) H')
theorem ok_hasT(F:Fun K "has_place" "Web.has_place" jK f fd)(T:Txt K mg cc cw)(e:wqqh 2 "is_place" wqx spPlaceG):wqqj 3 f fd wqv (spHasT cw):=by
 show F.ok uK λ_ _ _ _ H vs Q E b h=>?_
 .obtain⟨p,k,x,ss,ns,v,rfl,⟨dx,d,ol,n,c,a,i,g,hw⟩,hv,q⟩:=h;show⟨_,(qe (qi (qm e (hmR b) qv (qa (qV (K:=K) rfl (pv 0) rfl) (qa (pv 1) qb))))),?_⟩;apply .inl ⟨x,cw,dx,_,.ref d,rfl,c,T.wcl,T.wn,zG,?_⟩;apply⟨p,k,d,ss,v,rfl,a,hv,q⟩
theorem ok_ulN(F:Fun K "are_unlike_places" "are_unlike_places" ju f fd)(T:Txt K mg cc cw)(N:wqqi 3 cw "has_place" wqv (spHas cw)):wqqj 4 f fd ["web","thing"] (spUlN cw):=by
 show F.ok KZ λ_ _ _ _ H vs Q E L h=>?_
 .obtain⟨x,a,ss,ns,gs,rfl,D,⟨r,nd,g⟩,O,q⟩:=h;have M:=jw L;obtain⟨U,X,ol,Z,hb,_,_,_,hw⟩:=id D;have R:=hw.nd;show⟨_,(qd (qG (qP (qD (qk (zi (K:=K) rfl) rfl T.b_isinstance Yi (qa (pv 1) (qa (jh (v:=.ty "list") rfl T.b_list Xe rfl) qb))))) (qe (qi jy)) qt)
 (qd (qr (i:=2) KZ.nd rfl (yG rfl) qcg)
 (qd (jq yX rfl (qL (K:=K) rfl (pv 1)) (qp (i:=3) KZ.nd rfl (yG rfl))
 (qd (qG (PW.pt (zI (qP (qD (qR N (hmR L) (pv 0) (qa (pv 3) qb)))) (za (qj (qaO (K:=K) rfl M) (pv 3) (pv 2) (by with_unfolding_all rfl))))) (qe (qi jy)) qt)
 (qe (qbt jy (qb9 (pv 2) (pv 3) (qca M))))))
 (qe (qi jy))))),?_⟩
  apply qaB (.inl (.lst r)) rfl (jQ K "list" (by simp) "list" (by simp)) ?_;apply yr ?_;ext;intro d G;have t:=qw (Sr H) (o:=.dK []) G;have C:upd H d (.dK []) d=some (.dK (qgs [])):=qc;generalize upd H d (.dK [])=H1 at t C;apply .inl ⟨⟨_,.of (t _ _ r)⟩,jX (xs:=qH ss gs) (λi σ J=>L2.Same H J/\∃ B,σ=[some (.ref x),some (.ref a),some (.ref d),B]/\J d=some (.dK (qgs ((gs.take i).map (tn ss))))) ⟨t,_,rfl,C⟩ (λi σ J _ l=>.of (l.1 _ _ r)) (λi y σ J S l=>?_) fun σ J l=>?_⟩
  .obtain⟨n,B,rfl,b⟩:=l;obtain⟨u,c,rfl⟩:=jR S;have m:=g u (yf c);apply⟨x,U,_,rfl,n _ _ hb,zh (by room),?_⟩;apply⟨x,ss,ns,tn ss u,rfl,D.same n,zO m,λW A=>?_⟩;apply yr ?_
   have I:tn ss u∉(gs.take i).map (tn ss):=λz=>by
    obtain⟨v,hv,e⟩:=yJ.mp z;have:=jP R (g v (Xh hv)) m e;subst this;obtain⟨j,p⟩:=ki.mp hv;have s:=(yc.mp p).1;rw[yM] at s;rw[kN,yH (by lk)] at p;have Y:j=i:=(List.getElem?_inj (yc.mp p).1 nd).mp (p.trans c.symm);lk
   apply .inr (.inl ⟨d,_,rfl,DGet.k (k:=Sum.inr (tn ss u)) (A _ _ b),?_⟩);rw[yE (by decide),qcO,ym I];apply yr ?_;apply .inr ⟨d,_,rfl,DPut.k (k:=Sum.inr (tn ss u)) (A _ _ b) (qg (by unfold qgs;rw[ya,ya,yM];lk)),?_⟩;show⟨qhH (n.trans A) G,_,rfl,?_⟩;rw[qc,yesK_put I,yI,c,yu];rfl
  .obtain⟨n,B,rfl,b⟩:=l;apply q J n
theorem uR:FnScope ["numbers","total","number"] wq9 (qf qcs):=fS
theorem qgk(b:Nat):∀ l:LN,(xsm l).testBit b=par l λv=>v.testBit b
 | []=>by rw[show xsm []=0 from rfl,YA];rfl
 | a::l=>by
  rw[show xsm (a::l)=l.foldl (· ^^^ ·) (0 ^^^ a) from rfl,qa2,YY,Yh,qgk b l,jt]
theorem qgl(g:α->β)(p:β->Bool):∀ l:List α,par (l.map g) p=par l λi=>p (g i)
 | []=>rfl
 | a::l=>by rw[Ys,jt,jt,qgl g p l]
theorem xsm_lt:∀{M:LN},(∀ m∈M,m<2 ^ 30)->xsm M<2 ^ 30:=by
 intro M
 induction M with
 | nil=>intro _;decide
 | cons x r ih =>
  intro h;rw[show xsm (x::r)=r.foldl (· ^^^ ·) (0 ^^^ x) from rfl,qa2,YY];show kL (h x yL) (ih λm a=>h m (yz _ a))
section
variable{n:Nat}{TI:List (Nat×Nat)}
theorem oft_par(a:TIok n TI)(nd:ps.Nodup)(e:∀ v∈ps,v<n)(f:Nat):par ps (λv=>(zy TI v).testBit f)=decide (oft TI f ps % 2=1):=by
 have b:par (bsN TI f) (λv=>decide (v∈ps))=decide (oft TI f ps % 2=1):=qev _ _
 have c:par (bsN TI f) (λv=>decide (v∈ps))=par (List.range n) λv=>decide (v∈ps)&&(zy TI f).testBit v:=by
  rw[<- qew (qe5 a f) (λv hv=>(a.adj ((zP a).mp hv)).2.1) λv _ h=>?_]
  .show zQ λv hv=>?_;rw[(qaj a).mpr ((zP a).mp hv),kr]
  .rw [Yl] at h;show(zP a).mpr ((qaj a).mp h.2)
 have d:par ps (λv=>(zy TI v).testBit f)=par (List.range n) λv=>decide (v∈ps)&&(zy TI f).testBit v:=by
  rw[<- qew nd e λv _ h=>?_]
  .show zQ λv hv=>?_;rw[yx hv,Kt,qgc a]
  .rw [Yl,yC] at h;show h.1
 rw[d,<- c,b]
theorem qdu(a:TIok n TI)(nd:ps.Nodup)(b:∀ v∈ps,v<n)(f:Nat):(xsm (ps.map (zy TI))).testBit f=decide (oft TI f ps % 2=1):=by
 rw[qgk,qgl];show oft_par a nd b f
theorem qe9(a:TIok n TI){f:Nat}(h:∀ v∈ps,¬ adjI TI v f):oft TI f ps=0:=by
 unfold oft;rw[List.length_eq_zero_iff,xO];intro v hv;rw[yC];show λz=>h v z ((zP a).mp hv).symm
variable{cl:Nat->Bool}{s:Nat}
def EvS(TI:List (Nat×Nat))(cl:Nat->Bool)(n s:Nat)(gs:LN):Prop:=gs.Nodup/\(∀ v∈gs,v∈nr TI cl n s (cl s))/\(∀ f∈nr TI cl n s (!cl s),oft TI f gs % 2=0)/\s∈gs
def OdS(TI:List (Nat×Nat))(cl:Nat->Bool)(n s:Nat)(gs:LN):Prop:=gs.Nodup/\(∀ v∈gs,v∈nr TI cl n s (!cl s))/\∀ u∈nr TI cl n s (cl s),oft TI u gs % 2=1↔u=s
theorem qhl(i:TIok n TI)(g:∀ a b,adjI TI a b->cl b=!cl a){f:Nat}(h:v∈nr TI cl n s c)(a:adjI TI v f):f∈nr TI cl n s (!c):=by
 obtain⟨h1,d,e⟩:=nr_mem.mp h;show nr_mem.mpr ⟨(i.adj a).2.1,d.on a,by rw[g _ _ a,e]⟩
theorem qhm(c:TIok n TI)(i:∀ a b,adjI TI a b->cl b=!cl a)(nd:gs.Nodup)(e:∀ v∈gs,v∈nr TI cl n s (cl s)):xsm (gs.map (zy TI))=0↔∀ f∈nr TI cl n s (!cl s),oft TI f gs % 2=0:=by
 have g:∀ v∈gs,v<n:=λv hv=>(nr_mem.mp (e v hv)).1;constructor
 .intro h f _;have:=qdu c nd g f;rw[h,YA] at this;have:=of_decide_eq_false this.symm;lk
 .intro h;show YW λf=>?_;rw[YA,qdu c nd g f];show ym λz=>?_;by_cases d:f∈nr TI cl n s (!cl s)
  .have:=h f d;lk
  .rw [qe9 c λv hv a=>d (qhl c i (e v hv) a)] at z;lk
theorem qhn(c:TIok n TI)(i:∀ a b,adjI TI a b->cl b=!cl a)(j:s<n)(nd:gs.Nodup)(f:∀ v∈gs,v∈nr TI cl n s (!cl s)):xsm (gs.map (zy TI))=1 <<< s↔∀ u∈nr TI cl n s (cl s),oft TI u gs % 2=1↔u=s:=by
 have g:∀ v∈gs,v<n:=λv hv=>(nr_mem.mp (f v hv)).1;have d:s∈nr TI cl n s (cl s):=nr_mem.mpr ⟨j,.refl,rfl⟩;rw[kU];constructor
 .intro h u _;have:=qdu c nd g u;rw[h,xp] at this;rw[yY] at this;rw[<- this];show⟨Kx,Kx⟩
 .intro h;show YW λu=>?_;rw[xp,qdu c nd g u,yY];by_cases e:u∈nr TI cl n s (cl s)
  .rw [h u e];show⟨Kx,Kx⟩
  .rw [qe9 c λv hv a=>e (by have:=qhl c i (f v hv) a;rwa[Bool.not_not] at this)];show⟨λz=>by lk,λz=>absurd (z ▸ d) e⟩
end
inductive spSu(vs:List V)(H:Hp)(Q:VK)(E:XK):Prop|mk (p:Addr) (L:LN) (_:vs=[.ref p]) (_:H p=some (.lst (ivs L))) (_:(∀ v∈L,v<2 ^ 30)) (_:Q (iv (xsm L)) H)
theorem ok_su(F:Fun K "sum_of" "sum_of" qcs f fd):wqqj 1 f fd wq9 spSu:=by
 show F.ok uR λ_ _ _ _ H vs Q E d h=>?_
 .obtain⟨p,L,rfl,e,hl,q⟩:=h;have j:=jw d;show⟨_,(qd (qr (i:=1) uR.nd rfl (yG rfl) qh)
 (qd (jq yX rfl (qL (K:=K) rfl (pv 0)) (qp (i:=2) uR.nd rfl (yG rfl))
 (qe (qr (i:=1) uR.nd rfl (yG rfl) (qM qeB (pv 1) (pv 2)))))
 (qe (qi (pv 1))))),?_⟩
  apply .inl ⟨⟨_,.of e⟩,jX (xs:=ivs L) (λi σ J=>J=H/\∃ y,σ=[some (.ref p),some (iv (xsm (L.take i))),y]) ⟨rfl,_,rfl⟩ (λi σ J _ a=>by rw[a.1];show .of e) (λi x σ J b a=>?_) fun σ J a=>?_⟩
  .obtain⟨rfl,y,rfl⟩:=a;rw[ye] at b;obtain⟨v,hv,rfl⟩:=yo.mp b;have h1:xsm (L.take i)<2 ^ 30:=xsm_lt λm c=>hl m (Xh c);have g:=hl v (yf hv);apply⟨rfl,some (iv v),?_⟩;rw[yI,hv,show(some v).toList=[v] from rfl,xsm_snoc];show [some (V.ref p),some (V.int (Builtin.bitXor (xsm (L.take i):Int) (v:Int))),some (iv v)]=_;rw[qeY]
  .obtain⟨rfl,y,rfl⟩:=a;rw[qY,yD];apply q
theorem U4:FnScope wqF wqF (qf zB):=fS
inductive spSbN(cw:Addr)(vs:List V)(H:Hp)(Q:VK)(E:XK):Prop|mk (x l a:Addr) (ss:LS) (ns:LN) (TI:List (Nat×Nat)) (L gs:LN) (_:vs=[.ref x,.ref l,.ref a]) (_:Wt cw H x ss ns (TI.map (nmP ss))) (_:TIok ss.length TI) (_:UpN H ss a gs) (_:H l=some (.lst (qH ss L))) (_:(∀ u∈L,u<ss.length)) (_:((∀ u∈gs,u∈L)->∀ H',L2.Same H H'->Q (iv (xsm (gs.map (zy TI)))) H')) (_:((¬ ∀ u∈gs,u∈L)->∀ H',L2.Same H H'->Q .non H'))
theorem ok_sbN(F:Fun K "sum_beside" "sum_beside" zB f fd)(T:Txt K mg cc cw)(M:wqqh 4 "are_unlike_places" ["web","thing"] (spUlN cw))(Z:wqqh 1 "sum_of" wq9 spSu)(I:wqqh 6 "bits_beside_each" wqJ (spBe cw)):wqqj 7 f fd wqF (spSbN cw):=by
 show F.ok U4 λ_ _ _ _ H vs Q E s h=>?_
 .obtain⟨x,l,a,ss,ns,TI,L,gs,rfl,W,D,C,hl,N,U,X⟩:=h;have q:=jw s;obtain⟨A,nd,j⟩:=id C;have R:=W.wok.nd;have few:=W.wok.few;show⟨_,(qd (qG (PW.pt (zI (qP (qD (qm M (hmR s) qv (qa (pv 0) (qa (pv 2) qb))))) (za (qP (qD (qk (qdW (K:=K) rfl rfl) rfl T.b_all kM (qa (qK (sc:=qf zB) (XN:=wqF) ["place","side"] 1 [1] rfl rfl rfl (by room) rfl (by room)
  (qL (K:=K) rfl (pv 2)) (λ_ _ _ _=>(qp (i:=0) (show(["place","side"]:LS).Nodup by room) rfl (yG rfl))) qF
  (λ_ _ _ _=>jl)
  (λ_ _ _ _=>(qW (qaO (K:=K) rfl q) (pv 0) (pv 1) (by with_unfolding_all rfl)))) qb))))))) (qe (qi qaP)) qt)
 (qe (qi (qm Z (hmR s) qv (qa (qm I (hmR s) qv (qa (pv 0) (qa (pv 2) qb))) qb))))),?_⟩
  ext;have n:gs.length<=14:=yj (qcM nd j) few;show⟨x,a,ss,ns,gs,rfl,W.web,C,n,λH1 v=>?_⟩;apply yr ?_;apply .inl ⟨⟨_,.of (v _ _ A)⟩,qx (xs:=qH ss gs) (λi ys J=>J=H1/\ys=((gs.take i).map λu=>V.bl (decide (u∈L)))) ⟨rfl,by simp⟩ (λi ys J _ p=>by rw[p.1];show .of (v _ _ A)) (λi y ys J S p=>?_) λys J p=>?_⟩
  .obtain⟨rfl,rfl⟩:=p;obtain⟨u,r,rfl⟩:=jR S;apply jv ?_;apply qbi (v _ _ hl) ?_
   have e:decide (tn ss u∈L.map (tn ss))=decide (u∈L):=yY.mpr (by
    rw[yJ];show⟨λ⟨z,t,e⟩=>by rw[<- jP R (N z t) (j u (yf r)) e];show t,λz=>⟨u,z,rfl⟩⟩)
   rw[e];show⟨by rw[ya,yM];show qg (by lk),rfl,?_⟩;rw[yI,r,yu];rfl
  .obtain⟨rfl,rfl⟩:=p;rw[qI ss gs,yD];show⟨by rw[ya];show yN (qg (by lk)),λb hb=>?_⟩;have G:=qw (Sr J) (o:=.lst (gs.map λu=>V.bl (decide (u∈L)))) hb;have B:upd J b (.lst (gs.map λu=>V.bl (decide (u∈L)))) b=some (.lst (gs.map λu=>V.bl (decide (u∈L)))):=qc;generalize upd J b (.lst (gs.map λu=>V.bl (decide (u∈L))))=J2 at G B;have g:=v.trans G;apply⟨b,gs.map λu=>decide (u∈L),rfl,SqL.of (by rw[YE];show B),?_⟩;ext
   have m:((gs.map λu=>decide (u∈L)).all id)=true↔∀ u∈gs,u∈L:=by
    rw[kc,Yr];show⟨λh u q=>yl (h u q),λh u q=>yx (h u q)⟩
   cases d:((gs.map λu=>decide (u∈L)).all id) with
   | false =>
    show jv ?_;apply X (λz=>by rw[m.mpr z] at d;cases d) _ g
   | true =>
    show yr ?_;apply⟨x,a,ss,ns,TI,gs,rfl,W.same g,D,g _ _ A,n,j,λc H3 Y O hc=>?_⟩;show⟨c,_,rfl,hc,λz t=>?_,?_⟩
    .obtain⟨u,_,rfl⟩:=yJ.mp t;show qfo D few u
    .show U (m.mp d) _ (g.trans Y)
theorem uJ:FnScope ["web","start","thing","near"] wqn (qf qaW):=fS
theorem uS:FnScope ["web","start","thing","far"] wqn (qf qbP):=fS
inductive spIeN(cw:Addr)(odd:Bool)(vs:List V)(H:Hp)(Q:VK)(E:XK):Prop|mk (x a:Addr) (ss:LS) (ns:LN) (TI:List (Nat×Nat)) (s:Nat) (cl:Nat->Bool) (gs:LN) (_:vs=[.ref x,.str (tn ss s),.ref a]) (_:Wt cw H x ss ns (TI.map (nmP ss))) (_:TIok ss.length TI) (_:UpN H ss a gs) (_:s<ss.length) (_:(∀ a b,adjI TI a b->cl b=!cl a)) (_:∀(b:Bool) (H':Hp),L2.Same H H'->(b=true↔if odd=true then OdS TI cl ss.length s gs else EvS TI cl ss.length s gs)->Q (.bl b) H')
theorem in_upN{Q:VK}(c:ss.Nodup)(h:UpN H ss a gs)(d:s<ss.length)(q:Q (.bl (decide (s∈gs))) H):qgE K false (.str (tn ss s)) (.ref a) H Q:=by
 show qbi h.1 ?_
 have e:decide (tn ss s∈gs.map (tn ss))=decide (s∈gs):=yY.mpr (by
  rw[yJ];show⟨λ⟨z,b,e⟩=>by rw[<- jP c (h.2.2 z b) d e];show b,λz=>⟨s,z,rfl⟩⟩)
 rw[e];show q
theorem qh7{j:Int}{Q:VK}(q:Q (.bl false) H):qgF K .non (.int j) H Q:=.inl (.inl (.inl ⟨rfl,rfl,by
 rw[yE (by decide),show eqV .non (.int j)=false by simp[eqV]];show q⟩))
theorem ok_ieN(F:Fun K "is_even" "is_even" qaW f fd)(T:Txt K mg cc cw)(v:wqqh 10 "near_side" wh (spNS cw false))(B:wqqh 7 "sum_beside" wqF (spSbN cw)):wqqj 11 f fd wqn (spIeN cw false):=by
 show F.ok uJ λ_ _ _ _ H vs Q E n h=>?_
 .obtain⟨x,a,ss,ns,TI,st,cl,gs,rfl,W,j,d,s,r,q⟩:=h;have e:=jw n;have A:=W.wok.nd;rw[yE (by decide)] at q;show⟨_,(qd (qr (i:=3) uJ.nd rfl (yG rfl) (qm v (hmR n) qv (qa (pv 0) (qa (pv 1) qb))))
 (qe (qi (qal (qW (jo (K:=K) rfl e) (qm B (hmR n) qv (qa (pv 0) (qa (pv 3) (qa (pv 2) qb)))) qh (qu _)) (zU (qW (qaO (K:=K) rfl e) (pv 1) (pv 2) (by with_unfolding_all rfl))))))),?_⟩
  apply⟨x,ss,ns,TI,st,cl,rfl,W,j,s,r,λl H1 g y hl=>?_⟩;rw[YJ] at hl;apply⟨x,l,a,ss,ns,TI,_,gs,rfl,W.same g,j,d.same g,hl,λu e=>(nr_mem.mp e).1,λb H2 o=>?_,λm H2 o=>?_⟩
  .have c:=g.trans o;have p:=qhm j r d.2.1 b;apply qgH ⟨_,rfl,?_⟩;by_cases t:xsm (gs.map (zy TI))=0
   .rw [yx (show((xsm (gs.map (zy TI)):Nat):Int)=0 by lk)];show jv ?_;apply in_upN A (d.same c) s ?_;show q _ _ c ?_;rw[yC];show⟨λz=>⟨d.2.1,b,p.mp t,z⟩,λz=>z.2.2.2⟩
   .rw [ym (show ¬ ((xsm (gs.map (zy TI)):Nat):Int)=0 by lk)];show yr ?_;show q _ _ c ⟨λz=>(by cases z),λz=>absurd (p.mpr z.2.2.1) t⟩
  .ext;show qh7 ⟨_,rfl,?_⟩;show yr ?_;show q _ _ (g.trans o) ⟨λz=>(by cases z),λz=>absurd z.2.1 m⟩
theorem ok_ioN(F:Fun K "is_odd" "is_odd" qbP f fd)(T:Txt K mg cc cw)(B:wqqh 11 "far_side" wh (spNS cw true))(A:wqqh 7 "sum_beside" wqF (spSbN cw))(v:wqqh 5 "bit_of" wqy (spBi cw)):wqqj 12 f fd wqn (spIeN cw true):=by
 show F.ok uS λ_ _ _ _ H vs Q E d h=>?_
 .obtain⟨x,a,ss,ns,TI,st,cl,gs,rfl,W,m,j,e,s,q⟩:=h;have o:=jw d;rw[yH rfl] at q;show⟨_,(qd (qr (i:=3) uS.nd rfl (yG rfl) (qm B (hmR d) qv (qa (pv 0) (qa (pv 1) qb))))
 (qe (qi (qW (jo (K:=K) rfl o) (qm A (hmR d) qv (qa (pv 0) (qa (pv 3) (qa (pv 2) qb)))) (qm v (hmR d) qv (qa (pv 0) (qa (pv 1) qb))) (qu _))))),?_⟩
  apply⟨x,ss,ns,TI,st,cl,rfl,W,m,e,s,λl H1 g y hl=>?_⟩;rw[XA] at hl;apply⟨x,l,a,ss,ns,TI,_,gs,rfl,W.same g,m,j.same g,hl,λu o=>(nr_mem.mp o).1,λc H2 p=>?_,λn H2 p=>?_⟩
  .have b:=g.trans p;apply⟨x,ss,ns,st,rfl,(W.same b).web,e,W.wok.few,λt r=>?_⟩;show qgH ?_;show q _ _ (b.trans r) ?_;rw[yC,show(((xsm (gs.map (zy TI)):Nat):Int)=((1 <<< st:Nat):Int))↔xsm (gs.map (zy TI))=1 <<< st by lk,qhn m s e j.2.1 c];show⟨λz=>⟨j.2.1,c,z⟩,λz=>z.2.2⟩
  .have b:=g.trans p;apply⟨x,ss,ns,st,rfl,(W.same b).web,e,W.wok.few,λt r=>?_⟩;show qh7 ?_;show q _ _ (b.trans r) ⟨λz=>(by cases z),λz=>absurd z.2.1 n⟩
theorem uO:FnScope wqb wqg (qf jM):=fS
theorem uW:FnScope wqc wqg (qf j9):=fS
theorem qho:(L.map λ(v:Nat)=>(v:Int)).Nodup↔L.Nodup:=by
 constructor
 .intro h;show(YM.mp h).imp λh e=>h (by rw[e])
 .show λh=>YM.mpr (h.imp λh e=>h (Int.ofNat.inj e))
theorem qgK{i j:Int}{Q:VK}(q:Q (.bl (!decide (i=j))) H):qg0 K true (.int i) (.int j) H Q:=.inl ⟨rfl,rfl,by
 have e:=zl i j;rw[yE (by decide)] at e;rw[yH rfl,e];show q⟩
theorem qcP{Q:VK}(c:H a=some (.lst xs))(hb:H b=some (.lst []))(q:Q (.bl xs.isEmpty) H):qgF K (.ref a) (.ref b) H Q:=
 .inl (.inl (.inr (.inl ⟨a,b,_,1,rfl,rfl,by decide,qgd c hb,q⟩)))
theorem eqT_ivs(d:H a=some (.lst (ivs L)))(hb:H b=some (.lst (ivs M))):EqT K H 1 a b (decide (L=M)):=by
 by_cases hl:L.length=M.length
 .have z:=EqT.lst (K:=K) (H:=H) (n:=0) (e:=λj=>decide (L[j]?=M[j]?)) (SqL.of d) (SqL.of hb) (by rw[qY,qY,hl]) λj x y h1 c=>by
   rw[ye] at h1 c;obtain⟨u,f,rfl⟩:=yo.mp h1;obtain⟨v,g,rfl⟩:=yo.mp c;have:=EqD.flat (K:=K) (H:=H) (n:=0) (x:=iv u) (y:=iv v) rfl rfl;have ev:=zl (u:Int) (v:Int);rw[yE (by decide)] at ev;rw[ev] at this;rw[f,g,show decide (some u=some v)=decide ((u:Int)=(v:Int)) from yY.mpr ⟨λh=>by rw[yn h],λh=>by rw[Int.ofNat.inj h]⟩];show this
  have e:((List.range (ivs L).length).all λj=>decide (L[j]?=M[j]?))=decide (L=M):=by
   rw[yT,Yr,yC];constructor
   .intro h;show List.ext_getElem? λj=>?_;by_cases i:j<L.length
    .show yl (h j (Yd.mpr (by rw[qY];show i)))
    .rw [xZ (by lk),xZ (by lk)]
   .rintro rfl j _;show yx rfl
  rwa[e] at z
 .rw [ym (λz=>hl (by rw[z]))];show EqT.lstL (SqL.of d) (SqL.of hb) (by rw[qY,qY];show hl)
theorem vEqIs{Q:VK}(c:H a=some (.lst (ivs L)))(hb:H b=some (.lst (ivs M)))(q:Q (.bl (decide (L=M))) H):qgF K (.ref a) (.ref b) H Q:=
 .inl (.inl (.inr (.inl ⟨a,b,_,1,rfl,rfl,by decide,eqT_ivs c hb,q⟩)))
inductive spLeN(odd:Bool)(vs:List V)(H:Hp)(Q:VK)(E:XK):Prop|mk (n l a:Addr) (ss:LS) (ts:LI) (TI:List (Nat×Nat)) (s:Nat) (cl:Nat->Bool) (L:LN) (_:vs=[.ref n,.ref l,iv s,.ref a]) (_:H n=some (.lst (ss.map V.str))) (_:ss.Nodup) (_:IPL H l ts TI) (_:TIok ss.length TI) (_:ss.length<=14) (_:s<ss.length) (_:(∀ a b,adjI TI a b->cl b=!cl a)) (_:UpN H ss a L) (_:∀(b:Bool) (H':Hp),L2.Same H H'->(b=true↔if odd=true then OdS TI cl ss.length s L else EvS TI cl ss.length s L)->Q (.bl b) H')
theorem ok_levN(F:Fun K "_law_is_even" "_law_is_even" jM f fd)(T:Txt K mg cc cw)(Uy:wqqh 3 "_law_near" wqh (spNrI false))(UU:wqqh 3 "_law_far" wqh (spNrI true))(Ue:wqqh 2 "_law_often" wqm spOf):wqqj 4 f fd wqg (spLeN false):=by
 show F.ok uO λ_ _ _ s H vs Q E hr h=>?_
 .obtain⟨n,l,a,ss,ts,TI,st,cl,L,rfl,hN,hn,hI,hT,B,hs,hC,⟨Z,nd,hL⟩,q⟩:=h;rw[yE (by decide)] at q;have ai:L.length<=14:=yj (qcM nd hL) B;have I:=jw hr;show⟨_,(qd (qG (PW.pt (zI (qP (qD (qk (zi (K:=K) rfl) rfl T.b_isinstance Yi (qa (pv 3) (qa (jh (v:=.ty "list") rfl T.b_list Xe rfl) qb))))) (za (qP (qD (qk (qdW (K:=K) rfl rfl) rfl T.b_all kM (qa (qK (sc:=qf jM) (XN:=wqb) wqf 1 [0] rfl rfl rfl (by room) rfl (by room)
  (qL (K:=K) rfl (pv 3)) (λ_ _ _ _=>(qp (i:=0) (show(wqf:LS).Nodup by room) rfl (yG rfl))) qF
  (λ_ _ _ _=>jl)
  (λ_ _ _ _=>(qal (qk (zi (K:=K) rfl) rfl T.b_isinstance Yi (qa (pv 0) (qa (jh (v:=.ty "str") rfl T.b_str boot_str rfl) qb))) (zU (qW (qaO (K:=K) rfl I) (pv 0) (pv 1) (by with_unfolding_all rfl)))))) qb))))))) (qe (qi jy)) qt)
 (qd (qr (i:=4) uO.nd rfl (xK rfl) (qK (sc:=qf jM) (XN:=wqb) wqf 1 [0] rfl rfl rfl (by room) rfl (by room)
  (qL (K:=K) rfl (pv 3)) (λ_ _ _ _=>(qp (i:=0) (show(wqf:LS).Nodup by room) rfl (yG rfl))) qF
  (λ_ _ _ _=>jl)
  (λ_ _ _ _=>(qeb (K:=K) rfl yV Xp X6 (qem (K:=K) rfl) (pv 1) (qa (pv 0) qb)))))
 (qd (qr (i:=5) uO.nd rfl (xK rfl) (qm Uy (hmR hr) qv (qa (pv 1) (qa (pv 2) qb))))
 (qd (qG (PW.pt (zI (qj (zc (K:=K) rfl I) (pv 2) (pv 4) (by with_unfolding_all rfl)) (zI (qj (zT (K:=K) rfl I) (qk (qg7) rfl T.b_len Yv (qa (qX (qg6 (K:=K) rfl rfl) rfl T.b_set boot_set (qa (pv 4) qb)) qb)) (qk (j8 (K:=K) rfl) rfl T.b_len Yv (qa (pv 4) qb)) (qu _)) (za (qj (zT (K:=K) rfl I) (qK (sc:=qf jM) (XN:=wqb) ["_law_one","_law_near_here"] 1 [5] rfl rfl rfl (by room) rfl (by room)
  (qL (K:=K) rfl (pv 4)) (λ_ _ _ _=>(qp (i:=0) (show(["_law_one","_law_near_here"]:LS).Nodup by room) rfl (yG rfl))) qF
  (λ_ _ _ _=>(qJ (qj (zc (K:=K) rfl I) (pv 0) (pv 1) (by with_unfolding_all rfl))))
  (λ_ _ _ _=>(pv 0))) (qS qb) (qu _)))))) (qe (qi jy)) qt)
 (qe (qi (qW (jo (K:=K) rfl I) (qK (sc:=qf jM) (XN:=wqb) wqY 1 [1,4] rfl rfl rfl (by room) rfl (by room)
  (qL (K:=K) rfl (qm UU (hmR hr) qv (qa (pv 1) (qa (pv 2) qb)))) (λ_ _ _ _=>(qp (i:=0) (show(wqY:LS).Nodup by room) rfl (yG rfl))) qF
  (λ_ _ _ _=>(qJ (qj (jo (K:=K) rfl I) (qM zJ (qm Ue (hmR hr) qv (qa (pv 1) (qa (pv 0) (qa (pv 2) qb)))) qh) qh (qu _))))
  (λ_ _ _ _=>(pv 0))) (qS qb) (qu _)))))))),?_⟩
  apply qaB (.inl (.lst Z)) rfl (jQ K "list" (by simp) "list" (by simp)) ?_;apply yr ?_;apply .inl ⟨⟨_,.of Z⟩,qx (xs:=qH ss L) (λi ys J=>J=H/\ys=((L.take i).map λ_=>V.bl true)) ⟨rfl,by simp⟩ (λi ys J _ j=>by rw[j.1];show .of Z) (λi y ys J hy j=>?_) λys J j=>?_⟩
  .obtain⟨rfl,rfl⟩:=j;obtain⟨u,e,rfl⟩:=jR hy;apply jv ?_;apply qaB (.inl (.str _)) rfl (jQ K "str" (by simp) "str" (by simp)) ?_;apply jv ?_;apply qbi hN ?_;rw[yx (zO (hL u (yf e)))];show⟨by rw[ya,yM];show qg (by lk),rfl,?_⟩;rw[yI,e,yu];rfl
  obtain⟨rfl,rfl⟩:=j;rw[qI,yD];show⟨by rw[ya];show yN (qg (by lk)),λb hb=>?_⟩;have M:=qw (Sr J) (o:=.lst (L.map λ_=>V.bl true)) hb;have eb:upd J b (.lst (L.map λ_=>V.bl true)) b=some (.lst (L.map λ_=>V.bl true)):=qc;generalize upd J b (.lst (L.map λ_=>V.bl true))=J2 at M eb;apply⟨b,L.map λ_=>true,rfl,SqL.of (by rw[YE];show eb),?_⟩;rw[show(L.map λ_=>true).all id=true from Yr.mpr λz hz=>by obtain⟨_,_,rfl⟩:=yJ.mp hz;rfl];apply yr ?_;apply .inl ⟨⟨_,.of (M _ _ Z)⟩,qx (xs:=qH ss L) (λi ys J=>J=J2/\ys=ivs (L.take i)) ⟨rfl,by simp⟩ (λi ys J _ j=>by rw[j.1];show .of (M _ _ Z)) (λi y ys J hy j=>?_) λys J j=>?_⟩
  .obtain⟨rfl,rfl⟩:=j;obtain⟨u,e,rfl⟩:=jR hy;have ab:=hL u (yf e);have ak:i<L.length:=(yc.mp e).1;apply jv ?_;apply⟨.inl ⟨rfl,_,.of (M _ _ hN)⟩,?_⟩;apply⟨n,ss,tn ss u,rfl,rfl,SqL.of (M _ _ hN),zO ab,?_⟩;rw[zx hn ab];show⟨by rw[qY,yM];show qg (by lk),rfl,?_⟩;rw[yI,e];show _=List.map iv _;rw[yu];rfl
  .obtain⟨rfl,rfl⟩:=j;rw[qI,yD];show⟨by rw[qY];show yN (qg (by lk)),λpl ag=>?_⟩;have s3:=qw M (o:=.lst (ivs L)) ag;have ep:upd J pl (.lst (ivs L)) pl=some (.lst (ivs L)):=qc;generalize upd J pl (.lst (ivs L))=J3 at s3 ep;apply⟨l,ts,TI,st,ss.length,cl,rfl,hI.same s3,hT,B,hs,hC,λam J4 s4 p er=>?_⟩;have ad:=s3.trans s4;rw[YJ] at er;have A:=s4 _ _ ep;apply qgI A ?_;ext;by_cases t:st∈L
   .rw [yx t];show yr ?_;apply⟨pl,L.map λ(v:Nat)=>(v:Int),rfl,SqL.of (by rw[YE];show A),by rw[ya];lk,λsl S m G af D=>?_⟩;rw[ya] at af D;rw[qho] at D;have s5:=qw ad (o:=.set S m) G;have g:=qw (Sr J4) (o:=.set S m) G _ _ A;have X:=qw (Sr J4) (o:=.set S m) G _ _ er;apply⟨sl,S,m,rfl,qc,?_⟩;generalize upd J4 sl (.set S m)=J5 at s5 g X;apply zK g ?_;rw[qY];show qgK ?_;ext;rw[yx (show(m:Int)=(L.length:Int) by rw[D.mpr nd])];show yr ?_;apply .inl ⟨⟨_,.of g⟩,qx (xs:=ivs L) (λi ys J=>J=J5/\ys=ivs ((L.take i).filter λv=>!decide (v∈nr TI cl ss.length st (cl st)))) ⟨rfl,by simp⟩ (λi ys J _ d=>by rw[d.1];show .of g) (λi x ys J hx d=>?_) λys J d=>?_⟩
    .obtain⟨rfl,rfl⟩:=d;rw[ye] at hx;obtain⟨v,hv,rfl⟩:=yo.mp hx;apply qgI X ?_;ext;rw[qba hv];show qE (λh=>?_) (λh=>?_)
     .ext;show⟨by rw[ya];show qg (qak (by lk)),rfl,?_⟩;rw[yH h];show _=List.map iv _;rw[yu];rfl
     .show⟨rfl,?_⟩;rw[yE h,Yb]
    .obtain⟨rfl,rfl⟩:=d;rw[qY L,yD];have fl:=yy (λv=>!decide (v∈nr TI cl ss.length st (cl st))) L;show⟨by rw[ya];show yN (qg (by lk)),λr p=>?_⟩;have s6:=qw s5 (o:=.lst (ivs (L.filter λv=>!decide (v∈nr TI cl ss.length st (cl st))))) p;have e6:upd J r (.lst (ivs (L.filter λv=>!decide (v∈nr TI cl ss.length st (cl st))))) r=some (.lst (ivs (L.filter λv=>!decide (v∈nr TI cl ss.length st (cl st))))):=qc;have U:=qw (Sr J) (o:=.lst (ivs (L.filter λv=>!decide (v∈nr TI cl ss.length st (cl st))))) p _ _ g;generalize upd J r (.lst (ivs (L.filter λv=>!decide (v∈nr TI cl ss.length st (cl st)))))=J6 at s6 e6 U;apply⟨wqql,λz hz=>?_⟩;have s7:=qw s6 (o:=.lst []) hz;have O:=qw (Sr J6) (o:=.lst []) hz _ _ e6;have W:=qw (Sr J6) (o:=.lst []) hz _ _ U;have ez:upd J6 z (.lst []) z=some (.lst []):=qc;generalize upd J6 z (.lst [])=J7 at s7 O W ez;show qe7 O ez ?_;ext
     have em:(ivs (L.filter λv=>!decide (v∈nr TI cl ss.length st (cl st)))).isEmpty=true↔∀ v∈L,v∈nr TI cl ss.length st (cl st):=by
      rw[Xs,XS,xO];show⟨λh v hv=>Xb λz=>h v hv (by rw[ym z];rfl),λh v hv=>by rw[yx (h v hv)];decide⟩
     cases C:(ivs (L.filter λv=>!decide (v∈nr TI cl ss.length st (cl st)))).isEmpty with
     | false =>
      show jv ?_;apply q false _ s7 ⟨λz=>(by cases z),λz=>by rw[em.mpr z.2.1] at C;cases C⟩
     | true =>
      have aa:=em.mp C;show yr ?_;apply⟨l,ts,TI,st,ss.length,cl,rfl,hI.same s7,hT,B,hs,hC,λfr J8 s8 aj ef=>?_⟩;rw[XA] at ef;have ae:=s7.trans s8;show .inl ⟨⟨_,.of ef⟩,qx (xs:=ivs (nr TI cl ss.length st (!cl st))) (λi ys J=>L2.Same J8 J/\ys=ivs (((nr TI cl ss.length st (!cl st)).take i).filter λv=>decide (oft TI v L % 2=1))) ⟨L2.Same.refl J8,by simp⟩ (λi ys J _ d=>.of (d.1 _ _ ef)) (λi x ys J hx d=>?_) λys J d=>?_⟩
      .obtain⟨N,rfl⟩:=d;rw[ye] at hx;obtain⟨v,hv,rfl⟩:=yo.mp hx;have al:=nr_mem.mp (yf hv);have ah:=ae.trans N;apply⟨l,pl,ts,TI,v,ss.length,L,rfl,hI.same ah,hT,N _ _ (s8 _ _ W),λJ9 s9=>?_⟩;apply vI (by decide) ?_;show qgH ?_;ext;rw[show decide (((oft TI v L:Nat):Int) % 2=1)=decide (oft TI v L % 2=1) from yY.mpr (by lk),qba hv];have nl:=qcb (n:=ss.length) (TI:=TI) (cl:=cl) (s:=st) (c:=!cl st);show qE (λh=>?_) (λh=>?_)
       .ext;show⟨by rw[ya];show qg (qak (by lk)),N.trans s9,?_⟩;rw[yH h];show _=List.map iv _;rw[yu];rfl
       .show⟨N.trans s9,?_⟩;rw[yE h,Yb]
      .obtain⟨N,rfl⟩:=d;rw[qY (nr TI cl ss.length st (!cl st)),yD];have nl:=qcb (n:=ss.length) (TI:=TI) (cl:=cl) (s:=st) (c:=!cl st);have fl:=yy (λv=>decide (oft TI v L % 2=1)) (nr TI cl ss.length st (!cl st));show⟨by rw[ya];show yN (qg (by lk)),λr p=>?_⟩;have s9:=qw (ae.trans N) (o:=.lst (ivs ((nr TI cl ss.length st (!cl st)).filter λv=>decide (oft TI v L % 2=1)))) p;have e9:upd J r (.lst (ivs ((nr TI cl ss.length st (!cl st)).filter λv=>decide (oft TI v L % 2=1)))) r=some (.lst (ivs ((nr TI cl ss.length st (!cl st)).filter λv=>decide (oft TI v L % 2=1)))):=qc;generalize upd J r (.lst (ivs ((nr TI cl ss.length st (!cl st)).filter λv=>decide (oft TI v L % 2=1))))=J9 at s9 e9;apply⟨wqql,λz2 ac=>?_⟩;have sA:=qw s9 (o:=.lst []) ac;have R:=qw (Sr J9) (o:=.lst []) ac _ _ e9;have Y:upd J9 z2 (.lst []) z2=some (.lst []):=qc;generalize upd J9 z2 (.lst [])=JA at sA R Y;show qcP R Y (q _ _ sA ?_);rw[Xs,XS,xO];show⟨λh=>⟨nd,aa,λf hf=>?_,t⟩,λh v hv=>?_⟩
       .have:=h f hf;rw[yC] at this;lk
       .rw [yC];have:=h.2.2.1 v hv;lk
   .rw [ym t];show jv ?_;apply q false _ ad ⟨λz=>(by cases z),λz=>absurd z.2.2.2 t⟩
theorem ok_lodN(F:Fun K "_law_is_odd" "_law_is_odd" j9 f fd)(T:Txt K mg cc cw)(Uy:wqqh 3 "_law_near" wqh (spNrI false))(UU:wqqh 3 "_law_far" wqh (spNrI true))(Ue:wqqh 2 "_law_often" wqm spOf):wqqj 4 f fd wqg (spLeN true):=by
 show F.ok uW λ_ _ _ s H vs Q E hr h=>?_
 .obtain⟨n,l,a,ss,ts,TI,st,cl,L,rfl,hN,hn,hI,hT,A,hs,hC,⟨W,nd,hL⟩,q⟩:=h;rw[yH rfl] at q;have ai:L.length<=14:=yj (qcM nd hL) A;have t:=jw hr;show⟨_,(qd (qG (PW.pt (zI (qP (qD (qk (zi (K:=K) rfl) rfl T.b_isinstance Yi (qa (pv 3) (qa (jh (v:=.ty "list") rfl T.b_list Xe rfl) qb))))) (za (qP (qD (qk (qdW (K:=K) rfl rfl) rfl T.b_all kM (qa (qK (sc:=qf j9) (XN:=wqc) wqf 1 [0] rfl rfl rfl (by room) rfl (by room)
  (qL (K:=K) rfl (pv 3)) (λ_ _ _ _=>(qp (i:=0) (show(wqf:LS).Nodup by room) rfl (yG rfl))) qF
  (λ_ _ _ _=>jl)
  (λ_ _ _ _=>(qal (qk (zi (K:=K) rfl) rfl T.b_isinstance Yi (qa (pv 0) (qa (jh (v:=.ty "str") rfl T.b_str boot_str rfl) qb))) (zU (qW (qaO (K:=K) rfl t) (pv 0) (pv 1) (by with_unfolding_all rfl)))))) qb))))))) (qe (qi jy)) qt)
 (qd (qr (i:=4) uW.nd rfl (xK rfl) (qK (sc:=qf j9) (XN:=wqc) wqf 1 [0] rfl rfl rfl (by room) rfl (by room)
  (qL (K:=K) rfl (pv 3)) (λ_ _ _ _=>(qp (i:=0) (show(wqf:LS).Nodup by room) rfl (yG rfl))) qF
  (λ_ _ _ _=>jl)
  (λ_ _ _ _=>(qeb (K:=K) rfl yV Xp X6 (qem (K:=K) rfl) (pv 1) (qa (pv 0) qb)))))
 (qd (qr (i:=5) uW.nd rfl (xK rfl) (qm UU (hmR hr) qv (qa (pv 1) (qa (pv 2) qb))))
 (qd (qG (PW.pt (zI (qj (zT (K:=K) rfl t) (qk (qg7) rfl T.b_len Yv (qa (qX (qg6 (K:=K) rfl rfl) rfl T.b_set boot_set (qa (pv 4) qb)) qb)) (qk (j8 (K:=K) rfl) rfl T.b_len Yv (qa (pv 4) qb)) (qu _)) (za (qj (zT (K:=K) rfl t) (qK (sc:=qf j9) (XN:=wqc) ["_law_one","_law_others"] 1 [5] rfl rfl rfl (by room) rfl (by room)
  (qL (K:=K) rfl (pv 4)) (λ_ _ _ _=>(qp (i:=0) (show(["_law_one","_law_others"]:LS).Nodup by room) rfl (yG rfl))) qF
  (λ_ _ _ _=>(qJ (qj (zc (K:=K) rfl t) (pv 0) (pv 1) (by with_unfolding_all rfl))))
  (λ_ _ _ _=>(pv 0))) (qS qb) (qu _))))) (qe (qi jy)) qt)
 (qe (qi (qW (jo (K:=K) rfl t) (qK (sc:=qf j9) (XN:=wqc) wqW 1 [1,4] rfl rfl rfl (by room) rfl (by room)
  (qL (K:=K) rfl (qm Uy (hmR hr) qv (qa (pv 1) (qa (pv 2) qb)))) (λ_ _ _ _=>(qp (i:=0) (show(wqW:LS).Nodup by room) rfl (yG rfl))) qF
  (λ_ _ _ _=>(qJ (qj (jo (K:=K) rfl t) (qM zJ (qm Ue (hmR hr) qv (qa (pv 1) (qa (pv 0) (qa (pv 2) qb)))) qh) qh (qu _))))
  (λ_ _ _ _=>(pv 0))) (qS (qa (pv 2) qb)) (qu _)))))))),?_⟩
  apply qaB (.inl (.lst W)) rfl (jQ K "list" (by simp) "list" (by simp)) ?_;apply yr ?_;apply .inl ⟨⟨_,.of W⟩,qx (xs:=qH ss L) (λi ys J=>J=H/\ys=((L.take i).map λ_=>V.bl true)) ⟨rfl,by simp⟩ (λi ys J _ j=>by rw[j.1];show .of W) (λi y ys J hy j=>?_) λys J j=>?_⟩
  .obtain⟨rfl,rfl⟩:=j;obtain⟨u,e,rfl⟩:=jR hy;apply jv ?_;apply qaB (.inl (.str _)) rfl (jQ K "str" (by simp) "str" (by simp)) ?_;apply jv ?_;apply qbi hN ?_;rw[yx (zO (hL u (yf e)))];show⟨by rw[ya,yM];show qg (by lk),rfl,?_⟩;rw[yI,e,yu];rfl
  obtain⟨rfl,rfl⟩:=j;rw[qI,yD];show⟨by rw[ya];show yN (qg (by lk)),λb hb=>?_⟩;have G:=qw (Sr J) (o:=.lst (L.map λ_=>V.bl true)) hb;have eb:upd J b (.lst (L.map λ_=>V.bl true)) b=some (.lst (L.map λ_=>V.bl true)):=qc;generalize upd J b (.lst (L.map λ_=>V.bl true))=J2 at G eb;apply⟨b,L.map λ_=>true,rfl,SqL.of (by rw[YE];show eb),?_⟩;rw[show(L.map λ_=>true).all id=true from Yr.mpr λz hz=>by obtain⟨_,_,rfl⟩:=yJ.mp hz;rfl];apply yr ?_;apply .inl ⟨⟨_,.of (G _ _ W)⟩,qx (xs:=qH ss L) (λi ys J=>J=J2/\ys=ivs (L.take i)) ⟨rfl,by simp⟩ (λi ys J _ j=>by rw[j.1];show .of (G _ _ W)) (λi y ys J hy j=>?_) λys J j=>?_⟩
  .obtain⟨rfl,rfl⟩:=j;obtain⟨u,e,rfl⟩:=jR hy;have Z:=hL u (yf e);have ak:i<L.length:=(yc.mp e).1;apply jv ?_;apply⟨.inl ⟨rfl,_,.of (G _ _ hN)⟩,?_⟩;apply⟨n,ss,tn ss u,rfl,rfl,SqL.of (G _ _ hN),zO Z,?_⟩;rw[zx hn Z];show⟨by rw[qY,yM];show qg (by lk),rfl,?_⟩;rw[yI,e];show _=List.map iv _;rw[yu];rfl
  .obtain⟨rfl,rfl⟩:=j;rw[qI,yD];show⟨by rw[qY];show yN (qg (by lk)),λpl af=>?_⟩;have s3:=qw G (o:=.lst (ivs L)) af;have ep:upd J pl (.lst (ivs L)) pl=some (.lst (ivs L)):=qc;generalize upd J pl (.lst (ivs L))=J3 at s3 ep;apply⟨l,ts,TI,st,ss.length,cl,rfl,hI.same s3,hT,A,hs,hC,λam J4 s4 p er=>?_⟩;have ag:=s3.trans s4;rw[XA] at er;have N:=s4 _ _ ep;apply⟨pl,L.map λ(v:Nat)=>(v:Int),rfl,SqL.of (by rw[YE];show N),by rw[ya];lk,λsl S m D ae C=>?_⟩;rw[ya] at ae C;rw[qho] at C;have s5:=qw ag (o:=.set S m) D;have g:=qw (Sr J4) (o:=.set S m) D _ _ N;have U:=qw (Sr J4) (o:=.set S m) D _ _ er;apply⟨sl,S,m,rfl,qc,?_⟩;generalize upd J4 sl (.set S m)=J5 at s5 g U;apply zK g ?_;rw[qY];show qgK ?_;ext;rw[yx (show(m:Int)=(L.length:Int) by rw[C.mpr nd])];show yr ?_;apply .inl ⟨⟨_,.of g⟩,qx (xs:=ivs L) (λi ys J=>J=J5/\ys=ivs ((L.take i).filter λv=>!decide (v∈nr TI cl ss.length st (!cl st)))) ⟨rfl,by simp⟩ (λi ys J _ d=>by rw[d.1];show .of g) (λi x ys J hx d=>?_) λys J d=>?_⟩
   .obtain⟨rfl,rfl⟩:=d;rw[ye] at hx;obtain⟨v,hv,rfl⟩:=yo.mp hx;apply qgI U ?_;ext;rw[qba hv];show qE (λh=>?_) (λh=>?_)
    .ext;show⟨by rw[ya];show qg (qak (by lk)),rfl,?_⟩;rw[yH h];show _=List.map iv _;rw[yu];rfl
    .show⟨rfl,?_⟩;rw[yE h,Yb]
   .obtain⟨rfl,rfl⟩:=d;rw[qY L,yD];have fl:=yy (λv=>!decide (v∈nr TI cl ss.length st (!cl st))) L;show⟨by rw[ya];show yN (qg (by lk)),λr p=>?_⟩;have s6:=qw s5 (o:=.lst (ivs (L.filter λv=>!decide (v∈nr TI cl ss.length st (!cl st))))) p;have e6:upd J r (.lst (ivs (L.filter λv=>!decide (v∈nr TI cl ss.length st (!cl st))))) r=some (.lst (ivs (L.filter λv=>!decide (v∈nr TI cl ss.length st (!cl st))))):=qc;have O:=qw (Sr J) (o:=.lst (ivs (L.filter λv=>!decide (v∈nr TI cl ss.length st (!cl st))))) p _ _ g;generalize upd J r (.lst (ivs (L.filter λv=>!decide (v∈nr TI cl ss.length st (!cl st)))))=J6 at s6 e6 O;apply⟨wqql,λz hz=>?_⟩;have s7:=qw s6 (o:=.lst []) hz;have M:=qw (Sr J6) (o:=.lst []) hz _ _ e6;have R:=qw (Sr J6) (o:=.lst []) hz _ _ O;have ez:upd J6 z (.lst []) z=some (.lst []):=qc;generalize upd J6 z (.lst [])=J7 at s7 M R ez;show qe7 M ez ?_;ext
    have em:(ivs (L.filter λv=>!decide (v∈nr TI cl ss.length st (!cl st)))).isEmpty=true↔∀ v∈L,v∈nr TI cl ss.length st (!cl st):=by
     rw[Xs,XS,xO];show⟨λh v hv=>Xb λz=>h v hv (by rw[ym z];rfl),λh v hv=>by rw[yx (h v hv)];decide⟩
    cases B:(ivs (L.filter λv=>!decide (v∈nr TI cl ss.length st (!cl st)))).isEmpty with
    | false =>
     show jv ?_;apply q false _ s7 ⟨λz=>(by cases z),λz=>by rw[em.mpr z.2.1] at B;cases B⟩
    | true =>
     have Y:=em.mp B;show yr ?_;apply⟨l,ts,TI,st,ss.length,cl,rfl,hI.same s7,hT,A,hs,hC,λfr J8 s8 aj ef=>?_⟩;rw[YJ] at ef;have ab:=s7.trans s8;show .inl ⟨⟨_,.of ef⟩,qx (xs:=ivs (nr TI cl ss.length st (cl st))) (λi ys J=>L2.Same J8 J/\ys=ivs (((nr TI cl ss.length st (cl st)).take i).filter λv=>decide (oft TI v L % 2=1))) ⟨L2.Same.refl J8,by simp⟩ (λi ys J _ d=>.of (d.1 _ _ ef)) (λi x ys J hx d=>?_) λys J d=>?_⟩
     .obtain⟨I,rfl⟩:=d;rw[ye] at hx;obtain⟨v,hv,rfl⟩:=yo.mp hx;have al:=nr_mem.mp (yf hv);have ah:=ab.trans I;apply⟨l,pl,ts,TI,v,ss.length,L,rfl,hI.same ah,hT,I _ _ (s8 _ _ R),λJ9 s9=>?_⟩;apply vI (by decide) ?_;show qgH ?_;ext;rw[show decide (((oft TI v L:Nat):Int) % 2=1)=decide (oft TI v L % 2=1) from yY.mpr (by lk),qba hv];have nl:=qcb (n:=ss.length) (TI:=TI) (cl:=cl) (s:=st) (c:=cl st);show qE (λh=>?_) (λh=>?_)
      .ext;show⟨by rw[ya];show qg (qak (by lk)),I.trans s9,?_⟩;rw[yH h];show _=List.map iv _;rw[yu];rfl
      .show⟨I.trans s9,?_⟩;rw[yE h,Yb]
     .obtain⟨I,rfl⟩:=d;rw[qY (nr TI cl ss.length st (cl st)),yD];have nl:=qcb (n:=ss.length) (TI:=TI) (cl:=cl) (s:=st) (c:=cl st);have fl:=yy (λv=>decide (oft TI v L % 2=1)) (nr TI cl ss.length st (cl st));show⟨by rw[ya];show yN (qg (by lk)),λr p=>?_⟩;have s9:=qw (ab.trans I) (o:=.lst (ivs ((nr TI cl ss.length st (cl st)).filter λv=>decide (oft TI v L % 2=1)))) p;have e9:upd J r (.lst (ivs ((nr TI cl ss.length st (cl st)).filter λv=>decide (oft TI v L % 2=1)))) r=some (.lst (ivs ((nr TI cl ss.length st (cl st)).filter λv=>decide (oft TI v L % 2=1)))):=qc;generalize upd J r (.lst (ivs ((nr TI cl ss.length st (cl st)).filter λv=>decide (oft TI v L % 2=1))))=J9 at s9 e9;apply⟨wqqm,λz2 aa=>?_⟩;have sA:=qw s9 (o:=.lst (ivs [st])) aa;have ac:=qw (Sr J9) (o:=.lst (ivs [st])) aa _ _ e9;have ad:upd J9 z2 (.lst (ivs [st])) z2=some (.lst (ivs [st])):=qc
      have key:Q (.bl (decide (((nr TI cl ss.length st (cl st)).filter λv=>decide (oft TI v L % 2=1))=[st]))) (upd J9 z2 (.lst (ivs [st]))):=by
       show q _ _ sA ?_;rw[yC];have X:st∈nr TI cl ss.length st (cl st):=nr_mem.mpr ⟨hs,.refl,rfl⟩;constructor
       .intro h;show⟨nd,Y,λu t=>?_⟩;have:u∈((nr TI cl ss.length st (cl st)).filter λv=>decide (oft TI v L % 2=1))↔u=st:=by rw[h,yw]
        rw[<- this,yq,yC];show⟨λz=>⟨t,z⟩,λz=>z.2⟩
       .intro h;show qa9 (· < ·) (λa=>Yp a) (λa b h k=>Kg h k) _ _ (nr_inc.filter _) (by simp) λu=>?_;rw[yq,yC,yw];constructor
        .rintro ⟨h1,h2⟩;show(h.2.2 u h1).mp h2
        .rintro rfl;show⟨X,(h.2.2 u X).mpr rfl⟩
      show vEqIs ac ad key
theorem uz:FnScope wqK wqq (qf ze):=fS
def qip(TI:List (Nat×Nat)):Prop:=∃ cl:Nat->Bool,∀ a b,adjI TI a b->cl b=!cl a
theorem two_glue{TI:List (Nat×Nat)}(j:TIok n TI)(h:∀ s,∃ c:Nat->Bool,s<n->∀ a b,RI TI s a->adjI TI a b->c b=!c a):qip TI:=by
 obtain⟨c,hc⟩:=Classical.axiomOfChoice h;obtain⟨d,f⟩:∃ d:Nat->Option Nat,d=λv=>(List.range n).find? λu=>@decide (RI TI u v) (Classical.propDecidable _):=⟨_,rfl⟩;show⟨λv=>match d v with | some u=>c u v | none=>false,λa b k=>?_⟩
 have e:d b=d a:=by
  rw[f];show List.find? _ _=List.find? _ _
  congr 1
  funext u;show yT.mpr ((@decide_eq_true_iff _ (Classical.propDecidable _)).trans (Iff.trans ⟨λz=>z.on k.symm,λz=>z.on k⟩ (@decide_eq_true_iff _ (Classical.propDecidable _)).symm))
 show(match d b with | some u=>c u b | none=>false)=!(match d a with | some u=>c u a | none=>false);rw[e]
 cases g:d a with
 | none =>
  rw[f] at g;have:=List.find?_eq_none.mp g a (Yd.mpr (j.adj k).1);show absurd (@decide_eq_true _ (Classical.propDecidable _) RI.refl) this
 | some u =>
  rw[f] at g;have h1:=Yd.mp (List.mem_of_find?_eq_some g);have i:=@yl _ (Classical.propDecidable _) (List.find?_some (p:=λu=>@decide (RI TI u a) (Classical.propDecidable _)) g);show hc u h1 a b i k
inductive spTw(vs:List V)(H:Hp)(Q:VK)(E:XK):Prop|mk (n l:Addr) (ss:LS) (ts:LI) (TI:List (Nat×Nat)) (_:vs=[.ref n,.ref l]) (_:H n=some (.lst (ss.map V.str))) (_:IPL H l ts TI) (_:TIok ss.length TI) (_:ss.length<=14) (_:∀(b:Bool) (H':Hp),L2.Same H H'->(b=true↔qip TI)->Q (.bl b) H')
theorem ok_tw(F:Fun K "_law_two_sided" "_law_two_sided" ze f fd)(T:Txt K mg cc cw)(uD:wqqh 2 "_law_sides" wqh spSiI):wqqj 3 f fd wqq spTw:=by
 show F.ok uz λ_ _ _ s H vs Q E O h=>?_
 .obtain⟨n,l,ss,ts,TI,rfl,hn,Y,u,aa,q⟩:=h;have A:=jw O;show⟨_,(qd (jq yX rfl (jz rfl T.b_range (qa (qk (j8 (K:=K) rfl) rfl T.b_len Yv (qa (pv 0) qb)) qb)) (qp (i:=2) uz.nd rfl (yG rfl))
 (qd (qr (i:=3) uz.nd rfl (xK rfl) (qm uD (hmR O) qv (qa (pv 1) (qa (pv 2) qb))))
 (qe (qG (qj (zT (K:=K) rfl A) (qK (sc:=qf ze) (XN:=wqK) ["_law_tie","_law_side"] 1 [3] rfl rfl rfl (by room) rfl (by room)
  (qL (K:=K) rfl (pv 1)) (λ_ _ _ _=>(qp (i:=0) (show(["_law_tie","_law_side"]:LS).Nodup by room) rfl (yG rfl))) qF
  (λ_ _ _ _=>(qJ (PW.pt (qb8 (qj (qaO (K:=K) rfl A) (qA (qB (K:=K) rfl A) (pv 0) qh (λ_ _=>rfl)) (pv 1) (by with_unfolding_all rfl)) (qbj (qj (jo (K:=K) rfl A) (qA (qB (K:=K) rfl A) (pv 1) (qA (qB (K:=K) rfl A) (pv 0) qh (λ_ _=>rfl)) (λ_ _=>rfl)) (qA (qB (K:=K) rfl A) (pv 1) (qA (qB (K:=K) rfl A) (pv 0) qh (λ_ _=>rfl)) (λ_ _=>rfl)) (qu _)))))))
  (λ_ _ _ _=>(pv 0))) (qS qb) (qu _)) (qe (qi jy)) qt))))
 (qe (qi jy))),?_⟩
  apply zK hn ?_;apply⟨(ss.length:Int),by rw[ya],by lk,by lk,?_⟩;rw[Ye];show jI (lo:=0) (n:=ss.length) (λi σ J=>L2.Same H J/\(∃ y2 y3,σ=[some (.ref n),some (.ref l),y2,y3])/\∀ s,s<i->∃ c:Nat->Bool,∀ a b,RI TI s a->adjI TI a b->c b=!c a) ⟨L2.Same.refl H,⟨_,_,rfl⟩,λs Z=>by lk⟩ (λi σ J hi g=>?_) fun σ J g=>?_
  .obtain⟨s1,⟨y2,y3,rfl⟩,C⟩:=g;rw[xN];apply⟨l,ts,TI,i,ss.length,rfl,Y.same s1,u,aa,hi,λd vis cl H2 s2 ae hd M af hv=>?_⟩;have U:=s1.trans s2;have B:=Y.same U;apply .inl ⟨⟨_,.of B.1⟩,qx (xs:=ts.map V.ref) (λk ys J=>J=H2/\∃ us:LI,ys=us.map V.ref/\us.length<=k/\(us=[]↔∀ p∈TI.take k,p.1∈vis->cl p.1≠cl p.2)) ⟨rfl,[],rfl,yi _,λ_ p g=>by simp at g,λ_=>rfl⟩ (λk ys J _ g=>by rw[g.1];show .of B.1) (λk x ys J hx g=>?_) λys J g=>?_⟩
   .obtain⟨rfl,us,rfl,ul,m⟩:=g;rw[ye] at hx;obtain⟨t,ht,rfl⟩:=yo.mp hx;have hk:k<TI.length:=by rw[<- Y.2.len];show(yc.mp ht).1
    obtain⟨p,g⟩:∃ p,TI[k]?=some p:=⟨_,yb hk⟩;have G:=B.2.at_ k t p ht g;have N:=yf g;have S:TI.take (k+1)=TI.take k++[p]:=by rw[yI,g];rfl
    have few:=u.few
    have r:∀ ok:Prop,(ok↔(p.1∈vis->cl p.1≠cl p.2))->((us=[]/\ok)↔∀ q∈TI.take (k+1),q.1∈vis->cl q.1≠cl q.2):=λok e=>by
     rw[S,m,e];show⟨λz q D=>(yP.mp D).elim (z.1 q) λk=>by rw[yw.mp k];show z.2,λz=>⟨λq D=>z q (YB _ D),z p (by simp)⟩⟩
    apply .inl (qbU G (v:=iv p.1) rfl ?_);apply .inr (.inl ⟨d,_,rfl,DGet.k (k:=Sum.inl (p.1:Int)) hd,?_⟩);rw[yE (by decide),qcc];ext
    have get:∀{a},a∈vis->DGet J d (iv a) (some (iv (if cl a=cl i then 0 else 1))):=λ{a} ha=>by
     have:=DGet.k (k:=Sum.inl (a:Int)) hd;rw[qcc,yH ha] at this;show this
    by_cases j:p.1∈vis
    .rw [yH j];show jv ?_;have D:p.2∈vis:=(hv p.2).mpr ⟨(u.ok p N).2,((hv p.1).mp j).2.on (.inl N)⟩;apply .inl (qbU G (v:=iv p.1) rfl ?_);apply .inr ⟨d,_,rfl,get j,?_⟩;apply .inl (qbU G (v:=iv p.2) rfl ?_);apply .inr ⟨d,_,rfl,get D,?_⟩;show .inl (.inl (.inl ⟨rfl,rfl,?_⟩));rw[zl];rw[show decide (((if cl p.1=cl i then 0 else 1:Nat):Int)=((if cl p.2=cl i then 0 else 1:Nat):Int))=decide (cl p.1=cl p.2) by cases cl p.1<;>cases cl p.2<;>cases cl i<;>rfl];apply qE (λh=>?_) (λh=>?_)
     .ext;have h:=yl h;show⟨by rw[ya];show qg (by lk),rfl,us++[t],by rw[yu];rfl,by simp;lk,⟨λz=>by simp at z,λz=>absurd h (z p (by rw[S];simp) j)⟩⟩
     .have h:cl p.1≠cl p.2:=λz=>h (yx z);show⟨rfl,us,rfl,by lk,(by rw[<- r True ⟨λ_ _=>h,λ_=>trivial⟩];simp)⟩
    .rw [yE j];show yr ?_;show yr ?_;show⟨rfl,us,rfl,by lk,(by rw[<- r True ⟨λ_ k=>absurd k j,λ_=>trivial⟩];simp)⟩
   .obtain⟨rfl,us,rfl,ul,m⟩:=g;rw[show(ts.map V.ref).length=TI.length by rw[ya,Y.2.len]] at ul m;rw[yD] at m;have few:=u.few;show⟨by rw[ya];show yN (qg (by lk)),λr1 ab=>?_⟩;have s3:=qw U (o:=.lst (us.map V.ref)) ab;have W:upd J r1 (.lst (us.map V.ref)) r1=some (.lst (us.map V.ref)):=qc;generalize upd J r1 (.lst (us.map V.ref))=J3 at s3 W;apply⟨wqql,λr2 R=>?_⟩;have s4:=qw s3 (o:=.lst []) R;have I:=qw (Sr J3) (o:=.lst []) R _ _ W;have X:upd J3 r2 (.lst []) r2=some (.lst []):=qc;generalize upd J3 r2 (.lst [])=J4 at s4 I X;show qe7 I X ?_;ext;by_cases he:us=[]
    .subst he;show yr ?_;show⟨s4,⟨_,_,rfl⟩,λs Z=>?_⟩;by_cases h:s<i
     .show C s h
     .obtain rfl:s=i:=by lk
      show⟨cl,λa b O k=>?_⟩;have y:=m.mp rfl;have ac:=(hv a).mpr ⟨(u.adj k).1,O⟩;have ad:=(hv b).mpr ⟨(u.adj k).2.1,O.on k⟩;have ne:cl a≠cl b:=k.elim (λz=>y _ z ac) λz=>(y _ z ad).symm;cases h1:cl a<;>cases L:cl b<;>rw[h1,L] at ne<;>first | rfl | show absurd rfl ne
    .show qE (λ_=>?_) λh=>absurd (show(!(us.map V.ref).isEmpty)=true by cases us with | nil=>show absurd rfl he | cons=>rfl) h;apply q false _ s4 ⟨(λz=>by cases z),λ⟨col,hc⟩=>absurd (m.mpr λp g j=>?_) he⟩;have D:p.2∈vis:=(hv p.2).mpr ⟨(u.ok p g).2,((hv p.1).mp j).2.on (.inl g)⟩;have h1:=M col hc p.1 j;have L:=M col hc p.2 D;have h3:=hc p.1 p.2 (.inl g);intro z;rw[z] at h1;rw[h3] at L;cases W:cl p.2<;>cases X:cl i<;>cases e3:col p.1<;>cases e4:col i<;>rw[W,X,e3,e4] at h1 L<;>simp at h1 L
  .obtain⟨s1,⟨y2,y3,rfl⟩,C⟩:=g;ext
   show q true J s1 ⟨λ_=>two_glue u λs=>by
    by_cases Z:s<ss.length
    .obtain⟨c,hc⟩:=C s Z;show⟨c,λ_=>hc⟩
    .show⟨λ_=>false,λz=>absurd z Z⟩,λ_=>rfl⟩
theorem u9:FnScope ["web","start","near","numbers","free","bound"] wh (qf qab):=fS
theorem vf:FnScope wh wh (qf qaI):=fS
theorem Ur:FnScope ["web","start","numbers","told","road"] wq4 (qf qbb):=fS
inductive spBad(cc:Nat->Addr)(cw:Addr)(vs:List V)(H:Hp)(u2_:VK)(E:XK):Prop|mk (p:Addr) (k:Nat) (x:Addr) (ss:LS) (ns:LN) (v:V) (_:vs=[.ref x,v]) (_:WebAt cw H x ss ns) (_:Th p H k v) (_:qaV ss v=false) (_:Rz cc H E (0,v))
def RfE(cc:Nat->Addr)(cw:Addr)(H:Hp)(x:Addr)(v:V)(E:XK):Prop:=
 (∃(p:Addr) (k:Nat) (ss:LS) (ns:LN),WebAt cw H x ss ns/\Th p H k v/\qaV ss v=false/\Rz cc H E (0,v)) \/
 ∃(ss:LS) (ns:LN) (tps:LP) (z:Str) (i:Nat),v=.str z/\ss[i]?=some z/\Wt cw H x ss ns tps/\qdn tps/\OddE cc H tps ss E
theorem RfE.web{v:V}(h:RfE cc cw H x v E):∃ ss ns,WebAt cw H x ss ns:=by
 rcases h with⟨_,_,ss,ns,h,_⟩ | ⟨ss,ns,_,_,_,_,_,h,_⟩
 .show⟨ss,ns,h⟩
 .show⟨ss,ns,h.web⟩
inductive spRf(cc:Nat->Addr)(cw:Addr)(vs:List V)(H:Hp)(u2_:VK)(E:XK):Prop|mk (x:Addr) (v:V) (_:vs=[.ref x,v]) (_:RfE cc cw H x v E)
inductive spRf3(cc:Nat->Addr)(cw:Addr)(vs:List V)(H:Hp)(u2_:VK)(E:XK):Prop|mk (x:Addr) (v u:V) (_:vs=[.ref x,v,u]) (_:RfE cc cw H x v E)
theorem ok_numB(F:Fun K "number_of" "Web.number_of" jL f fd)(T:Txt K mg cc cw)(e:wqqi 3 cw "has_place" wqv (spHasT cw))
  (m:XMakeOk P w K mg base 2 (cc 0) "NoPlace" wqZ (spX (cc 0) (qec 0))):FnOk P w K mg base (CX1 P w) 4 f fd wqd (spBad cc cw):=by
 show F.ok1 uL (λvs H Q E h=>?_) λ_ _ _ _ H vs Q E b h=>?_
 .cases h;subst_vars;rfl
 .obtain⟨p,k,x,ss,ns,v,rfl,c,hv,a,j⟩:=h;have g:=jw b;obtain⟨dx,d,ol,n,i,o,r,q,hw⟩:=id c;show⟨_,(qd (qG (qP (qD (qR e (hmR b) (pv 0) (qa (pv 1) qb)))) (qe (qei (K:=K) rfl qZ (qhx m (hmR b) (qa (pv 1) qb)))) qt)
 (qe (qi (qA (qB (K:=K) rfl g) (qV (K:=K) rfl (pv 0) rfl) (pv 1) (λ_ _=>rfl))))),?_⟩
  apply⟨x,dx,_,rfl,i,zh (by room),?_⟩;apply⟨p,k,x,ss,ns,v,rfl,c,hv,λH1 l=>?_⟩;rw[a];apply jv ?_;apply qb4 (T.xat 0 (by decide)) (j.later l)
def qhp(cc:Nat->Addr)(cw:Addr):Sp:=λvs H Q E=>spNum cw vs H Q E\/spBad cc cw vs H Q E
theorem ok_nSB(F:Fun K "near_side" "near_side" zm f fd)(T:Txt K mg cc cw)(g:MethOk P w K mg base (CX1 P w) 4 cw "number_of" wqd (qhp cc cw))(o:DefOk P w K mg base (CX1 P w) 9 "sides_of" wqqd (spSdO cc cw)):FnOk P w K mg base (CX1 P w) 10 f fd wh (spRf cc cw):=by
 show F.ok1 K9 (λvs H Q E h=>?_) λ_ _ _ _ H vs Q E b h=>?_
 .cases h;subst_vars;rfl
 .obtain⟨x,v,rfl,h⟩:=h;have q:=jw b;obtain⟨_,_,dx,d,ol,n,m,_⟩:=h.web;show⟨_,(qd (qN (qci g (hmR b) qZ (pv 0) (qa (pv 1) qb)))
 (qd (qr (i:=2) K9.nd rfl (yG rfl) (jc o (hmR b) qZ (qa (pv 0) qb)))
 jS)),?_⟩
  apply⟨x,dx,_,rfl,m,zh (by room),?_⟩;ext;rcases h with⟨p,k,ss,ns,j,hv,a,c⟩ | ⟨ss,ns,tps,z,i,rfl,l,W,a,c⟩
  .show .inr ⟨p,k,x,ss,ns,v,rfl,j,hv,a,c⟩
  .show .inl ⟨x,ss,ns,z,i,rfl,W.web,l,λH1 e=>?_⟩;apply⟨x,ss,ns,tps,rfl,W.same e,a,c.later e⟩
theorem ok_fSB(F:Fun K "far_side" "far_side" zH f fd)(T:Txt K mg cc cw)(b:DefOk P w K mg base (CX1 P w) 10 "near_side" wh (spRf cc cw)):FnOk P w K mg base (CX1 P w) 11 f fd wh (spRf cc cw):=by
 show F.ok1 uB (λvs H Q E h=>?_) λ_ _ _ _ H vs Q E a h=>?_
 .cases h;subst_vars;rfl
 .obtain⟨x,v,rfl,h⟩:=h;have c:=jw a;show⟨_,(qd (qr (i:=2) uB.nd rfl (xK rfl) (jc b (hmR a) qZ (qa (pv 0) (qa (pv 1) qb))))
 jS),?_⟩
  apply⟨x,v,rfl,h⟩
theorem ok_esB(F:Fun K "even_set" "even_set" zn f fd)(T:Txt K mg cc cw)(b:DefOk P w K mg base (CX1 P w) 10 "near_side" wh (spRf cc cw)):FnOk P w K mg base (CX1 P w) 11 f fd wh (spRf cc cw):=by
 show F.ok1 KW (λvs H Q E h=>?_) λ_ _ _ _ H vs Q E a h=>?_
 .cases h;subst_vars;rfl
 .obtain⟨x,v,rfl,h⟩:=h;have c:=jw a;show⟨_,(qd (qr (i:=2) KW.nd rfl (yG rfl) (jc b (hmR a) qZ (qa (pv 0) (qa (pv 1) qb))))
 jS),?_⟩
  apply⟨x,v,rfl,h⟩
theorem ok_tdB(F:Fun K "told_set" "told_set" qas f fd)(T:Txt K mg cc cw)(b:DefOk P w K mg base (CX1 P w) 11 "even_set" wh (spRf cc cw)):FnOk P w K mg base (CX1 P w) 12 f fd wh (spRf cc cw):=by
 show F.ok1 uh (λvs H Q E h=>?_) λ_ _ _ _ H vs Q E a h=>?_
 .cases h;subst_vars;rfl
 .obtain⟨x,v,rfl,h⟩:=h;have c:=jw a;show⟨_,(qd (qr (i:=2) uh.nd rfl (yG rfl) (jc b (hmR a) qZ (qa (pv 0) (qa (pv 1) qb))))
 jS),?_⟩
  apply⟨x,v,rfl,h⟩
theorem ok_ieB(F:Fun K "is_even" "is_even" qaW f fd)(T:Txt K mg cc cw)(b:DefOk P w K mg base (CX1 P w) 10 "near_side" wh (spRf cc cw)):FnOk P w K mg base (CX1 P w) 11 f fd wqn (spRf3 cc cw):=by
 show F.ok1 uJ (λvs H Q E h=>?_) λ_ _ _ _ H vs Q E a h=>?_
 .cases h;subst_vars;rfl
 .obtain⟨x,v,u,rfl,h⟩:=h;have c:=jw a;show⟨_,(qd (qr (i:=3) uJ.nd rfl (yG rfl) (jc b (hmR a) qZ (qa (pv 0) (qa (pv 1) qb))))
 jS),?_⟩
  apply⟨x,v,rfl,h⟩
theorem ok_ioB(F:Fun K "is_odd" "is_odd" qbP f fd)(T:Txt K mg cc cw)(b:DefOk P w K mg base (CX1 P w) 11 "far_side" wh (spRf cc cw)):FnOk P w K mg base (CX1 P w) 12 f fd wqn (spRf3 cc cw):=by
 show F.ok1 uS (λvs H Q E h=>?_) λ_ _ _ _ H vs Q E a h=>?_
 .cases h;subst_vars;rfl
 .obtain⟨x,v,u,rfl,h⟩:=h;have c:=jw a;show⟨_,(qd (qr (i:=3) uS.nd rfl (yG rfl) (jc b (hmR a) qZ (qa (pv 0) (qa (pv 1) qb))))
 jS),?_⟩
  apply⟨x,v,rfl,h⟩
theorem ok_feB(F:Fun K "free_evens" "free_evens" qab f fd)(T:Txt K mg cc cw)(b:DefOk P w K mg base (CX1 P w) 10 "near_side" wh (spRf cc cw)):FnOk P w K mg base (CX1 P w) 11 f fd wh (spRf cc cw):=by
 show F.ok1 u9 (λvs H Q E h=>?_) λ_ _ _ _ H vs Q E a h=>?_
 .cases h;subst_vars;rfl
 .obtain⟨x,v,rfl,h⟩:=h;have c:=jw a;show⟨_,(qd (qr (i:=2) u9.nd rfl (xK rfl) (jc b (hmR a) qZ (qa (pv 0) (qa (pv 1) qb))))
 jS),?_⟩
  apply⟨x,v,rfl,h⟩
theorem ok_gtB(F:Fun K "good_ties" "good_ties" qaI f fd)(T:Txt K mg cc cw)(b:DefOk P w K mg base (CX1 P w) 10 "near_side" wh (spRf cc cw)):FnOk P w K mg base (CX1 P w) 12 f fd wh (spRf cc cw):=by
 show F.ok1 vf (λvs H Q E h=>?_) λ_ _ _ _ H vs Q E a h=>?_
 .cases h;subst_vars;rfl
 .obtain⟨x,v,rfl,h⟩:=h;have c:=jw a;show⟨_,(qd (qN (jc b (hmR a) qZ (qa (pv 0) (qa (pv 1) qb))))
 jS),?_⟩
  apply⟨x,v,rfl,h⟩
theorem ok_rlB(F:Fun K "road_led" "road_led" qbb f fd)(T:Txt K mg cc cw)(b:DefOk P w K mg base (CX1 P w) 12 "told_set" wh (spRf cc cw)):FnOk P w K mg base (CX1 P w) 13 f fd wq4 (spRf3 cc cw):=by
 show F.ok1 Ur (λvs H Q E h=>?_) λ_ _ _ _ H vs Q E a h=>?_
 .cases h;subst_vars;rfl
 .obtain⟨x,v,u,rfl,h⟩:=h;have c:=jw a;show⟨_,(qd (qr (i:=3) Ur.nd rfl (yG rfl) (jc b (hmR a) qZ (qa (pv 0) (qa (pv 1) qb))))
 jS),?_⟩
  apply⟨x,v,rfl,h⟩
theorem vV:FnScope wqp wqp (qf qct):=fS
theorem RfE.later{v:V}(h:RfE cc cw H x v E)(s:L2.Same H H1):RfE cc cw H1 x v E:=by
 rcases h with⟨p,k,ss,ns,h1,a,b,c⟩ | ⟨ss,ns,tps,z,i,h1,a,b,c,d⟩
 .show .inl ⟨p,k,ss,ns,h1.same s,a.same s,b,c.later s⟩
 .show .inr ⟨ss,ns,tps,z,i,h1,a,b.same s,c,d.later s⟩
inductive spDoor(cc:Nat->Addr)(cw:Addr)(vs:List V)(H:Hp)(u2_:VK)(E:XK):Prop|mk (x:Addr) (v:V) (m:Nat) (_:vs=[.ref x,v,iv m]) (_:m<7) (_:RfE cc cw H x v E)
theorem ok_door(F:Fun K "_law_door" "_law_door" qct f fd)(T:Txt K mg cc cw)(B:DefOk P w K mg base (CX1 P w) 12 "told_set" wh (spRf cc cw))(n:DefOk P w K mg base (CX1 P w) 11 "is_even" wqn (spRf3 cc cw))(p:DefOk P w K mg base (CX1 P w) 12 "is_odd" wqn (spRf3 cc cw))(D:DefOk P w K mg base (CX1 P w) 11 "free_evens" wh (spRf cc cw))(A:DefOk P w K mg base (CX1 P w) 12 "good_ties" wh (spRf cc cw))(C:DefOk P w K mg base (CX1 P w) 13 "road_led" wq4 (spRf3 cc cw)):FnOk P w K mg base (CX1 P w) 14 f fd wqp (spDoor cc cw):=by
 show F.ok1 vV (λvs H Q E h=>?_) λ_ _ _ _ H vs Q E d h=>?_
 .cases h;subst_vars;rfl
 .obtain⟨x,v,m,rfl,G,h⟩:=h;have e:=jw d;show⟨_,(qd (qG (qj (jo (K:=K) rfl e) (pv 2) qh (qu _)) (qe (qi (jc B (hmR d) qZ (qa (pv 0) (qa (pv 1) qb))))) qt)
 (qd (qG (qj (jo (K:=K) rfl e) (pv 2) qh (qu _)) (qe (qi (jc n (hmR d) qZ (qa (pv 0) (qa (pv 1) (qa (qS qb) qb)))))) qt)
 (qd (qG (qj (jo (K:=K) rfl e) (pv 2) qh (qu _)) (qe (qi (jc p (hmR d) qZ (qa (pv 0) (qa (pv 1) (qa qaP qb)))))) qt)
 (qd (qG (qj (jo (K:=K) rfl e) (pv 2) qh (qu _)) (qe (qi (jc D (hmR d) qZ (qa (pv 0) (qa (pv 1) qb))))) qt)
 (qd (qG (qj (jo (K:=K) rfl e) (pv 2) qh (qu _)) (qe (qi (jc A (hmR d) qZ (qa (pv 0) (qa (pv 1) qb))))) qt)
 (qe (qi (jc C (hmR d) qZ (qa (pv 0) (qa (pv 1) (qa (qA (qB (K:=K) rfl e) (qS (qa (qS (qa qh qb)) (qa (qS qb) qb))) (qM qcu (pv 2) qh) (λ_ _=>rfl)) qb))))))))))),?_⟩
  apply qaT ?_;apply qE (λ_=>?_) λq=>?_
  .ext;show⟨x,v,rfl,h⟩
  apply qaT ?_;apply qE (λ_=>?_) λh1=>?_
  .ext;show⟨wqql,λa i=>?_⟩;show⟨x,v,_,rfl,h.later (qw (Sr H) i)⟩
  apply qaT ?_;apply qE (λ_=>?_) λr=>?_
  .ext;show⟨x,v,_,rfl,h⟩
  apply qaT ?_;apply qE (λ_=>?_) λs=>?_
  .ext;show⟨x,v,rfl,h⟩
  apply qaT ?_;apply qE (λ_=>?_) λt=>?_
  .ext;show⟨x,v,rfl,h⟩
  have j:m=5\/m=6:=by
   have g:∀ k:Nat,¬ decide ((m:Int)=(k:Int))=true->m≠k:=λk h z=>h (yx (by lk));have:=g 0 q;have:=g 1 h1;have:=g 2 r;have:=g 3 s;have:=g 4 t;lk
  apply⟨wqqm,λa i=>?_⟩;have u:=qw (Sr H) (o:=.lst [.int 0]) i;apply⟨wqql,λb hb=>?_⟩;have y:=qw u (o:=.lst []) hb;apply⟨wqqn,λc hc=>?_⟩;have l:=qw y (o:=.lst [.ref a,.ref b]) hc;ext;rcases j with rfl | rfl
  .show .inl (qch qc (v:=.ref a) rfl ⟨x,v,_,rfl,h.later l⟩)
  .show .inl (qch qc (v:=.ref b) rfl ⟨x,v,_,rfl,h.later l⟩)
theorem Ug:FnScope wqr wqw (qf qbc):=fS
theorem atI_lastV{c:V}(h:xs≠[])(e:xs[xs.length-1]?=some c):atI xs (-1)=some c:=by
 have:0<xs.length:=XR.mpr h;unfold atI
 have a:ixN xs.length (-1)=some (xs.length-1):=by
  unfold ixN;rw[yE (by decide),yH (by lk)]
  congr 1
  lk
 rw[a];show e
theorem ring_num{ring:LS}{TI:List (Nat×Nat)}(p:ss.Nodup)(m:TIok ss.length TI)(h:OddR (tA (TI.map (nmP ss))) ss ring):∃ R:LN,ring.map V.str=qH ss R/\R.Nodup/\(∀ u∈R,u<ss.length)/\R.length % 2=1/\3<=R.length/\∀(i a:Nat),R[i]?=some a->∃ b,atI (ivs R) ((i:Int)-1)=some (iv b)/\adjI TI a b:=by
 have v:=h.three;show⟨ring.map ss.idxOf,?_,?_,λu t=>?_,by rw[ya];show h.odd,by rw[ya];show h.three,λi a n=>?_⟩
 .unfold qH
  have e:(ring.map ss.idxOf).map (tn ss)=ring:=by
   rw[YE];show(xq (g:=id) λx d=>?_).trans (Ko ring);have:=qai (y7 (h.inn x d));rw[yb (y7 (h.inn x d)),Yu] at this;show(yn this).symm
  rw[e]
 .show YM.mpr ((YO.mpr λi j l o s e=>?_));have h1:=Yu (y7 (h.inn _ (Xo l)));have r:=Yu (y7 (h.inn _ (Xo o)))
  have:ring[i]=ring[j]:=by
   rw[<- h1,<- r]
   congr 1
  have:=jf h.nd (yb l) (by rw[this];show yb o);lk
 .obtain⟨x,d,rfl⟩:=yJ.mp t;show y7 (h.inn x d)
 .rw [ye] at n;obtain⟨x,f,rfl⟩:=yo.mp n;have l:=(yc.mp f).1;by_cases q:i=0
  .subst q;have c:ring[ring.length-1]?=some ring[ring.length-1]:=yb (by lk);show⟨ss.idxOf ring[ring.length-1],?_,qe8 p m (h.close x _ f (by rw[Yy];show c))⟩;show atI_lastV (λe=>?_) (by rw[qY,ya,ye,ye,c];rfl);have:=congrArg List.length e;rw[qY,ya,xr] at this;lk
  .have c:ring[i-1]?=some ring[i-1]:=yb (by lk);show⟨ss.idxOf ring[i-1],?_,(qe8 p m (h.tie (i-1) _ x c (by rw[show i-1+1=i by lk];show f))).symm⟩;rw[show(i:Int)-1=((i-1:Nat):Int) by lk];show j7 (by rw[ye,ye,c];rfl)
inductive spRi(vs:List V)(H:Hp)(Q:VK)(E:XK):Prop|mk (n l:Addr) (ss:LS) (ts:LI) (TI:List (Nat×Nat)) (v:V) (b:Bool) (_:vs=[.ref n,.ref l,v]) (_:H n=some (.lst (ss.map V.str))) (_:ss.Nodup) (_:IPL H l ts TI) (_:TIok ss.length TI) (_:ss.length<=14) (_:((v=.non/\b=false)\/∃ r ring,v=.ref r/\H r=some (.lst (ring.map V.str))/\OddR (tA (TI.map (nmP ss))) ss ring/\b=true)) (_:∀ H',L2.Same H H'->Q (.bl b) H')
theorem ok_ri(F:Fun K "_law_ring" "_law_ring" qbc f fd)(T:Txt K mg cc cw)(KU:wqqh 1 "_law_beside" wqt spBeI):wqqj 2 f fd wqw spRi:=by
 show F.ok Ug λ_ _ _ _ H vs Q E hr h=>?_
 .obtain⟨n,l,ss,ts,TI,v,b,rfl,I,hn,hI,M,G,hv,q⟩:=h;have m:=jw hr;show⟨_,(qd (qG (PW.pt (zI (qP (qD (qk (zi (K:=K) rfl) rfl T.b_isinstance Yi (qa (pv 2) (qa (jh (v:=.ty "list") rfl T.b_list Xe rfl) qb))))) (zI (qj qdH (qk (j8 (K:=K) rfl) rfl T.b_len Yv (qa (pv 2) qb)) qh (qu _)) (za (qj (jo (K:=K) rfl m) (qM zJ (qk (j8 (K:=K) rfl) rfl T.b_len Yv (qa (pv 2) qb)) qh) qh (qu _)))))) (qe (qi jy)) qt)
 (qd (qG (PW.pt (zI (qP (qD (qk (qdW (K:=K) rfl rfl) rfl T.b_all kM (qa (qK (sc:=qf qbc) (XN:=wqr) wqf 1 [0] rfl rfl rfl (by room) rfl (by room)
  (qL (K:=K) rfl (pv 2)) (λ_ _ _ _=>(qp (i:=0) (show(wqf:LS).Nodup by room) rfl (yG rfl))) qF
  (λ_ _ _ _=>jl)
  (λ_ _ _ _=>(qal (qk (zi (K:=K) rfl) rfl T.b_isinstance Yi (qa (pv 0) (qa (jh (v:=.ty "str") rfl T.b_str boot_str rfl) qb))) (zU (qW (qaO (K:=K) rfl m) (pv 0) (pv 1) (by with_unfolding_all rfl)))))) qb)))) (za (qj (zT (K:=K) rfl m) (qk (k_lenT) rfl T.b_len Yv (qa (qX (k_setS (K:=K) rfl rfl) rfl T.b_set boot_set (qa (pv 2) qb)) qb)) (qk (j8 (K:=K) rfl) rfl T.b_len Yv (qa (pv 2) qb)) (qu _))))) (qe (qi jy)) qt)
 (qd (qay (sc:=qf qbc) (XN:=wqr) wqf 1 [0] rfl rfl rfl (by room) rfl (by room) (i:=3) Ug.nd rfl rfl
  (qL (K:=K) rfl (pv 2)) (λ_ _ _ _=>(qp (i:=0) (show(wqf:LS).Nodup by room) rfl (yG rfl))) qF
  (λ_ _ _ _=>jl)
  (λ_ _ _ _=>(qeb (K:=K) rfl yV Xp X6 (qem (K:=K) rfl) (pv 1) (qa (pv 0) qb))))
 (qd (jq yX rfl (jz rfl T.b_range (qa (qk (j8 (K:=K) rfl) rfl T.b_len Yv (qa (pv 3) qb)) qb)) (qp (i:=4) Ug.nd rfl (yG rfl))
 (qe (qG (qj (zc (K:=K) rfl m) (qA (qB (K:=K) rfl m) (pv 3) (qM qcu (pv 4) qh) (λ_ _=>rfl)) (qm KU (hmR hr) qv (qa (pv 1) (qa (qA (qB (K:=K) rfl m) (pv 3) (pv 4) (λ_ _=>rfl)) qb))) (by with_unfolding_all rfl)) (qe (qi jy)) qt)))
 (qe (qi jy)))))),?_⟩
  ext;rcases hv with⟨rfl,rfl⟩ | ⟨r,ring,rfl,d,L,rfl⟩
  .show qaB (.inl .non) rfl (jQ K "NoneType" (by simp) "list" (by simp)) ?_;apply jv ?_;show jv ?_;apply q _ (Sr H)
  .obtain⟨R,eR,nd,x,ab,h3,t⟩:=ring_num hn M L;have W:=L.nd;have hl:ring.length=R.length:=by have:=congrArg List.length eR;rwa[qI,ya] at this
   have aa:R.length<=14:=yj (qcM nd x) G;have e:=d;rw[eR] at e;show qaB (.inl (.lst d)) rfl (jQ K "list" (by simp) "list" (by simp)) ?_;apply yr ?_;apply zK e ?_;rw[qI];apply qE (λh=>by simp at h;lk) λ_=>?_;apply zK e ?_;rw[qI];apply⟨_,_,rfl,rfl,by show(0:Int)<2;decide,?_⟩;apply qaT ?_;rw[ym (show ¬ ((R.length:Int) % 2=0) by lk)];apply yr ?_;apply .inl ⟨⟨_,.of d⟩,qx (xs:=ring.map V.str) (λi ys J=>J=H/\ys=((ring.take i).map λ_=>V.bl true)) ⟨rfl,by simp⟩ (λi ys J _ c=>by rw[c.1];show .of d) (λi y ys J D c=>?_) λys J c=>?_⟩
   .obtain⟨rfl,rfl⟩:=c;rw[ye] at D;obtain⟨z,C,rfl⟩:=yo.mp D;have U:i<ring.length:=(yc.mp C).1;apply jv ?_;apply qaB (.inl (.str _)) rfl (jQ K "str" (by simp) "str" (by simp)) ?_;apply jv ?_;apply qbi I ?_;rw[yx (L.inn z (yf C))];show⟨by rw[ya,yM];show qg (by lk),rfl,?_⟩;rw[yI,C,yu];rfl
   .obtain⟨rfl,rfl⟩:=c;rw[show(ring.map V.str).length=ring.length from ya ..,yD];show⟨by rw[ya];show yN (qg (by lk)),λb hb=>?_⟩;have Z:=qw (Sr J) (o:=.lst (ring.map λ_=>V.bl true)) hb;have eb:upd J b (.lst (ring.map λ_=>V.bl true)) b=some (.lst (ring.map λ_=>V.bl true)):=qc;generalize upd J b (.lst (ring.map λ_=>V.bl true))=J2 at Z eb;apply⟨b,ring.map λ_=>true,rfl,SqL.of (by rw[YE];show eb),?_⟩;rw[show(ring.map λ_=>true).all id=true from Yr.mpr λz C=>by obtain⟨_,_,rfl⟩:=yJ.mp C;rfl];apply yr ?_;apply⟨r,ring,rfl,SqL.of (Z _ _ d),W,by lk,λg Y=>?_⟩;have p:=qw Z (o:=qhA g ring) Y;have e3:upd J2 g (qhA g ring) g=some (qhA g ring):=qc;generalize upd J2 g (qhA g ring)=J3 at p e3;apply⟨g,ring,rfl,e3,?_⟩;apply zK (p _ _ d) ?_;rw[ya];show qgK ?_;rw[yx rfl];apply yr ?_;ext;have A:=p _ _ e;show .inl ⟨⟨_,.of A⟩,qx (xs:=qH ss R) (λi ys J=>J=J3/\ys=ivs (R.take i)) ⟨rfl,by simp⟩ (λi ys J _ c=>by rw[c.1];show .of A) (λi y ys J D c=>?_) λys J c=>?_⟩
    .obtain⟨rfl,rfl⟩:=c;obtain⟨u,j,rfl⟩:=jR D;have B:=x u (yf j);have U:i<R.length:=(yc.mp j).1;apply jv ?_;apply⟨.inl ⟨rfl,_,.of (p _ _ I)⟩,?_⟩;apply⟨n,ss,tn ss u,rfl,rfl,SqL.of (p _ _ I),zO B,?_⟩;rw[zx hn B];show⟨by rw[qY,yM];show qg (by lk),rfl,?_⟩;rw[yI,j];show _=List.map iv _;rw[yu];rfl
    .obtain⟨rfl,rfl⟩:=c;rw[qI,yD];show⟨by rw[qY];show yN (qg (by lk)),λpl X=>?_⟩;have s4:=qw p (o:=.lst (ivs R)) X;have ep:upd J pl (.lst (ivs R)) pl=some (.lst (ivs R)):=qc;generalize upd J pl (.lst (ivs R))=J4 at s4 ep;apply zK ep ?_;rw[qY];apply⟨_,rfl,by lk,by lk,?_⟩;rw[Ye];show jI (lo:=0) (n:=R.length) (λi σ J=>L2.Same J4 J/\∃ y4,σ=[some (.ref n),some (.ref l),some (.ref r),some (.ref pl),y4]) ⟨L2.Same.refl J4,_,rfl⟩ (λi σ J hi c=>?_) fun σ J c=>?_
     .obtain⟨s,y4,rfl⟩:=c;rw[xN];obtain⟨a,ga⟩:∃ a,R[i]?=some a:=⟨_,yb hi⟩;obtain⟨b',N,O⟩:=t i a ga;have ix:atI (ivs R) (i:Int)=some (iv a):=j7 (by rw[ye,ga];rfl);apply .inl (qch (s _ _ ep) N ?_);apply .inl (qch (s _ _ ep) ix ?_);apply⟨l,ts,TI,a,ss.length,rfl,hI.same (s4.trans s),M,λbl J5 s5 _ S=>?_⟩;show qgI S ?_;rw[yx ((zP M).mpr O)];apply yr ?_;show⟨s.trans s5,_,rfl⟩
     .obtain⟨s,y4,rfl⟩:=c;apply q _ (s4.trans s)
theorem KQ:FnScope ["_law_web_here","_law_names_here","_law_ties","_law_start","_law_number","_law_found","e"] wqa (qf zf):=fS
theorem K6:FnScope ["_law_web_here","_law_thing","_law_number","_law_found","e"] wqU (qf qac):=fS
inductive spROd(cc:Nat->Addr)(cw:Addr)(vs:List V)(H:Hp)(Q:VK)(E:XK):Prop|mk (x n l:Addr) (ss:LS) (ns:LN) (ts:LI) (TI:List (Nat×Nat)) (s:Nat) (_:vs=[.ref x,.ref n,.ref l,.str (tn ss s)]) (_:Wt cw H x ss ns (TI.map (nmP ss))) (_:H n=some (.lst (ss.map V.str))) (_:IPL H l ts TI) (_:TIok ss.length TI) (_:s<ss.length) (_:qdn (TI.map (nmP ss))) (_:∀ H',L2.Same H H'->Q (.bl true) H')
def FlT(H:Hp)(v:V):Prop:=∀ a xs,v=.ref a->H a=some (.lst xs)\/H a=some (.tup xs)->∀ y∈xs,zS y=true
inductive spNp(cc:Nat->Addr)(cw:Addr)(vs:List V)(H:Hp)(Q:VK)(E:XK):Prop|mk (p x:Addr) (ss:LS) (ns:LN) (v:V) (_:vs=[.ref x,v]) (_:WebAt cw H x ss ns) (_:Th p H 1 v) (_:qaV ss v=false) (_:(∀ H',L2.Same H H'->FlT H' v)) (_:∀ H',L2.Same H H'->Q (.bl true) H')
theorem ok_rOd(F:Fun K "_law_refused_odd" "_law_refused_odd" zf f fd)(T:Txt K mg cc cw)(N:W.mroIn K (cc 3) (.ref (cc 3))=some true)(Z:DefOk P w K mg base (CX1 P w) 14 "_law_door" wqp (spDoor cc cw))(UB:wqqh 2 "_law_ring" wqw spRi):wqqj 15 f fd wqa (spROd cc cw):=by
 show F.ok KQ λ_ _ _ _ H vs Q E M h=>?_
 .obtain⟨x,n,l,ss,ns,ts,TI,st,rfl,y,hN,hI,hT,hs,I,q⟩:=h;have hu:=jw M;have hn:=y.wok.nd;have few:=y.wok.few;show⟨_,(qd (jq yX rfl (jz rfl T.b_range (qa qh qb)) (qp (i:=4) KQ.nd rfl (yG rfl))
 (qd (qr (i:=5) KQ.nd rfl (yG rfl) qaP)
 (qd (qfN rfl rfl rfl qt)
 (qe (qG (qP (qD (qm UB (hmR M) qv (qa (pv 1) (qa (pv 2) (qa (pv 5) qb)))))) (qe (qi jy)) qt)))))
 (qe (qi jy))),?_⟩
  apply⟨7,rfl,by decide,by decide,?_⟩;show jI (lo:=0) (n:=7) (λi σ J=>L2.Same H J/\∃ S U,σ=[some (.ref x),some (.ref n),some (.ref l),some (.str (tn ss st)),S,U,none]) ⟨L2.Same.refl H,_,_,rfl⟩ (λi σ J hi L=>?_) fun σ J L=>?_
  .obtain⟨s,S,U,rfl⟩:=L;rw[xN];apply⟨fun σ c A H'=>∃(r b:Addr) (ring:LS),c=.ref (cc 3)/\A=some b/\L2.Same J H'/\OddR (tA (TI.map (nmP ss))) ss ring/\H' r=some (.lst (ring.map V.str))/\H' b=some (.xd [(qec 3,.ref r)])/\σ=[some (.ref x),some (.ref n),some (.ref l),some (.str (tn ss st)),some (iv i),some .non,none],_,λpn xe qZ=>(qe (qN (jc Z (hmR M) qZ (qa (pv 0) (qa (pv 3) (qa (pv 4) qb)))))),?_,λa C aa ab H' hE m=>?_⟩
   .ext;show⟨x,_,i,rfl,hi,.inr ⟨ss,ns,_,_,st,rfl,qai hs,y.same s,I,λr b ring H' s' D _ B ey=>⟨r,b,ring,rfl,rfl,s',D,B,ey,rfl⟩⟩⟩
   .obtain⟨r,b,ring,hc,rfl,s2,D,B,Y,rfl⟩:=hE;cases hc;have O:=s.trans s2;show⟨_,(qgD (K:=K) rfl KQ.nd (i:=6) rfl rfl rfl T.m_Odd (qe (qG (PW.pt (qb8 (qD (qk (zi (K:=K) rfl) rfl T.b_isinstance Yi (qa (pv 6) (qa (jh (v:=.ty "ValueError") rfl T.b_ValueError zL rfl) qb)))) (qbj (qP (qD (qk (qdd (K:=K) rfl) rfl T.b_isinstance Yi (qa (pv 6) (qa (ji (qa (qbW (v:=.ref (cc 0)) rfl T.m_NoPlace rfl) (qa (qbW (v:=.ref (cc 1)) rfl T.m_NoTie rfl) qb))) qb)))))))) (qe (qr (i:=5) KQ.nd rfl (yG rfl) (qV (K:=K) rfl (pv 6) rfl))) qt)) (qhy (K:=K) rfl rfl T.m_OnceError (qe (qi jy)) qfM)),?_⟩;show⟨true,N,T.xat 3 (by decide),T.xat 3 (by decide),jv ?_⟩;have G:IsX H' a (cc 3) (some b):=.inr m;have tx:TyX K H' (.ref a) (.ref (cc 3)):=.inr ⟨a,cc 3,some b,rfl,rfl,G,T.xat 3 (by decide),λd z=>by cases z;show⟨_,Y⟩⟩;apply qaB tx rfl (T.kitV 3 (by decide)) ?_;show⟨_,rfl,jv ?_⟩;apply⟨wqqn,λu p=>?_⟩;have t:=qw O (o:=.tup [.ref (cc 0),.ref (cc 1)]) p;have R:=qw (Sr H') (o:=.tup [.ref (cc 0),.ref (cc 1)]) p;have X:upd H' u (.tup [.ref (cc 0),.ref (cc 1)]) u=some (.tup [.ref (cc 0),.ref (cc 1)]):=qc;have e:=R _ _ m;have g:=R _ _ Y;have j:=R _ _ B;generalize upd H' u (.tup [.ref (cc 0),.ref (cc 1)])=J2 at t X e g j;apply⟨_,u,_,.ref (cc 3),[.ref (cc 0),.ref (cc 1)],false,rfl,.inr ⟨a,cc 3,some b,rfl,rfl,.inr e,T.xat 3 (by decide),λd z=>by cases z;show⟨_,g⟩⟩,X,rfl,?_,?_⟩
    .have k1:=T.kit 3 0 (by decide) (by decide);have k2:=T.kit 3 1 (by decide) (by decide);simp only[W.kitAny,k1,k2];rfl
    apply jv ?_;apply .inr ⟨a,cc 3,b,_,.ref r,rfl,.inr e,T.xat 3 (by decide),T.na 3 (by decide),g,rfl,?_⟩;apply⟨n,l,ss,ts,TI,.ref r,true,rfl,t _ _ hN,hn,hI.same t,hT,few,.inr ⟨r,ring,rfl,j,D,rfl⟩,λJ3 s4=>?_⟩;apply yr ?_;show⟨t.trans s4,_,_,rfl⟩
  .obtain⟨s,S,U,rfl⟩:=L;apply q _ s
theorem qgm{xs:List Bool}(d:H a=some (.lst (xs.map V.bl)))(hb:H b=some (.lst (xs.map V.bl))):EqT K H 1 a b true:=by
 have z:=EqT.lst (K:=K) (H:=H) (n:=0) (e:=λ_=>true) (SqL.of d) (SqL.of hb) rfl λj x y h1 c=>by
  rw[h1] at c;cases c;obtain⟨v,_,rfl⟩:=yJ.mp (yf h1);have:=EqD.flat (K:=K) (H:=H) (n:=0) (x:=V.bl v) (y:=V.bl v) rfl rfl
  rwa[show(eqV (V.bl v) (V.bl v))=true by cases v<;>rfl] at this
 rwa[qbK] at z
theorem th1_eq{v:V}{Q:VK}(h:Th p H 1 v)(g:FlT H v)(q:Q (.bl true) H):qgF K v v H Q:=by
 have b:∀{y:V},zS y=true->EqD K H 0 y y true:=λ{y} f=>by
  have e:=EqD.flat (K:=K) (H:=H) (n:=0) f f;rw[qe2 f] at e;show e
 cases h with
 | flat f l=>show .inl (.inl (.inl ⟨f,f,by rw[yE (by decide),qe2 f];show q⟩))
 | lst e ne h l =>
  show .inl (.inl (.inr (.inl ⟨_,_,true,1,rfl,rfl,by decide,?_,q⟩)));have z:=EqT.lst (K:=K) (H:=H) (n:=0) (e:=λ_=>true) (SqL.of e) (SqL.of e) rfl λj x y h1 a=>by rw[h1] at a;cases a;show b (g _ _ rfl (.inl e) x (yf h1))
  rwa[qbK] at z
 | tup e ne h l =>
  show .inl (.inl (.inr (.inl ⟨_,_,true,1,rfl,rfl,by decide,?_,q⟩)));have z:=EqT.tup (K:=K) (H:=H) (n:=0) (e:=λ_=>true) (.of e) (.of e) λj x y h1 a=>by rw[h1] at a;cases a;show b (g _ _ rfl (.inr e) x (yf h1))
  rw[Nat.min_self,Y8,kr,qbK] at z;show z
 | dct e ne=>show .inl (.inl (.inr (.inr ⟨_,_,rfl,rfl,e,q⟩)))
theorem ok_np(F:Fun K "_law_no_place" "_law_no_place" qac f fd)(T:Txt K mg cc cw)(S:W.mroIn K (cc 0) (.ref (cc 0))=some true)(UA:DefOk P w K mg base (CX1 P w) 14 "_law_door" wqp (spDoor cc cw)):wqqj 15 f fd wqU (spNp cc cw):=by
 show F.ok K6 λ_ _ _ _ H vs Q E hr h=>?_
 .obtain⟨p,x,ss,ns,v,rfl,hW,hv,O,M,q⟩:=h;have hu:=jw hr;show⟨_,(qd (jq yX rfl (jz rfl T.b_range (qa qh qb)) (qp (i:=2) K6.nd rfl (yG rfl))
 (qd (qr (i:=3) K6.nd rfl (yG rfl) (qS qb))
 (qd (qfN rfl rfl rfl qt)
 (qe (qG (qj (zT (K:=K) rfl hu) (pv 3) (qS (qa jy qb)) (qu _)) (qe (qi jy)) qt)))))
 (qe (qi jy))),?_⟩
  apply⟨7,rfl,by decide,by decide,?_⟩;show jI (lo:=0) (n:=7) (λi σ J=>L2.Same H J/\∃ X Y,σ=[some (.ref x),some v,X,Y,none]) ⟨L2.Same.refl H,_,_,rfl⟩ (λi σ J hi R=>?_) fun σ J R=>?_
  .obtain⟨U,X,Y,rfl⟩:=R;rw[xN];apply⟨wqql,λe0 L=>?_⟩;have B:=qw U (o:=.lst []) L;generalize upd J e0 (.lst [])=J1 at B;apply⟨fun σ c I H'=>∃ b,c=.ref (cc 0)/\I=some b/\L2.Same J1 H'/\H' b=some (.xd [(qec 0,v)])/\σ=[some (.ref x),some v,some (iv i),some (.ref e0),none],_,λpn xe qZ=>(qe (qN (jc UA (hmR hr) qZ (qa (pv 0) (qa (pv 1) (qa (pv 2) qb)))))),?_,λa C aa ab H' hE j=>?_⟩
   .ext;show⟨x,v,i,rfl,hi,.inl ⟨p,1,ss,ns,hW.same B,hv.same B,O,λb H' s' t=>⟨b,rfl,rfl,s',t,rfl⟩⟩⟩
   .obtain⟨b,hc,rfl,s3,t,rfl⟩:=hE;cases hc;have e:=B.trans s3;show⟨_,(qgD (K:=K) rfl K6.nd (i:=4) rfl rfl rfl T.m_NoPlace (qe (qr (i:=3) K6.nd rfl (yG rfl) (qS (qa (qal (qW (jo (K:=K) rfl hu) (qV (K:=K) rfl (pv 4) rfl) (pv 1) (qu _)) (qal (qk (zi (K:=K) rfl) rfl T.b_isinstance Yi (qa (pv 4) (qa (jh (v:=.ty "ValueError") rfl T.b_ValueError zL rfl) qb))) (zU (qdC (qk (qdd (K:=K) rfl) rfl T.b_isinstance Yi (qa (pv 4) (qa (ji (qa (qbW (v:=.ref (cc 3)) rfl T.m_Odd rfl) (qa (qbW (v:=.ref (cc 1)) rfl T.m_NoTie rfl) qb))) qb))))))) qb)))) (qhy (K:=K) rfl rfl T.m_OnceError (qe (qi jy)) qfM)),?_⟩;show⟨true,S,T.xat 0 (by decide),T.xat 0 (by decide),jv ?_⟩;have l:IsX H' a (cc 0) (some b):=.inr j;have tx:TyX K H' (.ref a) (.ref (cc 0)):=.inr ⟨a,cc 0,some b,rfl,rfl,l,T.xat 0 (by decide),λd z=>by cases z;show⟨_,t⟩⟩;apply .inr ⟨a,cc 0,b,_,v,rfl,l,T.xat 0 (by decide),T.na 0 (by decide),t,rfl,?_⟩;apply th1_eq (hv.same e) (M _ e) ?_;show⟨_,rfl,jv ?_⟩;apply qaB tx rfl (T.kitV 0 (by decide)) ?_;show⟨_,rfl,jv ?_⟩;apply⟨wqqn,λD s=>?_⟩;have s4:=qw e (o:=.tup [.ref (cc 3),.ref (cc 1)]) s;have t3:=qw (Sr H') (o:=.tup [.ref (cc 3),.ref (cc 1)]) s;have e2:upd H' D (.tup [.ref (cc 3),.ref (cc 1)]) D=some (.tup [.ref (cc 3),.ref (cc 1)]):=qc;have m:=t3 _ _ j;have u:=t3 _ _ t;generalize upd H' D (.tup [.ref (cc 3),.ref (cc 1)])=Z at s4 e2 m u;apply⟨_,D,_,.ref (cc 0),[.ref (cc 3),.ref (cc 1)],false,rfl,.inr ⟨a,cc 0,some b,rfl,rfl,.inr m,T.xat 0 (by decide),λd z=>by cases z;show⟨_,u⟩⟩,e2,rfl,?_,?_⟩
    .have k1:=T.kit 0 3 (by decide) (by decide);have k2:=T.kit 0 1 (by decide) (by decide);simp only[W.kitAny,k1,k2];rfl
    apply⟨wqqm,λy N=>?_⟩;have s5:=qw s4 (o:=.lst [.bl (!false)]) N;have e5:upd Z y (.lst [.bl (!false)]) y=some (.lst [.bl true]):=qc;generalize upd Z y (.lst [.bl (!false)])=G at s5 e5;apply⟨wqqm,λA r=>?_⟩;have s6:=qw s5 (o:=.lst [.bl true]) r;have g:=qw (Sr G) (o:=.lst [.bl true]) r _ _ e5;have e6:upd G A (.lst [.bl true]) A=some (.lst [.bl true]):=qc;generalize upd G A (.lst [.bl true])=J4 at s6 g e6;show .inr (.inl ⟨y,A,true,1,rfl,rfl,by decide,qgm (xs:=[true]) g e6,?_⟩);apply yr ?_;show⟨s6,_,_,rfl⟩
  .obtain⟨U,X,Y,rfl⟩:=R;apply q _ U
theorem qh8{TI:List (Nat×Nat)}(c:ss.Nodup)(h:TIok ss.length TI):TGo ss (TI.map (nmP ss)):=by
 show⟨by rw[ya];show h.few,h.go c,YM.mpr (h.nd.imp_of_mem λ{a b} l hb d=>?_)⟩;have m:=h.ok a l;have n:=h.ok b hb;show⟨λe=>d ?_,λe=>?_⟩
 .have f:=jP c (by lk) (by lk) (congrArg Prod.fst e);have g:=jP c (by lk) (by lk) (congrArg Prod.snd e);show XV f g
 .have f:=jP c (i:=a.1) (j:=b.2) (by lk) (by lk) (congrArg Prod.fst e);have g:=jP c (i:=a.2) (j:=b.1) (by lk) (by lk) (congrArg Prod.snd e);lk
theorem TGo.perm{l m:LP}(h:TGo ss m)(p:l.Perm m):TGo ss l:=
 ⟨by rw[p.length_eq];show h.few,λb a=>h.inn b (p.mem_iff.mp a),(p.pairwise_iff UN.symm).mpr h.un⟩
theorem qcQ{TI:List (Nat×Nat)}(W:Wt cw H x ss ns (TI.map (nmP ss)))(c:TIok ss.length TI):(zj ss ns ss.length).Perm (TI.map (nmP ss)):=by
 have d:=W.wok.nd;show(xV (dps_nd W.wok) (((qh8 d c).un).imp λ{a b} h=>h.1)).mpr λn=>?_;obtain⟨a,b⟩:=n;rw[qcI W.wok W.adj];constructor
 .rintro ⟨h,i,j,o,f,g⟩;have l:=(yc.mp f).1;have m:=(yc.mp g).1;rw[qai l] at f;rw[qai m] at g;cases f;cases g;have k:=qe8 d c h;rw[zx d l,zx d m] at k;rcases k with k | k
  .show yJ.mpr ⟨_,k,rfl⟩
  .have:=c.ok _ k;simp only at this;lk
 .intro h;show⟨.inl h,?_⟩;obtain⟨p,q,e⟩:=yJ.mp h;have k:=c.ok p q;cases e;show⟨p.1,p.2,k.1,qai (by lk),qai k.2⟩
theorem tA_perm{l m:LP}(p:l.Perm m){a b:Str}:tA l a b↔tA m a b:=by
 unfold tA;rw[p.mem_iff,p.mem_iff]
theorem inB_nms(a:ss.Nodup)(b:Nat):(inB ss 0 b).map V.str=qH ss ((List.range ss.length).filter λv=>b.testBit v):=by
 rw[zk a,qge];unfold qH
 congr 2
 show xn λv hv=>?_;rw[zx a (Yd.mp hv)]
theorem vy:FnScope wq5 wq5 (qf qbd):=fS
inductive spFo(vs:List V)(H:Hp)(Q:VK)(E:XK):Prop|mk (l:Addr) (xs:List V) (_:vs=[.ref l]) (_:H l=some (.lst xs)) (_:Q (xs.head?.getD .non) H)
theorem ok_fo(F:Fun K "first_of" "first_of" qbd f fd)(T:Txt K mg cc cw):wqqj 1 f fd wq5 spFo:=by
 show F.ok vy λ_ _ _ _ H vs Q E a h=>?_
 .obtain⟨l,xs,rfl,hl,q⟩:=h;have b:=jw a;show⟨_,(qe (qi (qbs (qj qdI (qk (j8 (K:=K) rfl) rfl T.b_len Yv (qa (pv 0) qb)) qh (qu _)) (qA (qB (K:=K) rfl b) (pv 0) qh (λ_ _=>rfl)) qaP))),?_⟩;apply zK hl ?_;ext
  cases xs with
  | nil =>
   show qE (λh=>by simp at h) λ_=>?_;apply q
  | cons y xs =>
   rw[yx (show(((y::xs).length:Nat):Int)>0 by rw[Yk];lk)];show jv ?_;apply .inl (qch (i:=0) (v:=y) hl (by unfold atI;rw[show(0:Int)=((0:Nat):Int) from rfl,qbp (by simp)];rfl) ?_);show q
theorem vh:FnScope wqG wqG (qf qaJ):=fS
theorem Uk:FnScope wa wa (qf j3):=fS
theorem Ul:FnScope wa wa (qf jC):=fS
theorem uw:FnScope ["self","one","other","rising"] wqX (qf jH):=fS
def PlayAt(cp cw:Addr)(H:Hp)(x b p:Addr)(ss:LS)(ns:LN)(tr:LN):Prop:=∃ dx,H x=some (.ins cp dx (jF "path" (.ref p) (jF "board" (.ref b) [])))/\H p=some (.lst (qH ss tr))/\WebAt cw H b ss ns
theorem PlayAt.same(h:PlayAt cp cw H x b p ss ns tr)(s:L2.Same H H'):PlayAt cp cw H' x b p ss ns tr:=by
 obtain⟨dx,h1,a,c⟩:=h;show⟨dx,s _ _ h1,s _ _ a,c.same s⟩
theorem qaX:List.lookup ("path":Str) (jF "path" (V.ref p) (jF "board" (V.ref b) []))=some (V.ref p):=by rw[qC,yH rfl]
theorem qbe:List.lookup ("board":Str) (jF "path" (V.ref p) (jF "board" (V.ref b) []))=some (V.ref b):=by rw[qC,yE (by room),qC,yH rfl]
theorem jj{f:Str}{p b:V}(h:(f=="path"||f=="board")=false:=by room):List.lookup f (jF "path" p (jF "board" b []))=none:=by
 simp only[Bool.or_eq_false_iff,Yq] at h;rw[qC,yE h.1,qC,yE h.2];rfl
theorem WebAt.but{c:Addr}{fs:List (Str×V)}(h:WebAt cw H b ss ns)(a:H x=some (.ins c dx fs))(ne:b≠x)(k:But x H H'):WebAt cw H' b ss ns:=by
 obtain⟨j,d,ol,n,h1,e,f,g,i⟩:=h;show⟨j,d,ol,n,k _ _ ne h1,k _ _ (qbV e a (by intro z;cases z)) e,k _ _ (qbV f a (by intro z;cases z)) f,k _ _ (qbV g a (by intro z;cases z)) g,i⟩
def gnI:LN->List (Nat×Nat)
 | a::b::r=>(min b a,max b a)::gnI (b::r)
 | _=>[]
theorem qfa:∀(tr:LN) (i:Nat) (a b:Nat),tr[i]?=some a->(tr.tail)[i]?=some b->(gnI tr).take (i+1)=(gnI tr).take i++[(min b a,max b a)]
 | [],i,a,b,h,_=>by simp at h
 | [x],i,a,b,_,h=>by simp at h
 | x::y::r,0,a,b,h1,h2=>by
  simp at h1 h2;subst h1 h2;rfl
 | x::y::r,i+1,a,b,h1,h2=>by
  have:=qfa (y::r) i a b (by simpa using h1) (by simpa using h2);show(min y x,max y x)::(gnI (y::r)).take (i+1)=(min y x,max y x)::((gnI (y::r)).take i++[_]);rw[this]
theorem qdv:∀ tr:LN,(gnI tr).length=tr.length-1
 | []=>rfl
 | [x]=>rfl
 | x::y::r=>by
  show(gnI (y::r)).length+1=_;rw[qdv (y::r)];simp
theorem qex:∀(tr:LN) (n:Nat),(∀ v∈tr,v<n)->∀ q∈gnI tr,q.1<n/\q.2<n
 | [],n,_,q,h=>by cases h
 | [x],n,_,q,h=>by cases h
 | x::y::r,n,hn,q,h=>by
  rcases yF.mp h with z | z
  .have h1:=hn x (by simp);have a:=hn y (by simp);rw[z];show min y x<n/\max y x<n;lk
  .show qex (y::r) n (λv hv=>hn v (yz _ hv)) q z
def lfI(TI:List (Nat×Nat))(tr:LN):List (Nat×Nat):=TI.filter λq=>!decide (q∈gnI tr)
theorem qey(TI:List (Nat×Nat))(s:Nat):lfI TI [s]=TI:=by
 unfold lfI;show List.filter_eq_self.mpr λq _=>by rw[ym (λh=>by cases h)];rfl
theorem qfb{TI:List (Nat×Nat)}(h:TIok n TI)(tr:LN):TIok n (lfI TI tr):=h.filter _
theorem qhq{s t:Str}{Q:VK}(h:PL H l ts tps)(f:H a=some (.tup [.str s,.str t]))(q:Q (.bl (!decide ((s,t)∈tps))) H):qgE K true (.ref a) (.ref l) H Q:=by
 show .inr (.inr ⟨l,ts.map V.ref,λz=>decide (qfn H z=some (s,t)),1,rfl,SqL.of h.1,by decide,λz g=>?_,?_⟩)
 .obtain⟨b,hb,rfl⟩:=yJ.mp g;obtain⟨c,_,r⟩:=h.2.mem hb;have e:=pair_eqD (K:=K) r f
  have d:decide (qfn H (.ref b)=some (s,t))=decide ((c.1,c.2)=(s,t)):=by
   rw[qdm r];apply yY.mpr;rw[Option.some.injEq]
  show EqD K H 1 (.ref b) (.ref a) (decide (qfn H (.ref b)=some (s,t)));rw[d];show e
 .rw [yH rfl,any_in h.2];show q
theorem qgn(c:ss.Nodup){L:List (Nat×Nat)}(i:∀ q∈L,q.1<ss.length/\q.2<ss.length){a b:Nat}(j:a<ss.length)(hb:b<ss.length):decide ((tn ss a,tn ss b)∈L.map (nmP ss))=decide ((a,b)∈L):=by
 show yY.mpr ⟨λh=>?_,λh=>yJ.mpr ⟨_,h,rfl⟩⟩;obtain⟨q,d,e⟩:=yJ.mp h;have k:=i q d;have f:=jP c k.1 j (congrArg Prod.fst e);have g:=jP c k.2 hb (congrArg Prod.snd e);rw[<- f,<- g];show d
inductive spWkI(cc:Nat->Addr)(cw:Addr)(vs:List V)(H:Hp)(Q:VK)(E:XK):Prop|mk (x dx b:Addr) (s:Nat) (ss:LS) (ns:LN) (_:vs=[.ref x,.ref b,.str (tn ss s)]) (_:H x=some (.ins (cc 8) dx [])) (_:WebAt cw H b ss ns) (_:s<ss.length) (_:∀(p:Addr) (H':Hp),But x H H'->H p=none->PlayAt (cc 8) cw H' x b p ss ns [s]->Q .non H')
inductive spPsP(cc:Nat->Addr)(cw:Addr)(vs:List V)(H:Hp)(Q:VK)(E:XK):Prop|mk (x b p:Addr) (ss:LS) (ns tr:LN) (s:Nat) (_:vs=[.ref x]) (_:PlayAt (cc 8) cw H x b p ss ns tr) (_:tr.getLast?=some s) (_:Q (.str (tn ss s)) H)
inductive spTB(cc:Nat->Addr)(cw:Addr)(vs:List V)(H:Hp)(Q:VK)(E:XK):Prop|mk (x b p:Addr) (ss:LS) (ns tr:LN) (u v:Nat) (_:vs=[.ref x,.str (tn ss u),.str (tn ss v)]) (_:PlayAt (cc 8) cw H x b p ss ns tr) (_:u<ss.length) (_:v<ss.length) (_:∀(t:Addr) (H':Hp),L2.Same H H'->H t=none->H' t=some (.tup [.str (tn ss (min v u)),.str (tn ss (max v u))])->Q (.ref t) H')
inductive spTG(cc:Nat->Addr)(cw:Addr)(vs:List V)(H:Hp)(Q:VK)(E:XK):Prop|mk (x b p:Addr) (ss:LS) (ns tr:LN) (_:vs=[.ref x]) (_:PlayAt (cc 8) cw H x b p ss ns tr) (_:tr.length<=100) (_:(∀ v∈tr,v<ss.length)) (_:∀(l:Addr) (ts:LI) (H':Hp),L2.Same H H'->PL H' l ts ((gnI tr).map (nmP ss))->Q (.ref l) H')
theorem ok_wkI(F:Fun K "__init__" "Walk.__init__" qaJ f fd)(T:Txt K mg cc cw)(A:wqqi 3 cw "has_place" wqv (spHas cw)):wqqj 5 f fd wqG (spWkI cc cw):=by
 show F.ok vh λ_ _ _ _ H vs Q E y h=>?_
 .obtain⟨x,dx,b,st,ss,ns,rfl,s,l,r,q⟩:=h;have D:=jw y;show⟨_,(qd (qG (qP (qD (qR A (hmR y) (pv 1) (qa (pv 2) qb)))) (qe jk) qt)
 (qd (qaA (K:=K) rfl (pv 0) (pv 1) rfl)
 (qe (qaA (K:=K) rfl (pv 0) (qS (qa (pv 2) qb)) rfl)))),?_⟩
  obtain⟨B,d,ol,n,hb,_,_,_,hw⟩:=id l;have t:b≠x:=λe=>by subst e;rw[s] at hb;injection hb with hb;injection hb with _ _ hb;cases hb
  apply⟨b,B,_,rfl,hb,zh (by room),?_⟩;apply⟨b,ss,ns,tn ss st,rfl,l,zO r,λH1 z=>?_⟩;apply yr ?_;apply .inl ⟨x,cc 8,dx,[],rfl,z _ _ s,T.pcl,T.pb,by decide,?_⟩;have j:=((But.refl x H).same z).put (o:=.ins (cc 8) dx (jF "board" (.ref b) []));have a:upd H1 x (.ins (cc 8) dx (jF "board" (.ref b) [])) x=some (.ins (cc 8) dx (jF "board" (.ref b) [])):=qc;generalize upd H1 x (.ins (cc 8) dx (jF "board" (.ref b) []))=H2 at j a ⊢;apply⟨wqqm,λp g=>?_⟩;have c:p≠x:=λe=>by rw[e,a] at g;cases g
  have m:H p=none:=by
   cases e:H p with
   | none=>rfl
   | some o=>rw[j p o c e] at g;cases g
  have u:=j.new (o:=.lst [.str (tn ss st)]) g;have i:upd H2 p (.lst [.str (tn ss st)]) x=some (.ins (cc 8) dx (jF "board" (.ref b) [])):=by rw[qo c.symm];show a
  have ep:upd H2 p (.lst [.str (tn ss st)]) p=some (.lst [.str (tn ss st)]):=qc;generalize upd H2 p (.lst [.str (tn ss st)])=C at u i ep ⊢;apply .inl ⟨x,cc 8,dx,_,rfl,i,T.pcl,T.pp,xQ (jJ _ _ _) (by decide),?_⟩;have v:=u.put (o:=.ins (cc 8) dx (jF "path" (.ref p) (jF "board" (.ref b) [])));show q p _ v m ⟨dx,qc,by rw[qo c];show ep,l.but s t v⟩
theorem nms_last(h:tr.getLast?=some s):atI (qH ss tr) (-1)=some (.str (tn ss s)):=by
 have e:(qH ss tr).getLast?=some (.str (tn ss s)):=by unfold qH;rw[List.getLast?_map,List.getLast?_map,h];rfl
 rw[Yy] at e;have hl:=(yc.mp e).1;unfold atI ixN;rw[yE (by decide),yH (by lk)];have a:(-1+((qH ss tr).length:Int)).toNat=(qH ss tr).length-1:=by lk
 show(qH ss tr)[(-1+((qH ss tr).length:Int)).toNat]?=_;rw[a];show e
theorem ok_ps(F:Fun K "stands_at" "Walk.stands_at" j3 f fd)(T:Txt K mg cc cw):wqqj 1 f fd wa (spPsP cc cw):=by
 show F.ok Uk λ_ _ _ _ H vs Q E c h=>?_
 .obtain⟨x,b,p,ss,ns,tr,z,rfl,⟨dx,e,a,i⟩,g,q⟩:=h;have d:=jw c;show⟨_,(qe (qi (qA (qB (K:=K) rfl d) (qV (K:=K) rfl (pv 0) rfl) (qfu qdG qh) (λ_ _=>rfl)))),?_⟩;apply .inl ⟨x,cc 8,dx,_,.ref p,rfl,e,T.pcl,T.pp,qaX,?_⟩;apply vU ?_;show .inl (qch a (nms_last g) q)
theorem ok_tb(F:Fun K "tie_between" "Road.tie_between" jH f fd)(T:Txt K mg cc cw)(m:wqqi 4 cw "number_of" wqd (spNum cw)):wqqj 5 f fd wqX (spTB cc cw):=by
 show F.ok uw λ_ _ _ _ H vs Q E o h=>?_
 .obtain⟨x,b,p,ss,ns,tr,u,v,rfl,z,j,l,q⟩:=h;obtain⟨dx,r,B,g⟩:=id z;obtain⟨s,d,ol,n,hb,_,_,_,hw⟩:=id g;show⟨_,(qd (qr (i:=3) uw.nd rfl (yG rfl) (qW qdH (qR m (hmR o) (qV (K:=K) rfl (pv 0) rfl) (qa (pv 1) qb)) (qR m (hmR o) (qV (K:=K) rfl (pv 0) rfl) (qa (pv 2) qb)) (qu _)))
 (qe (qi (qbs (qD (pv 3)) (ji (qa (pv 1) (qa (pv 2) qb))) (ji (qa (pv 2) (qa (pv 1) qb))))))),?_⟩
  apply .inl ⟨x,cc 8,dx,_,.ref b,rfl,r,T.pcl,T.pb,qbe,?_⟩;apply⟨b,s,_,rfl,hb,zh (by room),?_⟩;apply⟨b,ss,ns,tn ss u,u,rfl,g,qai j,λH1 e=>?_⟩;apply .inl ⟨x,cc 8,dx,_,.ref b,rfl,e _ _ r,T.pcl,T.pb,qbe,?_⟩;apply⟨b,s,_,rfl,e _ _ hb,zh (by room),?_⟩;apply⟨b,ss,ns,tn ss v,v,rfl,g.same e,qai l,λH2 A=>?_⟩;ext;have a:=e.trans A
  have y:decide ((u:Int)<(v:Int))=decide (u<v):=by
   congr 1
   apply propext;lk
  rw[y];by_cases h:u<v
  .rw [show min v u=u by lk,show max v u=v by lk] at q;rw[yx h];show jv ?_;apply⟨wqqn,λt c=>q t _ (qw a c) (a.free c) qc⟩
  .rw [show min v u=v by lk,show max v u=u by lk] at q;rw[ym h];show yr ?_;apply⟨wqqn,λt c=>q t _ (qw a c) (a.free c) qc⟩
theorem ok_tg(F:Fun K "ties_gone" "Road.ties_gone" jC f fd)(T:Txt K mg cc cw)(ua:wqqi 5 (cc 8) "tie_between" wqX (spTB cc cw)):wqqj 6 f fd wa (spTG cc cw):=by
 show F.ok Ul λ_ _ _ _ H vs Q E hr h=>?_
 .obtain⟨x,b,p,ss,ns,tr,rfl,S,X,c,q⟩:=h;obtain⟨dx,O,M,hW⟩:=id S;show⟨_,(qe (qi (qK (sc:=qf jC) (XN:=wa) wqqa 2 [0] rfl rfl rfl (by room) rfl (by room)
  (pi_zip (K:=K) rfl rfl T.b_zip (qa (qV (K:=K) rfl (pv 0) rfl) (qa (qaZ (qhG (K:=K) rfl) (qV (K:=K) rfl (pv 0) rfl) (qag qh) qb0) qb))) (λ_ _ _ _=>(qbh (n:=2) rfl (qU (qp (i:=0) (show(wqqa:LS).Nodup by room) rfl (yG rfl)) (qU (qp (i:=1) (show(wqqa:LS).Nodup by room) rfl (yG rfl)) qaf)))) qd1
  (λ_ _ _ _=>jl)
  (λ_ _ _ _=>(qR ua (hmR hr) (pv 2) (qa (pv 0) (qa (pv 1) qb))))))),?_⟩
  apply vZip ?_;apply .inl ⟨x,cc 8,dx,_,.ref p,rfl,O,T.pcl,T.pp,qaX,?_⟩;apply .inl ⟨x,cc 8,dx,_,.ref p,rfl,O,T.pcl,T.pp,qaX,?_⟩;apply .inl ⟨p,_,rfl,SqL.of M,λd hd=>?_⟩
  have Z:qfz (qH ss tr) (some 1) none=qH ss tr.tail:=by
   have:=qcE (qH ss tr) 1;unfold qH at this ⊢;rw[<- kq,<- kq,List.drop_one] at this;show this
  rw[Z];have m:=qw (Sr H) (o:=.lst (qH ss tr.tail)) hd;have g:upd H d (.lst (qH ss tr.tail)) d=some (.lst (qH ss tr.tail)):=qc;generalize upd H d (.lst (qH ss tr.tail))=H1 at m g;apply⟨p,d,_,_,rfl,SqL.of (m _ _ M),SqL.of g,comp_zip (xs:=qH ss tr) (ys:=qH ss tr.tail) (by rw[qI,qI,List.length_tail];lk) (λi I J=>L2.Same H1 J/\∃ ts:LI,I=ts.map V.ref/\All2 (λt D=>J t=some (.tup [.str D.1,.str D.2])) ts (((gnI tr).take i).map (nmP ss))) ⟨L2.Same.refl H1,[],rfl,.nil⟩ (λi I J _ a=>⟨SqL.of (a.1 _ _ (m _ _ M)),SqL.of (a.1 _ _ g)⟩) (λi u v t I J s A U a=>?_) λI J a=>?_⟩
  .obtain⟨R,ts,rfl,j⟩:=a;obtain⟨u,y,rfl⟩:=jR s;obtain⟨v,B,rfl⟩:=jR A;clear s A;have G:=qw R (o:=.tup [.str (tn ss u),.str (tn ss v)]) U;have C:=qw (Sr J) (o:=.tup [.str (tn ss u),.str (tn ss v)]) U;show⟨t,_,rfl,.of qc,rfl,_,_,rfl,_,_,rfl,rfl,?_⟩;generalize upd J t (.tup [.str (tn ss u),.str (tn ss v)])=J3 at G C;apply jv ?_;ext;have L:=S.same (m.trans G);show⟨x,dx,_,rfl,(m.trans G) _ _ O,jj,?_⟩;apply⟨x,b,p,ss,ns,tr,u,v,rfl,L,c u (yf y),c v (List.mem_of_mem_tail (yf B)),λt2 J4 Y W N=>?_⟩;have r:ts.length<=100:=by rw[j.len,ya,yM,qdv];lk
   show⟨by rw[ya];show qg (by lk),G.trans Y,ts++[t2],by rw[yu];rfl,?_⟩;rw[qfa tr i u v y B,yu];show(j.mono λt' D z=>Y _ _ (C _ _ z)).snoc N
  .obtain⟨R,ts,rfl,j⟩:=a;have e:(qH ss tr.tail).length=(gnI tr).length:=by rw[qI,List.length_tail,qdv]
   rw[e,yD] at j;have r:ts.length<=100:=by rw[j.len,ya,qdv];lk
   show⟨by rw[ya];show yN (qg (by lk)),λl hl=>?_⟩;show q l ts _ (qw (m.trans R) hl) ⟨qc,j.mono λt D z=>qw (Sr J) hl _ _ z⟩
theorem UM:FnScope wqv wqv (qf zt):=fS
theorem uI:FnScope ["self","gone"] wa (qf jD):=fS
theorem uF:FnScope ["self","place","gone"] wa (qf zC):=fS
theorem vL:FnScope wqd wqd (qf qbQ):=fS
theorem UC:FnScope wa wa (qf zg):=fS
structure RdAt(cc:Nat->Addr)(cw:Addr)(H:Hp)(x b p:Addr)(ss:LS)(ns:LN)(TI:List (Nat×Nat))(tr:LN)(s:Nat):Prop where
 pl:PlayAt (cc 8) cw H x b p ss ns tr
 wt:Wt cw H b ss ns (TI.map (nmP ss))
 ok:TIok ss.length TI
 len:tr.length<=100
 all:∀ v∈tr,v<ss.length
 last:tr.getLast?=some s
theorem RdAt.same{TI:List (Nat×Nat)}(h:RdAt cc cw H x b p ss ns TI tr s)(k:L2.Same H H'):RdAt cc cw H' x b p ss ns TI tr s:=⟨h.pl.same k,h.wt.same k,h.ok,h.len,h.all,h.last⟩
theorem RdAt.lt{TI:List (Nat×Nat)}(h:RdAt cc cw H x b p ss ns TI tr s):s<ss.length:=h.all s (List.mem_of_getLast? h.last)
def nbI(TI:List (Nat×Nat))(n s:Nat):LN:=(List.range n).filter λv=>(zy TI s).testBit v
theorem nbI_len(TI:List (Nat×Nat))(n s:Nat):(nbI TI n s).length<=n:=by
 unfold nbI;show yj (yy _ _) ?_;rw[YF];show yi _
theorem qdw{TI:List (Nat×Nat)}(a:TIok n TI):v∈nbI TI n s↔adjI TI s v:=by
 unfold nbI;rw[yq,Yd,qaj a];show⟨λz=>z.2,λz=>⟨(a.adj z).2.1,z⟩⟩
theorem lf_adj{TI:List (Nat×Nat)}(c:TIok n TI)(tr:LN):adjI (lfI TI tr) s v↔adjI TI s v/\(min v s,max v s)∉gnI tr:=by
 unfold lfI adjI;rw[yq,yq,Y6,Y6,YU,YU];have a:(s,v)∈TI->min v s=s/\max v s=v:=λz=>by have:=c.ok _ z;simp only at this;lk
 have b:(v,s)∈TI->min v s=v/\max v s=s:=λz=>by have:=c.ok _ z;simp only at this;lk
 constructor
 .rintro (z | z)
  .have:=a z.1;rw[this.1,this.2];show⟨.inl z.1,z.2⟩
  .have:=b z.1;rw[this.1,this.2];show⟨.inr z.1,z.2⟩
 .rintro ⟨z | z,k⟩
  .have:=a z;rw[this.1,this.2] at k;show .inl ⟨z,k⟩
  .have:=b z;rw[this.1,this.2] at k;show .inr ⟨z,k⟩
theorem nbI_lf{TI:List (Nat×Nat)}(a:TIok n TI)(tr:LN)(s:Nat):(nbI TI n s).filter (λv=>!decide ((min v s,max v s)∈gnI tr))=nbI (lfI TI tr) n s:=by
 unfold nbI;rw[List.filter_filter];show xn λv _=>?_;rw[yT,Yl,qaj a,qaj (qfb a tr),lf_adj a tr,Y6,YU];show And.comm
theorem lf_perm{TI:List (Nat×Nat)}(W:Wt cw H x ss ns (TI.map (nmP ss)))(b:TIok ss.length TI)(a:∀ v∈tr,v<ss.length):((zj ss ns ss.length).filter λc=>!decide (c∈(gnI tr).map (nmP ss))).Perm ((lfI TI tr).map (nmP ss)):=by
 show((qcQ W b).filter _).trans (List.Perm.of_eq ?_);unfold lfI;rw[Kl]
 congr 1
 show xn λq d=>?_;have k:=b.ok q d;show(!decide (nmP ss q∈_))=_
 congr 1
 show qgn W.wok.nd (qex tr _ a) (by lk) k.2
inductive spTLf(cc:Nat->Addr)(cw:Addr)(vs:List V)(H:Hp)(Q:VK)(E:XK):Prop|mk (x b p:Addr) (ss:LS) (ns:LN) (TI:List (Nat×Nat)) (tr:LN) (s:Nat) (_:vs=[.ref x]) (_:RdAt cc cw H x b p ss ns TI tr s) (_:∀(l:Addr) (ts:LI) (tps:LP) (H':Hp),L2.Same H H'->PL H' l ts tps->tps.Perm ((lfI TI tr).map (nmP ss))->Q (.ref l) H')
inductive spRm(cc:Nat->Addr)(cw:Addr)(vs:List V)(H:Hp)(Q:VK)(E:XK):Prop|mk (x b p:Addr) (ss:LS) (ns:LN) (TI:List (Nat×Nat)) (tr:LN) (s:Nat) (_:vs=[.ref x]) (_:RdAt cc cw H x b p ss ns TI tr s) (_:∀(r:Addr) (H':Hp),L2.Same H H'->H r=none->H' r=some (.lst (qH ss (nbI (lfI TI tr) ss.length s)))->Q (.ref r) H')
inductive spRgo(cc:Nat->Addr)(cw:Addr)(vs:List V)(H:Hp)(Q:VK)(E:XK):Prop|mk (x b p:Addr) (ss:LS) (ns:LN) (TI:List (Nat×Nat)) (tr:LN) (s v:Nat) (_:vs=[.ref x,.str (tn ss v)]) (_:RdAt cc cw H x b p ss ns TI tr s) (_:v∈nbI (lfI TI tr) ss.length s) (_:∀ H',But p H H'->H' p=some (.lst (qH ss (tr++[v])))->Q .non H')
inductive spRwl(cc:Nat->Addr)(cw:Addr)(vs:List V)(H:Hp)(Q:VK)(E:XK):Prop|mk (x b p:Addr) (ss:LS) (ns:LN) (TI:List (Nat×Nat)) (tr:LN) (s:Nat) (_:vs=[.ref x]) (_:RdAt cc cw H x b p ss ns TI tr s) (_:∀(y:Addr) (ms:LN) (H':Hp),L2.Same H H'->Wt cw H' y ss ms ((lfI TI tr).map (nmP ss))->Q (.ref y) H')
theorem ok_tlf(F:Fun K "ties_left" "Road.ties_left" jD f fd)(T:Txt K mg cc cw)(um:wqqi 6 (cc 8) "ties_gone" wa (spTG cc cw))(W:wqqi 7 cw "ties" wa (spTs cw)):wqqj 8 f fd wa (spTLf cc cw):=by
 show F.ok uI λ_ _ _ _ H vs Q E L h=>?_
 .obtain⟨x,b,p,ss,ns,TI,tr,st,rfl,R,q⟩:=h;obtain⟨dx,S,hp,N⟩:=id R.pl;obtain⟨wx,d,ol,n,hb,_,_,_,hw⟩:=id N;have Z:=jw L;have u:=lf_perm R.wt R.ok R.all;have M:=qcQ R.wt R.ok;show⟨_,(qd (qr (i:=1) uI.nd rfl (xK rfl) (qz um (hmR L) (pv 0)))
 (qe (qi (qK (sc:=qf jD) (XN:=["self","gone"]) ["tie","gone"] 1 [1] rfl rfl rfl (by room) rfl (by room)
  (qL (K:=K) rfl (qz W (hmR L) (qV (K:=K) rfl (pv 0) rfl))) (λ_ _ _ _=>(qp (i:=0) (show(["tie","gone"]:LS).Nodup by room) rfl (yG rfl))) qF
  (λ_ _ _ _=>(qJ (qj (zc (K:=K) rfl Z) (pv 0) (pv 1) (by with_unfolding_all rfl))))
  (λ_ _ _ _=>(pv 0)))))),?_⟩
  apply⟨x,dx,_,rfl,S,jj,?_⟩;apply⟨x,b,p,ss,ns,tr,rfl,R.pl,R.len,R.all,λl ts H1 D I=>?_⟩;apply .inl ⟨x,cc 8,dx,_,.ref b,rfl,D _ _ S,T.pcl,T.pb,qbe,?_⟩;apply⟨b,wx,_,rfl,D _ _ hb,zh (by room),?_⟩;apply⟨b,ss,ns,rfl,N.same D,λr us H2 U Y v aa C=>?_⟩;have m:=I.same U;have G:(zj ss ns ss.length).length<=30:=by rw[M.length_eq,ya];show R.ok.few
  generalize zj ss ns ss.length=j at C u M G;show .inl ⟨⟨_,.of v⟩,qx (xs:=us.map V.ref) (λi ys J=>J=H2/\∃ vs:LI,ys=vs.map V.ref/\vs.length<=i/\All2 (λt a=>H2 t=some (.tup [.str a.1,.str a.2])) vs ((j.take i).filter λt=>!decide (t∈(gnI tr).map (nmP ss)))) ⟨rfl,[],rfl,yi _,.nil⟩ (λi ys J _ c=>by rw[c.1];show .of v) (λi x' ys J B c=>?_) λys J c=>?_⟩
  .obtain⟨rfl,vs,rfl,A,g⟩:=c;rw[ye] at B;obtain⟨t,O,rfl⟩:=yo.mp B;have X:i<j.length:=by rw[<- C.len];show(yc.mp O).1
   obtain⟨a,o⟩:∃ a,j[i]?=some a:=⟨_,yb X⟩;have y:=(C.at_ i t a O o).2.2;rw[yI,o,yZ];apply qhq m y ?_;apply qE (λh=>?_) (λh=>?_)
   .ext;show⟨by rw[ya];show qg (by lk),rfl,vs++[t],by rw[yu];rfl,by rw[yK];show vs.length+1<=i+1;lk,?_⟩;have e:([a].filter λt=>!decide (t∈(gnI tr).map (nmP ss)))=[a]:=by rw[yR,yH h];rfl
    show All2 _ _ (_++([a].filter λt=>!decide (t∈(gnI tr).map (nmP ss))));rw[e];show g.snoc y
   .show⟨rfl,vs,rfl,by lk,?_⟩;have e:([a].filter λt=>!decide (t∈(gnI tr).map (nmP ss)))=[]:=by rw[yR,yE h];rfl
    show All2 _ _ (_++([a].filter λt=>!decide (t∈(gnI tr).map (nmP ss))));rw[e,Yb];show g
  .obtain⟨rfl,vs,rfl,A,g⟩:=c;have e:(us.map V.ref).length=j.length:=by rw[ya,C.len]
   rw[e] at A;rw[e,yD] at g;show⟨by rw[ya];show yN (qg (by lk)),λl2 s=>?_⟩;show q l2 vs _ _ (qw (D.trans U) s) ⟨qc,g.mono λt a z=>qw (Sr J) s _ _ z⟩ u
theorem ok_rm(F:Fun K "moves" "Road.moves" zC f fd)(T:Txt K mg cc cw)(uo:wqqi 1 (cc 8) "stands_at" wa (spPsP cc cw))(um:wqqi 6 (cc 8) "ties_gone" wa (spTG cc cw))(Y:wqqi 6 cw "beside" wqd (spBs cw))
  (ua:wqqi 5 (cc 8) "tie_between" wqX (spTB cc cw)):wqqj 7 f fd wa (spRm cc cw):=by
 show F.ok uF λ_ _ _ _ H vs Q E m h=>?_
 .obtain⟨x,b,p,ss,ns,TI,tr,st,rfl,R,q⟩:=h;obtain⟨dx,z,hp,S⟩:=id R.pl;have hu:=jw m;have U:=R.wt.wok.nd;have few:=R.wt.wok.few;have W:=R.lt;rw[<- nbI_lf R.ok tr st] at q;show⟨_,(qd (qr (i:=1) uF.nd rfl (xK rfl) (qz uo (hmR m) (pv 0)))
 (qd (qr (i:=2) uF.nd rfl (xK rfl) (qz um (hmR m) (pv 0)))
 (qe (qi (qK (sc:=qf zC) (XN:=["self","place","gone"]) ["name","gone","place","self"] 1 [2,1,0] rfl rfl rfl (by room) rfl (by room)
  (qL (K:=K) rfl (qR Y (hmR m) (qV (K:=K) rfl (pv 0) rfl) (qa (pv 1) qb))) (λ_ _ _ _=>(qp (i:=0) (show(["name","gone","place","self"]:LS).Nodup by room) rfl (yG rfl))) qF
  (λ_ _ _ _=>(qJ (qj (zc (K:=K) rfl hu) (qR ua (hmR m) (pv 3) (qa (pv 2) (qa (pv 0) qb))) (pv 1) (by with_unfolding_all rfl))))
  (λ_ _ _ _=>(pv 0))))))),?_⟩
  obtain⟨wx,d,ol,n,hb,_,_,_,hw⟩:=id S;apply⟨x,dx,_,rfl,z,jj,?_⟩;apply⟨x,b,p,ss,ns,tr,st,rfl,R.pl,R.last,?_⟩;apply⟨x,dx,_,rfl,z,jj,?_⟩;apply⟨x,b,p,ss,ns,tr,rfl,R.pl,R.len,R.all,λg ts H1 A D=>?_⟩;apply .inl ⟨x,cc 8,dx,_,.ref b,rfl,A _ _ z,T.pcl,T.pb,qbe,?_⟩;apply⟨b,wx,_,rfl,A _ _ hb,zh (by room),?_⟩;apply⟨b,ss,ns,tn ss st,st,rfl,S.same A,qai W,λH2 X l hl=>?_⟩;rw[(R.wt.bi R.ok).col R.ok st,inB_nms U];have bl:=nbI_len TI ss.length st;have O:∀ v∈nbI TI ss.length st,v<ss.length:=λv hv=>Yd.mp (yq.mp hv).1;rw[show((List.range ss.length).filter λv=>(zy TI st).testBit v)=nbI TI ss.length st from rfl];generalize nbI TI ss.length st=B at q bl O;have c:=qw (A.trans X) (o:=.lst (qH ss B)) hl;have u:=qw X (o:=.lst (qH ss B)) hl;have C:upd H2 l (.lst (qH ss B)) l=some (.lst (qH ss B)):=qc;generalize upd H2 l (.lst (qH ss B))=N at c u C;have j:=D.same u;apply .inl ⟨⟨_,.of C⟩,qx (xs:=qH ss B) (λi ys J=>L2.Same N J/\ys=qH ss ((B.take i).filter λv=>!decide ((min v st,max v st)∈gnI tr))) ⟨L2.Same.refl N,by simp[qH]⟩ (λi ys J _ a=>.of (a.1 _ _ C)) (λi x' ys J L a=>?_) λys J a=>?_⟩
  .obtain⟨e,rfl⟩:=a;obtain⟨v,hv,rfl⟩:=jR L;have I:=O v (yf hv);ext;have y:=c.trans e;show⟨x,dx,_,rfl,y _ _ z,jj,?_⟩;apply⟨x,b,p,ss,ns,tr,st,v,rfl,R.pl.same y,W,I,λt J5 M Z G=>?_⟩;apply qhq ((j.same e).same M) G ?_;rw[qgn U (qex tr _ R.all) (show min v st<ss.length by lk) (show max v st<ss.length by lk),qbO hv];apply qE (λh=>?_) (λh=>?_)
   .ext;show⟨by rw[qI];show qg (qak (by lk)),e.trans M,?_⟩;rw[yH h]
   .show⟨e.trans M,?_⟩;rw[yE h,Yb]
  .obtain⟨e,rfl⟩:=a;rw[qI ss B,yD];have:=yy (λv=>!decide ((min v st,max v st)∈gnI tr)) B;show⟨by rw[qI];show yN (qg (by lk)),λr s=>?_⟩;show q r _ (qw (c.trans e) s) ((c.trans e).free s) qc
theorem ok_rmvt(F:Fun K "move_to" "Walk.move_to" zt f fd)(T:Txt K mg cc cw)(i:wqqi 7 (cc 8) "moves" wa (spRm cc cw)):wqqj 8 f fd wqv (spRgo cc cw):=by
 show F.ok UM λ_ _ _ _ H vs Q E e h=>?_
 .obtain⟨x,b,p,ss,ns,TI,tr,st,v,rfl,R,hv,q⟩:=h;obtain⟨dx,g,d,m⟩:=id R.pl;have l:=jw e;show⟨_,(qd (qG (qj (zc (K:=K) rfl l) (pv 1) (qz i (hmR e) (pv 0)) (by with_unfolding_all rfl)) (qe jk) qt)
 (qe (qN (qeb (K:=K) rfl yV Ym Yn je (qV (K:=K) rfl (pv 0) rfl) (qa (pv 1) qb))))),?_⟩
  apply⟨x,dx,_,rfl,g,jj,?_⟩;apply⟨x,b,p,ss,ns,TI,tr,st,rfl,R,λr H1 a j c=>?_⟩;show qgf c ?_;apply qE (λh=>?_) λ_=>?_
  .rw [yx (yJ.mpr ⟨v,hv,rfl⟩)] at h;cases h
  apply .inl ⟨x,cc 8,dx,_,.ref p,rfl,a _ _ g,T.pcl,T.pp,qaX,?_⟩;apply⟨.inl ⟨rfl,_,SqL.of (a _ _ d)⟩,?_⟩;apply⟨p,_,_,rfl,rfl,a _ _ d,by rw[qI];have:=R.len;show qg (by lk),?_⟩;show q _ ((But.refl p H).same a).put (by rw[qc];unfold qH;rw[yu,yu];rfl)
theorem ok_rgo(F:Fun K "go" "Road.go" qbQ f fd)(T:Txt K mg cc cw)(a:wqqi 8 (cc 8) "move_to" wqv (spRgo cc cw)):wqqj 9 f fd wqd (spRgo cc cw):=by
 show F.ok vL λ_ _ _ _ H vs Q E c h=>?_
 .obtain⟨x,b,p,ss,ns,TI,tr,st,v,rfl,R,hv,q⟩:=h;obtain⟨dx,d,g,e⟩:=id R.pl;show⟨_,(qe (qN (qR a (hmR c) (pv 0) (qa (pv 1) qb)))),?_⟩;apply⟨x,dx,_,rfl,d,jj,?_⟩;apply⟨x,b,p,ss,ns,TI,tr,st,v,rfl,R,hv,q⟩
theorem ok_rwl(F:Fun K "web_left" "Road.web_left" zg f fd)(T:Txt K mg cc cw)(J:wqqi 8 (cc 8) "ties_left" wa (spTLf cc cw))(D:wqqi 1 cw "places" wa (spPls cw))(G:wqqk 5 cw "Web" wqC (spWeb cw)):wqqj 9 f fd wa (spRwl cc cw):=by
 show F.ok UC λ_ _ _ _ H vs Q E r h=>?_
 .obtain⟨x,b,p,ss,ns,TI,tr,st,rfl,R,q⟩:=h;obtain⟨dx,A,N,z⟩:=id R.pl;obtain⟨L,d,ol,n,hb,_,_,_,hw⟩:=id z;show⟨_,(qe (qi (qbC G (hmR r) (qa (qz D (hmR r) (qV (K:=K) rfl (pv 0) rfl)) (qa (qz J (hmR r) (pv 0)) qb))))),?_⟩;apply .inl ⟨x,cc 8,dx,_,.ref b,rfl,A,T.pcl,T.pb,qbe,?_⟩;apply⟨b,L,_,rfl,hb,zh (by room),?_⟩;apply⟨b,ss,ns,rfl,z,λt m=>?_⟩;have i:=qw (Sr H) (o:=.lst (ss.map V.str)) m;have y:upd H t (.lst (ss.map V.str)) t=some (.lst (ss.map V.str)):=qc;generalize upd H t (.lst (ss.map V.str))=H1 at i y;apply⟨x,dx,_,rfl,i _ _ A,jj,?_⟩;apply⟨x,b,p,ss,ns,TI,tr,st,rfl,R.same i,λl ts tps H2 B a g=>?_⟩;ext;intro M I s c e;show wmake (.inl (B _ _ y)) ⟨hw.few,hw.nd,hw.nm⟩ ⟨.inl a.1,a.2⟩ ((qh8 hw.nd (qfb R.ok tr)).perm g) s c e λu C v j=>⟨rfl,q M u C (i.trans (B.trans v)) (j.to ((qfb R.ok tr).go hw.nd) λ_ _ _ _=>tA_perm g)⟩
theorem Um:FnScope wqqe wqqe (qf j4):=fS
theorem vi:FnScope wa wa (qf qaK):=fS
theorem vk:FnScope wa wa (qf qaL):=fS
theorem U5:FnScope wa wa (qf qad):=fS
theorem U6:FnScope wa wa (qf qae):=fS
theorem Uo:FnScope wqk wqk (qf j5):=fS
theorem Uh:FnScope ["self","twin"] wa (qf qaM):=fS
theorem UW:FnScope wqV wqV (qf zF):=fS
theorem putF_path{p q b:V}:jF "path" q (jF "path" p (jF "board" b []))=jF "path" q (jF "board" b []):=by
 rfl
def IsP(cc:Nat->Addr)(H:Hp)(k:Addr)(i:Nat):Prop:=∃ dx,H k=some (.ins (cc i) dx [])
inductive spHa1(cc:Nat->Addr)(cw:Addr)(vs:List V)(H:Hp)(Q:VK)(E:XK):Prop|mk (x b p:Addr) (ss:LS) (ns tr:LN) (_:vs=[.ref x]) (_:PlayAt (cc 8) cw H x b p ss ns tr) (_:1<=tr.length) (_:Q (iv ((tr.length-1) % 2)) H)
inductive spGon(cc:Nat->Addr)(cw:Addr)(vs:List V)(H:Hp)(Q:VK)(E:XK):Prop|mk (x b p:Addr) (ss:LS) (ns tr:LN) (_:vs=[.ref x]) (_:PlayAt (cc 8) cw H x b p ss ns tr) (_:∀ r,H r=none->Q (.ref r) (upd H r (.lst (qH ss tr))))
inductive spEnd(cc:Nat->Addr)(cw:Addr)(vs:List V)(H:Hp)(Q:VK)(E:XK):Prop|mk (x b p:Addr) (ss:LS) (ns:LN) (TI:List (Nat×Nat)) (tr:LN) (s:Nat) (_:vs=[.ref x]) (_:RdAt cc cw H x b p ss ns TI tr s) (_:∀ H',L2.Same H H'->Q (.bl (nbI (lfI TI tr) ss.length s).isEmpty) H')
inductive spLos(cc:Nat->Addr)(cw:Addr)(vs:List V)(H:Hp)(Q:VK)(E:XK):Prop|mk (x b p:Addr) (ss:LS) (ns:LN) (TI:List (Nat×Nat)) (tr:LN) (s:Nat) (_:vs=[.ref x]) (_:RdAt cc cw H x b p ss ns TI tr s) (_:nbI (lfI TI tr) ss.length s=[]) (_:∀ H',L2.Same H H'->Q (iv ((tr.length-1) % 2)) H')
inductive spTwn(cc:Nat->Addr)(cw:Addr)(vs:List V)(H:Hp)(Q:VK)(E:XK):Prop|mk (x b p:Addr) (ss:LS) (ns:LN) (TI:List (Nat×Nat)) (tr:LN) (s:Nat) (_:vs=[.ref x]) (_:RdAt cc cw H x b p ss ns TI tr s) (_:∀(y p':Addr) (H':Hp),L2.Same H H'->RdAt cc cw H' y b p' ss ns TI tr s->Q (.ref y) H')
inductive spNch(cc:Nat->Addr)(cw:Addr)(vs:List V)(H:Hp)(Q:VK)(E:XK):Prop|mk (k x b p:Addr) (ss:LS) (ns:LN) (TI:List (Nat×Nat)) (tr:LN) (s:Nat) (_:vs=[.ref k,.ref x]) (_:RdAt cc cw H x b p ss ns TI tr s) (_:∀ H',L2.Same H H'->Q ((qH ss (nbI (lfI TI tr) ss.length s)).head?.getD .non) H')
inductive spKcO(cc:Nat->Addr)(cw:Addr)(vs:List V)(H:Hp)(u2_:VK)(E:XK):Prop|mk (k x b p:Addr) (ss:LS) (ns:LN) (TI:List (Nat×Nat)) (tr:LN) (s:Nat) (_:vs=[.ref k,.ref x]) (_:RdAt cc cw H x b p ss ns TI tr s) (_:qdn ((lfI TI tr).map (nmP ss))) (_:OddE cc H ((lfI TI tr).map (nmP ss)) ss E)
inductive spPl(cc:Nat->Addr)(vs:List V)(H:Hp)(Q:VK)(E:XK):Prop|mk (k:Addr) (i:Nat) (_:vs=[.ref k]) (_:(i=9\/i=10)) (_:IsP cc H k i) (_:Q .non H)
theorem ok_gon(F:Fun K "gone" "Walk.gone" qaK f fd)(T:Txt K mg cc cw):wqqj 1 f fd wa (spGon cc cw):=by
 show F.ok vi λ_ _ _ _ H vs Q E e h=>?_
 .obtain⟨x,b,p,ss,ns,tr,rfl,⟨dx,c,a,d⟩,q⟩:=h;show⟨_,(qe (qi (qX (qb2 (K:=K) rfl rfl) rfl T.b_list Xe (qa (qV (K:=K) rfl (pv 0) rfl) qb)))),?_⟩;apply .inl ⟨x,cc 8,dx,_,.ref p,rfl,c,T.pcl,T.pp,qaX,?_⟩;apply .inl ⟨p,_,rfl,.inl (SqL.of a),q⟩
theorem ok_ha1(F:Fun K "hand" "Walk.hand" qaL f fd)(T:Txt K mg cc cw):wqqj 1 f fd wa (spHa1 cc cw):=by
 show F.ok vk λ_ _ _ _ H vs Q E e h=>?_
 .obtain⟨x,b,p,ss,ns,tr,rfl,⟨dx,c,a,d⟩,g,q⟩:=h;show⟨_,(qe (qi (qM zJ (qM qcu (qk (j8 (K:=K) rfl) rfl T.b_len Yv (qa (qV (K:=K) rfl (pv 0) rfl) qb)) qh) qh))),?_⟩;apply .inl ⟨x,cc 8,dx,_,.ref p,rfl,c,T.pcl,T.pp,qaX,?_⟩;apply zK a ?_;rw[qI];apply vI (by decide) ?_;rw[show((tr.length:Int)-1) % 2=(((tr.length-1) % 2:Nat):Int) by lk];show q
theorem ok_end1(F:Fun K "ended" "Walk.ended" qad f fd)(T:Txt K mg cc cw)(g:wqqi 7 (cc 8) "moves" wa (spRm cc cw)):wqqj 8 f fd wa (spEnd cc cw):=by
 show F.ok U5 λ_ _ _ _ H vs Q E d h=>?_
 .obtain⟨x,b,p,ss,ns,TI,tr,z,rfl,R,q⟩:=h;obtain⟨dx,n,u,t⟩:=id R.pl;have m:=jw d;show⟨_,(qe (qi (qW (jo (K:=K) rfl m) (qz g (hmR d) (pv 0)) (qS qb) (qu _)))),?_⟩;apply⟨x,dx,_,rfl,n,jj,?_⟩;apply⟨x,b,p,ss,ns,TI,tr,z,rfl,R,λr H1 s l c=>?_⟩;apply⟨wqql,λe j=>?_⟩;have a:=qw (Sr H1) (o:=.lst []) j
  have key:Q (.bl (qH ss (nbI (lfI TI tr) ss.length z)).isEmpty) (upd H1 e (.lst [])):=by
   have i:(qH ss (nbI (lfI TI tr) ss.length z)).isEmpty=(nbI (lfI TI tr) ss.length z).isEmpty:=by cases nbI (lfI TI tr) ss.length z<;>rfl
   rw[i];show q _ (s.trans a)
  show qcP (a _ _ c) qc key
theorem ok_los1(F:Fun K "loser" "Walk.loser" qae f fd)(T:Txt K mg cc cw)(g:wqqi 8 (cc 8) "ended" wa (spEnd cc cw))(i:wqqi 1 (cc 8) "hand" wa (spHa1 cc cw)):wqqj 9 f fd wa (spLos cc cw):=by
 show F.ok U6 λ_ _ _ _ H vs Q E d h=>?_
 .obtain⟨x,b,p,ss,ns,TI,tr,z,rfl,R,a,q⟩:=h;obtain⟨dx,e,l,j⟩:=id R.pl;show⟨_,(qe (qi (qbs (qD (qz g (hmR d) (pv 0))) (qz i (hmR d) (pv 0)) qaP))),?_⟩;apply⟨x,dx,_,rfl,e,jj,?_⟩;apply⟨x,b,p,ss,ns,TI,tr,z,rfl,R,λH1 c=>?_⟩;rw[a];apply jv ?_;apply⟨x,dx,_,rfl,c _ _ e,jj,?_⟩;apply⟨x,b,p,ss,ns,tr,rfl,R.pl.same c,by cases tr with | nil=>cases R.last | cons=>simp,q _ c⟩
theorem ok_twn(F:Fun K "twin" "Road.twin" qaM f fd)(T:Txt K mg cc cw)(vm:wqqk 5 (cc 8) "Road" wqG (spWkI cc cw)):wqqj 7 f fd wa (spTwn cc cw):=by
 show F.ok Uh λ_ _ _ _ H vs Q E X h=>?_
 .obtain⟨x,b,p,ss,ns,TI,tr,z,rfl,R,q⟩:=h;have hu:=jw X;obtain⟨dx,D,W,U⟩:=id R.pl
  obtain⟨m,rest,rfl⟩:∃ m rest,tr=m::rest:=by
   cases tr with
   | nil=>cases R.last
   | cons a r=>show⟨a,r,rfl⟩
  show⟨_,(qd (qr (i:=1) Uh.nd rfl (yG rfl) (qbC vm (hmR X) (qa (qV (K:=K) rfl (pv 0) rfl) (qa (qA (qB (K:=K) rfl hu) (qV (K:=K) rfl (pv 0) rfl) qh (λ_ _=>rfl)) qb))))
 (qd (qaA (K:=K) rfl (pv 1) (qX (qb2 (K:=K) rfl rfl) rfl T.b_list Xe (qa (qV (K:=K) rfl (pv 0) rfl) qb)) rfl)
 (qe (qi (pv 1))))),?_⟩
  apply .inl ⟨x,cc 8,dx,_,.ref b,rfl,D,T.pcl,T.pb,qbe,?_⟩;apply .inl ⟨x,cc 8,dx,_,.ref p,rfl,D,T.pcl,T.pp,qaX,?_⟩;apply .inl (qch W (v:=.str (tn ss m)) (j7 (j:=0) rfl) ?_);ext;intro g d s y C;have N:L2.Same H (upd (upd H d (.own g)) g (.ins (cc 8) d [])):=qw (qw (Sr H) y) (by rw[qo C.symm];show s);have S:upd (upd H d (.own g)) g (.ins (cc 8) d []) g=some (.ins (cc 8) d []):=qc;generalize upd (upd H d (.own g)) g (.ins (cc 8) d [])=G at N S;show⟨g,d,b,m,ss,ns,rfl,S,U.same N,R.all m (yL ..),λp1 J Z aa B=>⟨rfl,?_⟩⟩;have O:L2.Same H J:=λc o e=>Z c o (λz=>by rw[z,s] at e;cases e) (N c o e);obtain⟨n,A,ab,_⟩:=B;apply .inl ⟨x,cc 8,dx,_,.ref p,rfl,O _ _ D,T.pcl,T.pp,qaX,?_⟩;apply .inl ⟨p,_,rfl,.inl (.of (O _ _ W)),λt l=>?_⟩;have L:=qw (Sr J) (o:=.lst (qH ss (m::rest))) l;have u:upd J t (.lst (qH ss (m::rest))) t=some (.lst (qH ss (m::rest))):=qc;generalize upd J t (.lst (qH ss (m::rest)))=Y at L u;ext;have I:=L _ _ A;have n2:t≠g:=λz=>by rw[z,A] at l;cases l
  show .inl ⟨g,cc 8,n,_,rfl,I,T.pcl,T.pp,xQ (yj (jJ _ _ _) (k8 (jJ _ _ _))) (by decide),?_⟩;rw[putF_path]
  have M:L2.Same H (upd Y g (.ins (cc 8) n (jF "path" (.ref t) (jF "board" (.ref b) [])))):=λc o e=>by
   have:c≠g:=λz=>by rw[z,s] at e;cases e
   rw[qo this];show L _ _ (O _ _ e)
  apply q g t _ M ⟨⟨n,qc,by rw[qo n2];show u,U.same M⟩,R.wt.same M,R.ok,R.len,R.all,R.last⟩
theorem ok_nch(F:Fun K "choose" "Nearest.choose" j4 f fd)(T:Txt K mg cc cw)(d:wqqi 7 (cc 8) "moves" wa (spRm cc cw))(j:wqqh 1 "first_of" wq5 spFo):wqqj 8 f fd wqqe (spNch cc cw):=by
 show F.ok Um λ_ _ _ _ H vs Q E c h=>?_
 .obtain⟨k,x,b,p,ss,ns,TI,tr,z,rfl,R,q⟩:=h;obtain⟨dx,g,m,l⟩:=id R.pl;show⟨_,(qe (qi (qm j (hmR c) qv (qa (qz d (hmR c) (pv 1)) qb)))),?_⟩;apply⟨x,dx,_,rfl,g,jj,?_⟩;apply⟨x,b,p,ss,ns,TI,tr,z,rfl,R,λr H1 i e a=>?_⟩;apply⟨r,_,rfl,a,q _ i⟩
theorem ok_kcO(F:Fun K "choose" "Keen.choose" zF f fd)(T:Txt K mg cc cw)(o:DefOk P w K mg base (CX1 P w) 12 "good_ties" wh (spRf cc cw))(n:wqqh 1 "first_of" wq5 spFo)(i:wqqi 9 (cc 8) "web_left" wa (spRwl cc cw))(q:wqqi 1 (cc 8) "stands_at" wa (spPsP cc cw))(g:wqqi 7 (cc 8) "moves" wa (spRm cc cw)):FnOk P w K mg base (CX1 P w) 13 f fd wqV (spKcO cc cw):=by
 show F.ok1 UW (λvs H Q E h=>?_) λ_ _ _ _ H vs Q E a h=>?_
 .cases h;subst_vars;rfl
 .obtain⟨k,x,b,p,ss,ns,TI,tr,st,rfl,R,c,l⟩:=h;obtain⟨dx,e,s,r⟩:=id R.pl;have m:=R.lt;show⟨_,(qe (qi (qm n (hmR a) qv (qa (qM (qaN (K:=K) rfl) (jc o (hmR a) qZ (qa (qz i (hmR a) (pv 1)) (qa (qz q (hmR a) (pv 1)) qb))) (qz g (hmR a) (pv 1))) qb)))),?_⟩;apply⟨x,dx,_,rfl,e,jj,?_⟩;apply⟨x,b,p,ss,ns,TI,tr,st,rfl,R,λy ms H1 d j=>?_⟩;apply⟨x,dx,_,rfl,d _ _ e,jj,?_⟩;apply⟨x,b,p,ss,ns,tr,st,rfl,R.pl.same d,R.last,?_⟩;apply⟨y,_,rfl,.inr ⟨ss,ms,_,_,st,rfl,qai m,j,c,l.later d⟩⟩
theorem ok_plP(F:Fun K "must_be_player" "must_be_player" j5 f fd)(T:Txt K mg cc cw):wqqj 1 f fd wqk (spPl cc):=by
 show F.ok Uo λ_ _ _ _ H vs Q E c h=>?_
 .obtain⟨k,i,rfl,a,⟨dx,b⟩,q⟩:=h;have d:=jw c;show⟨_,(qe (qG (qP (qD (qk (zi (K:=K) rfl) rfl T.b_isinstance Yi (qa (pv 0) (qa (qbW (v:=.ref (cc 11)) rfl T.m_Player rfl) qb))))) (qe jk) qt)),?_⟩;apply qaB (.inl (T.ety i a _ _ _ _ b)) rfl (T.eP i a) ?_;apply yr ?_;show q
theorem vM:FnScope wqk wqk (qf qbR):=fS
theorem UD:FnScope ["play","one","other","players","player"] wqqb (qf qdx):=fS
theorem Up:FnScope wqA wqA (qf j6):=fS
theorem UP:FnScope ["play","player","hand","moves","ways","move"] wq7 (qf qbS):=fS
theorem UQ:FnScope wqR wqR (qf zu):=fS
def tAlt(a b:TE):TE:=fun σ H Q=>a σ H Q\/b σ H Q
theorem pe_alt{X:Cx}{e:Expr}{d f:TE}(a:PE X e d)(b:PE X e f):PE X e (tAlt d f):=by
 delta PE at *
 show λc s σ H Q I h=>Or.elim h (a c s σ H Q I) (b c s σ H Q I)
def qh9:Sp:=λvs H Q _=>vs=[iv 1]/\Q (.bl true) H
inductive spMt(cc:Nat->Addr)(cw:Addr)(vs:List V)(H:Hp)(Q:VK)(E:XK):Prop|mk (x j k b p:Addr) (ss:LS) (ns:LN) (TI:List (Nat×Nat)) (s v:Nat) (L:LN) (_:vs=[.ref x,.ref j,.ref k]) (_:RdAt cc cw H x b p ss ns TI [s] s) (_:IsP cc H j 10) (_:IsP cc H k 9) (_:nbI TI ss.length s=v::L) (_:(∃ H0,L2.Same H0 H/\H0 p=none/\Wt cw H0 b ss ns (TI.map (nmP ss)))) (_:qdn ((lfI TI [s,v]).map (nmP ss))) (_:∀ H1,But p H H1->H1 p=some (.lst (qH ss [s,v]))->(nbI (lfI TI [s,v]) ss.length v=[]->Q (.int 0) H1)/\(nbI (lfI TI [s,v]) ss.length v≠[]->OddE cc H1 ((lfI TI [s,v]).map (nmP ss)) ss E))
def WoE(cc:Nat->Addr)(H:Hp)(ss:LS)(TI:List (Nat×Nat))(tr:LN)(s:Nat)(Q:VK)(E:XK):Prop:=qdn ((lfI TI tr).map (nmP ss))/\(nbI (lfI TI tr) ss.length s≠[]->OddE cc H ((lfI TI tr).map (nmP ss)) ss E)/\(nbI (lfI TI tr) ss.length s=[]->∀ v H',L2.Same H H'->Q v H')
theorem WoE.later{TI:List (Nat×Nat)}{Q:VK}(h:WoE cc H ss TI tr s Q E)(k:L2.Same H H1):WoE cc H1 ss TI tr s Q E:=⟨h.1,λe=>(h.2.1 e).later k,λe v H' t=>h.2.2 e v H' (k.trans t)⟩
inductive spWo(cc:Nat->Addr)(cw:Addr)(vs:List V)(H:Hp)(Q:VK)(E:XK):Prop|mk (x k b p:Addr) (ss:LS) (ns:LN) (TI:List (Nat×Nat)) (tr:LN) (s:Nat) (_:vs=[.ref x,.ref k,iv 1]) (_:RdAt cc cw H x b p ss ns TI tr s) (_:tr.length=2) (_:IsP cc H k 9) (_:WoE cc H ss TI tr s Q E)
inductive spAw(cc:Nat->Addr)(cw:Addr)(vs:List V)(H:Hp)(Q:VK)(E:XK):Prop|mk (x k b p:Addr) (ss:LS) (ns:LN) (TI:List (Nat×Nat)) (tr:LN) (s m:Nat) (_:vs=[.ref x,.ref k,iv 1,iv m,.int 10]) (_:RdAt cc cw H x b p ss ns TI tr s) (_:tr.length=2) (_:IsP cc H k 9) (_:(10<m->Rz cc H E (2,iv m))) (_:(m<=10->WoE cc H ss TI tr s Q E))
inductive spRa(cc:Nat->Addr)(cw:Addr)(vs:List V)(H:Hp)(Q:VK)(E:XK):Prop|mk (x k b p:Addr) (ss:LS) (ns:LN) (TI:List (Nat×Nat)) (tr:LN) (s:Nat) (_:vs=[.ref x,.ref k,iv 1]) (_:RdAt cc cw H x b p ss ns TI tr s) (_:tr.length=2) (_:IsP cc H k 9) (_:(10<(lfI TI tr).length->Rz cc H E (2,iv (lfI TI tr).length))) (_:((lfI TI tr).length<=10->WoE cc H ss TI tr s Q E))
theorem ok_hd1(F:Fun K "is_hand" "is_hand" qbR f fd)(b:wqqh 2 "is_within" wqL spIn):wqqj 3 f fd wqk qh9:=by
 show F.ok vM λ_ _ _ _ H vs Q E a h=>?_
 .obtain⟨rfl,q⟩:=h;show⟨_,(qe (qi (qm b (hmR a) qv (qa (pv 0) (qa qh (qa qh qb)))))),?_⟩;apply⟨1,1,rfl,by decide,q⟩
theorem ok_mt(F:Fun K "match" "match" qdx f fd)(T:Txt K mg cc cw)(K0:wqqh 1 "must_be_player" wqk (spPl cc))(ub:wqqi 8 (cc 8) "ended" wa (spEnd cc cw))(uk:wqqi 1 (cc 8) "hand" wa (spHa1 cc cw))(vW:wqqi 9 (cc 8) "go" wqd (spRgo cc cw))(UE:wqqi 8 (cc 10) "choose" wqqe (spNch cc cw))(K7:MethOk P w K mg base (CX1 P w) 13 (cc 9) "choose" wqV (spKcO cc cw))(uP:wqqi 9 (cc 8) "loser" wa (spLos cc cw)):FnOk P w K mg base (CX1 P w) 14 f fd wqqb (spMt cc cw):=by
 show F.ok1 UD (λvs H Q E h=>?_) λ_ _ _ _ H vs Q E q h=>?_
 .cases h;subst_vars;rfl
 .obtain⟨x,j,k,b,p,ss,ns,TI,st,v,L,rfl,R,hj,hk,hb,⟨H0,s0,W,W0⟩,U,qq⟩:=h;have hu:=jw q;show⟨_,(qd (qN (qm K0 (hmR q) qv (qa (pv 1) qb)))
 (qd (qN (qm K0 (hmR q) qv (qa (pv 2) qb)))
 (qd (qr (i:=3) UD.nd rfl (yG rfl) (ji (qa (pv 1) (qa (pv 2) qb))))
 (qd (qcf PassesOwn.leaving (qP (qD (qz ub (hmR q) (pv 0))))
 (qd (qr (i:=4) UD.nd rfl (yG rfl) (qA (qB (K:=K) rfl hu) (pv 3) (qz uk (hmR q) (pv 0)) (λ_ _=>rfl)))
 (qe (qN (qR vW (hmR q) (pv 0) (qa (pe_alt (qR UE (hmR q) (pv 4) (qa (pv 0) qb)) (qci K7 (hmR q) qZ (pv 4) (qa (pv 0) qb))) qb))))))
 (qe (qi (qM qcu qh (qz uP (hmR q) (pv 0))))))))),?_⟩
  apply⟨j,10,rfl,.inr rfl,hj,?_⟩;apply⟨k,9,rfl,.inl rfl,hk,?_⟩;apply⟨wqqn,λpt A=>?_⟩;have s1:=qw (Sr H) (o:=.tup [.ref j,.ref k]) A;have ep:upd H pt (.tup [.ref j,.ref k]) pt=some (.tup [.ref j,.ref k]):=qc;generalize upd H pt (.tup [.ref j,.ref k])=H1 at s1 ep;obtain⟨dx,Y,hp,hW⟩:=id R.pl;have I:∀{c o},H c=some o->(∀ xs,o≠.lst xs)->c≠p:=λe k z=>by rw[z,hp] at e;show k _ (yn e).symm
  obtain⟨M,t⟩:∃ M:Nat->L2.St->Hp->Prop,M=λm σ J=>∃ y4,σ=[some (.ref x),some (.ref j),some (.ref k),some (.ref pt),y4]/\((m=1/\L2.Same H1 J)\/(m=0/\But p H1 J/\J p=some (.lst (qH ss [st,v])))):=⟨_,rfl⟩;show⟨M,⟨1,by rw[t];show⟨_,rfl,.inl ⟨rfl,L2.Same.refl _⟩⟩⟩,λm σ J N=>?_⟩;rw[t] at N;obtain⟨y4,rfl,N⟩:=N;have hv:v∈nbI TI ss.length st:=by rw[hb];show yL
  have S:=((qdw R.ok).mp hv);have X:=(R.ok.adj S).2.1;rcases N with⟨rfl,sJ⟩ | ⟨rfl,bJ,y⟩
  .have d:=s1.trans sJ;have a:=d _ _ Y;apply⟨x,dx,_,rfl,a,jj,?_⟩;apply⟨x,b,p,ss,ns,TI,[st],st,rfl,R.same d,λJ2 s=>?_⟩;have r:=d.trans s;rw[qey,hb];apply qE (λ_=>⟨fun σ H'=>M 0 σ H',λab H' h=>⟨0,by decide,h⟩,?_⟩) λh=>absurd rfl h;apply⟨x,dx,_,rfl,s _ _ a,jj,?_⟩;apply⟨x,b,p,ss,ns,[st],rfl,R.pl.same r,yi 1,?_⟩;show .inl (qbU (s _ _ (sJ _ _ ep)) (v:=.ref j) rfl ?_);apply⟨x,dx,_,rfl,s _ _ a,jj,?_⟩;apply .inl ?_;ext;obtain⟨jd,O⟩:=id hj;show⟨j,jd,_,rfl,r _ _ O,rfl,?_⟩;apply⟨j,x,b,p,ss,ns,TI,[st],st,rfl,R.same r,λJ3 s4=>?_⟩;have aa:=r.trans s4;rw[qey,hb];apply⟨x,b,p,ss,ns,TI,[st],st,v,rfl,R.same aa,by rw[qey,hb];show yL,λJ4 b5 e5=>?_⟩;rw[t];show⟨_,rfl,.inr ⟨rfl,λc o cp hc=>b5 c o cp (s4 _ _ (s _ _ (sJ _ _ hc))),e5⟩⟩
  .have B:But p H J:=λc o cp hc=>bJ c o cp (s1 _ _ hc);have Z:x≠p:=I Y λxs=>nofun;have a:=B _ _ Z Y;have C:Wt cw J b ss ns (TI.map (nmP ss)):=W0.same λc o e=>B c o (λz=>by rw[z,W] at e;cases e) (s0 _ _ e);have R2:RdAt cc cw J x b p ss ns TI [st,v] v:=⟨⟨dx,a,y,C.web⟩,C,R.ok,(by show 2<=100;decide),λu hu=>(by rcases yF.mp hu with rfl | hu;show R.lt;rw[yw.mp hu];show X),rfl⟩;obtain⟨q1,q2⟩:=qq J B y;apply⟨x,dx,_,rfl,a,jj,?_⟩;apply⟨x,b,p,ss,ns,TI,[st,v],v,rfl,R2,λJ2 d=>?_⟩;have n:=d _ _ a;ext
   cases l:nbI (lfI TI [st,v]) ss.length v with
   | nil =>
    show yr ?_;apply⟨x,dx,_,rfl,n,jj,?_⟩;apply⟨x,b,p,ss,ns,TI,[st,v],v,rfl,R2.same d,l,λJ3 s=>?_⟩;apply(qq J3 (λc o cp hc=>s _ _ (d _ _ (B c o cp hc))) (s _ _ (d _ _ y))).1 l
   | cons g G =>
    show qE (λ_=>⟨λ_ _=>False,λab H' h=>h.elim,?_⟩) λh=>absurd rfl h;apply⟨x,dx,_,rfl,n,jj,?_⟩;apply⟨x,b,p,ss,ns,[st,v],rfl,R2.pl.same d,YV 1,?_⟩;show .inl (qbU (d _ _ (bJ _ _ (λz=>by rw[z,hp] at A;cases A) ep)) (v:=.ref k) rfl ?_);apply⟨x,dx,_,rfl,n,jj,?_⟩;apply .inr ?_;ext;obtain⟨kd,D⟩:=id hk;show⟨k,kd,_,rfl,d _ _ (B _ _ (I D λxs=>nofun) D),rfl,?_⟩;apply⟨k,x,b,p,ss,ns,TI,[st,v],v,rfl,R2.same d,U,(q2 (by rw[l];nofun)).later d⟩
theorem ok_wo(F:Fun K "ways_on" "ways_on" qbS f fd)(T:Txt K mg cc cw)(S:wqqi 8 (cc 8) "ended" wa (spEnd cc cw))(U:wqqi 1 (cc 8) "hand" wa (spHa1 cc cw))(O:wqqi 9 (cc 8) "loser" wa (spLos cc cw))(z:MethOk P w K mg base (CX1 P w) 13 (cc 9) "choose" wqV (spKcO cc cw))(A:wqqi 7 (cc 8) "moves" wa (spRm cc cw)):FnOk P w K mg base (CX1 P w) 14 f fd wq7 (spWo cc cw):=by
 show F.ok1 UP (λvs H Q E h=>?_) λ_ _ _ _ H vs Q E c h=>?_
 .cases h;subst_vars;rfl
 .obtain⟨x,k,b,p,ss,ns,TI,tr,st,rfl,R,L,C,n,B,D⟩:=h;have I:=jw c;obtain⟨dx,u,Y,X⟩:=id R.pl;show⟨_,(qd (qG (qD (qz S (hmR c) (pv 0))) (qe (qi (qS (qa (ji (qa (ji qb) (qa (qz O (hmR c) (pv 0)) qb))) qb)))) qt)
 (qd (qr (i:=3) UP.nd rfl (yG rfl) (qbs (qj (jo (K:=K) rfl I) (qz U (hmR c) (pv 0)) (pv 2) (qu _)) (qS (qa (qci z (hmR c) qZ (pv 1) (qa (pv 0) qb)) qb)) (qz A (hmR c) (pv 0))))
 jS)),?_⟩
  apply⟨x,dx,_,rfl,u,jj,?_⟩;apply⟨x,b,p,ss,ns,TI,tr,st,rfl,R,λH1 d=>?_⟩;have j:=d _ _ u;ext
  cases a:nbI (lfI TI tr) ss.length st with
  | nil =>
   show jv ?_;apply⟨wqql,λt e=>?_⟩;have s:=qw d (o:=.tup []) e;have l:=qw (Sr H1) (o:=.tup []) e _ _ j;generalize upd H1 t (.tup [])=H2 at s l;apply⟨x,dx,_,rfl,l,jj,?_⟩;apply⟨x,b,p,ss,ns,TI,tr,st,rfl,R.same s,a,λy M=>?_⟩;apply⟨wqqn,λN q=>?_⟩;have v:=qw (s.trans M) (o:=.tup [.ref t,iv ((tr.length-1) % 2)]) q;generalize upd y N (.tup [.ref t,iv ((tr.length-1) % 2)])=W at v;apply⟨wqqm,λZ r=>?_⟩;apply D a _ _ (qw v r)
  | cons g G =>
   show yr ?_;apply⟨x,dx,_,rfl,j,jj,?_⟩;apply⟨x,b,p,ss,ns,tr,rfl,R.pl.same d,by lk,?_⟩;rw[L];apply qaT ?_;apply qE (λ_=>?_) λh=>absurd rfl h;ext;obtain⟨J,m⟩:=id C;show⟨k,J,_,rfl,d _ _ m,rfl,?_⟩;apply⟨k,x,b,p,ss,ns,TI,tr,st,rfl,R.same d,n,(B (by rw[a];nofun)).later d⟩
theorem ok_aw(F:Fun K "answers_within" "answers_within" j6 f fd)(T:Txt K mg cc cw)(g:wqqh 1 "must_be_player" wqk (spPl cc))(r:wqqh 3 "is_hand" wqk qh9)(s:XMakeOk P w K mg base 2 (cc 2) "TooMany" wq2 (spX (cc 2) (qec 2)))(t:DefOk P w K mg base (CX1 P w) 14 "ways_on" wq7 (spWo cc cw))(u:wqqi 7 (cc 8) "twin" wa (spTwn cc cw)):FnOk P w K mg base (CX1 P w) 15 f fd wqA (spAw cc cw):=by
 show F.ok1 Up (λvs H Q E h=>?_) λ_ _ _ _ H vs Q E a h=>?_
 .cases h;subst_vars;rfl
 .obtain⟨x,k,b,p,ss,ns,TI,tr,st,m,rfl,R,o,d,l,hw⟩:=h;have B:=jw a;obtain⟨dx,j,A,v⟩:=id R.pl;show⟨_,(qd (qN (qm g (hmR a) qv (qa (pv 1) qb)))
 (qd (qG (qP (qD (qm r (hmR a) qv (qa (pv 2) qb)))) (qe jk) qt)
 (qd (qG (qj qdI (pv 3) (pv 4) (qu _)) (qe (qei (K:=K) rfl qZ (qhx s (hmR a) (qa (pv 3) qb)))) qt)
 (qe (qi (jc t (hmR a) qZ (qa (qz u (hmR a) (pv 0)) (qa (pv 1) (qa (pv 2) qb))))))))),?_⟩
  apply⟨k,9,rfl,.inl rfl,d,?_⟩;apply⟨rfl,?_⟩;apply yr ?_;apply qE (λh=>?_) λh=>?_
  .have h:10<m:=by have:=yl h;lk
   apply qb4 (T.xat 2 (by decide)) (l h)
  .have h:m<=10:=XI λz=>h (yx (by lk));apply⟨x,dx,_,rfl,j,jj,?_⟩;apply⟨x,b,p,ss,ns,TI,tr,st,rfl,R,λy q H1 e i=>?_⟩;ext;obtain⟨n,c⟩:=id d;show⟨y,k,b,q,ss,ns,TI,tr,st,rfl,i,o,⟨n,e _ _ c⟩,(hw h).later e⟩
theorem ok_ra1(F:Fun K "road_answers" "road_answers" zu f fd)(T:Txt K mg cc cw)(i:DefOk P w K mg base (CX1 P w) 15 "answers_within" wqA (spAw cc cw))(r:wqqi 8 (cc 8) "ties_left" wa (spTLf cc cw)):FnOk P w K mg base (CX1 P w) 16 f fd wqR (spRa cc cw):=by
 show F.ok1 UQ (λvs H Q E h=>?_) λ_ _ _ _ H vs Q E g h=>?_
 .cases h;subst_vars;rfl
 .obtain⟨x,k,b,p,ss,ns,TI,tr,st,rfl,R,q,j,n,hw⟩:=h;obtain⟨dx,m,t,s⟩:=id R.pl;show⟨_,(qe (qi (jc i (hmR g) qZ (qa (pv 0) (qa (pv 1) (qa (pv 2) (qa (qk (j8 (K:=K) rfl) rfl T.b_len Yv (qa (qz r (hmR g) (pv 0)) qb)) (qa (qaz rfl T.g_MOST_TIES_LEFT) qb)))))))),?_⟩;apply⟨x,dx,_,rfl,m,jj,?_⟩;apply⟨x,b,p,ss,ns,TI,tr,st,rfl,R,λl ts tps H1 c a e=>?_⟩;apply zK a.1 ?_;rw[ya,a.2.len,e.length_eq,ya];ext;obtain⟨o,d⟩:=id j;show⟨x,k,b,p,ss,ns,TI,tr,st,_,rfl,R.same c,q,⟨o,c _ _ d⟩,λh=>(n h).later c,λh=>(hw h).later c⟩
theorem Kz:FnScope wqj wqa (qf jE):=fS
theorem by_fin{C R:Hp->Prop}{G:Prop}(a:(∀ J,C J->R J)->G)(b:∀ J,C J->R J):G:=a b
theorem by_fin0{R G:Prop}(a:R->G)(b:R):G:=a b
theorem eqT_iT{q c:Nat×Nat}(l:H a=some (iT q))(hb:H b=some (iT c)):EqT K H 1 a b (decide (q=c)):=by
 have z:=EqT.tup (K:=K) (H:=H) (n:=0) (e:=λj=>if j=0 then eqV (iv q.1) (iv c.1) else eqV (iv q.2) (iv c.2)) (.of l) (.of hb) λj x y d f=>by
  match j,d,f with
  | 0,d,f=>cases d;cases f;show .flat rfl rfl
  | 1,d,f=>cases d;cases f;show .flat rfl rfl
  | n+2,d,f=>simp at d
 have e:∀ i j:Nat,eqV (iv i) (iv j)=decide (i=j):=λi j=>by
  have:=zl (i:Int) (j:Int);rw[yE (by decide)] at this;rw[this];show yY.mpr (by lk)
 have g:((List.range (min [V.int q.1,V.int q.2].length [V.int c.1,V.int c.2].length)).all (λj=>if j=0 then eqV (iv q.1) (iv c.1) else eqV (iv q.2) (iv c.2))&&[V.int q.1,V.int q.2].length==[V.int c.1,V.int c.2].length)=decide (q=c):=by
  show((if (0:Nat)=0 then eqV (iv q.1) (iv c.1) else eqV (iv q.2) (iv c.2))&&((if (1:Nat)=0 then eqV (iv q.1) (iv c.1) else eqV (iv q.2) (iv c.2))&&true)&&true)=_;rw[yH rfl,yE (by decide),e,e,kr,kr,yT,Yl,yC,yC,yC];show⟨λh=>XV h.1 h.2,λh=>by rw[h];show⟨rfl,rfl⟩⟩
 rwa[g] at z
theorem qdy(d:H a=some (.lst (qH ss L)))(hb:H b=some (.lst (qH ss L))):EqT K H 1 a b true:=by
 have z:=EqT.lst (K:=K) (H:=H) (n:=0) (e:=λ_=>true) (SqL.of d) (SqL.of hb) rfl λj x y h1 c=>by
  rw[h1] at c;cases c;obtain⟨v,_,rfl⟩:=jR h1;have z:=EqD.flat (K:=K) (H:=H) (n:=0) (x:=.str (tn ss v)) (y:=.str (tn ss v)) rfl rfl
  rwa[qbq,yx rfl] at z
 rwa[qbK] at z
theorem qfc{TI:List (Nat×Nat)}(h:¬ qip TI):qdn (TI.map (nmP ss)):=λ⟨c,hc⟩=>h ⟨λi=>c (tn ss i),λ_ _ k=>hc _ _ (qhk k)⟩
theorem nbI_inc(TI:List (Nat×Nat))(n s:Nat):(nbI TI n s).Pairwise (· < ·):=xo.filter _
theorem nb_sorted{TI:List (Nat×Nat)}(c:TIok n TI)(f:ms.Perm ((bsN TI s).map λ(v:Nat)=>(v:Int)))(g:ms.Pairwise (·<=·)):ms=(nbI TI n s).map λ(v:Nat)=>(v:Int):=by
 obtain⟨M,rfl,e,i⟩:=qdr f g
 congr 1
 show qa9 (· < ·) (λa=>Yp a) (λa b h k=>Kg h k) _ _ ?_ (nbI_inc TI n s) λu=>?_
 .have d:=(e.nodup_iff).mpr (qe5 c s);show(List.Pairwise.and i d).imp λ{a b} h=>Nat.lt_of_le_of_ne h.1 h.2
 .rw [e.mem_iff,zP c,qdw c]
theorem nb_empty{TI:List (Nat×Nat)}(a:TIok n TI):(ivs (bsN TI s)).isEmpty=(nbI TI n s).isEmpty:=by
 have e:bsN TI s=[]↔nbI TI n s=[]:=by
  rw[List.eq_nil_iff_forall_not_mem,List.eq_nil_iff_forall_not_mem];show forall_congr' λv=>by rw[zP a,qdw a]
 rw[yT,Xs,Xs,XS];show e
def fmT(s:Nat)(L:LN)(q:Nat×Nat):Bool:=L.isEmpty||!decide (q=(min s (L.headD 0),max s (L.headD 0)))
theorem fm_lf{TI:List (Nat×Nat)}:TI.filter (fmT s (v::L))=lfI TI [s,v]:=by
 unfold lfI;show xn λq _=>?_;show(false||!decide (q=(min s v,max s v)))=!decide (q∈[(min v s,max v s)]);rw[kX,Nat.min_comm,Nat.max_comm]
 congr 1
 show yY.mpr (by rw[yw])
def KeS(cp y c x a:Addr)(ss:LS)(b:Hp)(L:LN)(J:Hp):Prop:=L2.Same b J/\J y=some (.ins cp c (jF "path" (.ref a) (jF "board" (.ref x) [])))/\J a=some (.lst (qH ss L))
theorem KeS.on{y d c:Addr}{b a:Hp}(h:KeS cp y d x c ss b L J)(s:L2.Same J a):KeS cp y d x c ss b L a:=⟨h.1.trans s,s _ _ h.2.1,s _ _ h.2.2⟩
def KeE(cc:Nat->Addr)(y h x g:Addr)(ss:LS)(e:Hp)(T:List (Nat×Nat))(L:LN)(i:Nat)(f:Bool)(c:Value)(a:Option Addr)(H':Hp):Prop:=∃ b,a=some b/\KeS (cc 8) y h x g ss e L H'/\((c=.ref (cc 3)/\(i=1\/f=false)/\∃(d:Addr) (ring:LS),OddR (tA (T.map (nmP ss))) ss ring/\H' d=some (.lst (ring.map V.str))/\H' b=some (.xd [(qec 3,.ref d)]))\/(c=.ref (cc 2)/\i=2/\10<T.length/\H' b=some (.xd [(qec 2,iv T.length)])))
inductive spKr(cc:Nat->Addr)(cw:Addr)(vs:List V)(H:Hp)(Q:VK)(E:XK):Prop|mk (x n l:Addr) (ss:LS) (ns:LN) (ts:LI) (TI:List (Nat×Nat)) (s:Nat) (_:vs=[.ref x,.ref n,.ref l,iv s]) (_:Wt cw H x ss ns (TI.map (nmP ss))) (_:H n=some (.lst (ss.map V.str))) (_:IPL H l ts TI) (_:TIok ss.length TI) (_:s<ss.length) (_:∀ H',L2.Same H H'->Q (.bl true) H')
theorem ok_kr(F:Fun K "_law_keen_refused" "_law_keen_refused" jE f fd)(T:Txt K mg cc cw)(cj:W.mroIn K (cc 3) (.ref (cc 3))=some true)(ci:W.mroIn K (cc 2) (.ref (cc 2))=some true)(ch:W.mroIn K (cc 2) (.ref (cc 3))=some false)(KU:wqqh 1 "_law_beside" wqt spBeI)(uG:wqqh 3 "_law_two_sided" wqq spTw)(vm:wqqk 5 (cc 8) "Road" wqG (spWkI cc cw))(UB:wqqh 2 "_law_ring" wqw spRi)(vA:wqqi 1 (cc 8) "gone" wa (spGon cc cw))(Va:DefOk P w K mg base (CX1 P w) 14 "match" wqqb (spMt cc cw))(v0:MakeO K mg (cc 10) "Nearest")(vn:MakeO K mg (cc 9) "Keen")(K7:MethOk P w K mg base (CX1 P w) 13 (cc 9) "choose" wqV (spKcO cc cw))(UX:DefOk P w K mg base (CX1 P w) 16 "road_answers" wqR (spRa cc cw)):wqqj 17 f fd wqa (spKr cc cw):=by
 show F.ok Kz λ_ _ _ _ H vs Q E hr h=>?_
 .obtain⟨x,n,l,ss,ns,ts,TI,st,rfl,W,hN,hI,hT,hs,q⟩:=h;have hu:=jw hr;have hn:=W.wok.nd;have few:=W.wok.few;have af:=hT.few;show⟨_,(qd (qr (i:=4) Kz.nd rfl (xK rfl) (qk (qdj (K:=K) rfl) rfl T.b_sorted boot_sorted (qa (qm KU (hmR hr) qv (qa (pv 2) (qa (pv 3) qb))) qb)))
 (qd (qay (sc:=qf jE) (XN:=wqj) wq1 1 [4,3] rfl rfl rfl (by room) rfl (by room) (i:=5) Kz.nd rfl rfl
  (qL (K:=K) rfl (pv 2)) (λ_ _ _ _=>(qp (i:=0) (show(wq1:LS).Nodup by room) rfl (yG rfl))) qF
  (λ_ _ _ _=>(qJ (PW.pt (zI (qj (jo (K:=K) rfl hu) (pv 1) (qS qb) (qu _)) (za (qj (zT (K:=K) rfl hu) (pv 0) (ji (qa (qk (call_min2 rfl) rfl T.b_min boot_min (qa (pv 2) (qa (qA (qB (K:=K) rfl hu) (pv 1) qh (λ_ _=>rfl)) qb))) (qa (qk (call_max2 rfl) rfl T.b_max boot_max (qa (pv 2) (qa (qA (qB (K:=K) rfl hu) (pv 1) qh (λ_ _=>rfl)) qb))) qb))) (qu _)))))))
  (λ_ _ _ _=>(pv 0)))
 (qd (qG (PW.pt (zI (qj (jo (K:=K) rfl hu) (pv 4) (qS qb) (qu _)) (za (qD (qm uG (hmR hr) qv (qa (pv 1) (qa (pv 5) qb))))))) (qe (qi jy)) qt)
 (qd (qr (i:=6) Kz.nd rfl (yG rfl) (qbC vm (hmR hr) (qa (pv 0) (qa (qA (qB (K:=K) rfl hu) (pv 1) (pv 3) (λ_ _=>rfl)) qb))))
 (qd (qr (i:=7) Kz.nd rfl (yG rfl) (qW (jo (K:=K) rfl hu) (qm KU (hmR hr) qv (qa (pv 5) (qa (qA (qB (K:=K) rfl hu) (pv 4) qh (λ_ _=>rfl)) qb))) (qS qb) (qu _)))
 (qd (jq yX rfl (jz rfl T.b_range (qa qh qb)) (qp (i:=8) Kz.nd rfl (yG rfl))
 (qd (qr (i:=9) Kz.nd rfl (yG rfl) qaP)
 (qd (qfN rfl rfl rfl qt)
 (qd (qr (i:=11) Kz.nd rfl (yG rfl) (qhM (qW (jo (K:=K) rfl hu) (pv 8) qh (qu _)) (zU (qdC (pv 7)))))
 (qe (qG (PW.pt (zI (qj (zT (K:=K) rfl hu) (pv 11) (qm UB (hmR hr) qv (qa (pv 1) (qa (pv 5) (qa (pv 9) qb)))) (qu _)) (za (qj (zT (K:=K) rfl hu) (qz vA (hmR hr) (pv 6)) (qS (qa (qA (qB (K:=K) rfl hu) (pv 1) (pv 3) (λ_ _=>rfl)) (qa (qA (qB (K:=K) rfl hu) (pv 1) (qA (qB (K:=K) rfl hu) (pv 4) qh (λ_ _=>rfl)) (λ_ _=>rfl)) qb))) (qu _))))) (qe (qi jy)) qt))))))
 (qe (qi jy)))))))),?_⟩
  apply⟨l,ts,TI,st,ss.length,rfl,hI,hT,λb H1 s1 cq hb=>?_⟩;apply⟨b,(bsN TI st).map λ(v:Nat)=>(v:Int),rfl,.of (by rw[YE];show hb),by rw[ya];have:=qeu hT st;lk,λr ms bz bu cb=>?_⟩;rw[nb_sorted hT bu cb];obtain⟨L,hL⟩:∃ L,nbI TI ss.length st=L:=⟨_,rfl⟩;rw[hL];have s2:=qw s1 (o:=.lst (ivs L)) bz;have er:upd H1 r (.lst (ivs L)) r=some (.lst (ivs L)):=qc;have bg:upd H1 r (.lst ((L.map λ(v:Nat)=>(v:Int)).map V.int))=upd H1 r (.lst (ivs L)):=by rw[YE];rfl
  rw[bg];generalize upd H1 r (.lst (ivs L))=H2 at s2 er;have ag:=hI.same s2;apply .inl ⟨⟨_,.of ag.1⟩,qx (xs:=ts.map V.ref) (λk ys J=>L2.Same H2 J/\∃ us:LI,ys=us.map V.ref/\All2 (λt q=>H2 t=some (iT q)) us ((TI.take k).filter (fmT st L))) ⟨L2.Same.refl H2,[],rfl,.nil⟩ (λk ys J _ N=>.of (N.1 _ _ ag.1)) (λk y ys J hx N=>?_) λys J N=>?_⟩
  .obtain⟨sJ,us,rfl,g⟩:=N;rw[ye] at hx;obtain⟨t,ht,rfl⟩:=yo.mp hx;have hk:k<TI.length:=by rw[<- hI.2.len];show(yc.mp ht).1
   obtain⟨p,N⟩:∃ p,TI[k]?=some p:=⟨_,yb hk⟩;have bc:=ag.2.at_ k t p ht N
   have ul:us.length<=k:=by
    rw[g.len];show yj (yy _ _) (by rw[yM];lk)
   rw[yI,N,yZ]
   have bf:∀ B,L2.Same H2 B->fmT st L p=true->(us.map V.ref).length<sizeLine/\L2.Same H2 B/\∃ be:LI,us.map V.ref++[V.ref t]=be.map V.ref/\All2 (λt q=>H2 t=some (iT q)) be ((TI.take k).filter (fmT st L)++(some p).toList.filter (fmT st L)):=λB s' e=>by
    show⟨by rw[ya];show qg (by lk),s',us++[t],by rw[yu];rfl,?_⟩;rw[show(some p).toList.filter (fmT st L)=[p] by show [p].filter _=_;rw[yR,yH e];rfl];show g.snoc bc
   apply⟨wqql,λe G=>?_⟩;have s3:=qw sJ (o:=.lst []) G;have ee:upd J e (.lst []) e=some (.lst []):=qc;generalize upd J e (.lst [])=J3 at s3 ee;show qcP (s3 _ _ er) ee ?_;ext
   cases L with
   | nil =>
    show jv ?_;show jv ?_;apply bf _ s3 rfl
   | cons v L' =>
    show yr ?_;apply .inl (qch (s3 _ _ er) (v:=iv v) (j7 (j:=0) rfl) ?_);show⟨_,_,rfl,?_⟩;apply .inl (qch (s3 _ _ er) (v:=iv v) (j7 (j:=0) rfl) ?_);show⟨_,_,rfl,?_⟩;rw[show(if (v:Int)<(st:Int) then(v:Int) else(st:Int))=((min st v:Nat):Int) by split<;>lk,show(if (v:Int)>(st:Int) then(v:Int) else(st:Int))=((max st v:Nat):Int) by split<;>lk];apply⟨wqqn,λtp bd=>?_⟩;have s4:=qw s3 (o:=iT (min st v,max st v)) bd;have e4:upd J3 tp (iT (min st v,max st v)) tp=some (iT (min st v,max st v)):=qc;generalize upd J3 tp (iT (min st v,max st v))=J4 at s4 e4;show .inr (.inl ⟨t,tp,_,1,rfl,rfl,by decide,eqT_iT (s4 _ _ bc) e4,?_⟩);ext
    cases hc:decide (p=(min st v,max st v)) with
    | false =>
     show jv ?_;apply bf _ s4 (by show(false||!decide (p=(min st v,max st v)))=true;rw[hc];rfl)
    | true =>
     show yr ?_;show⟨s4,us,rfl,?_⟩;rw[show(some p).toList.filter (fmT st (v::L'))=[] by show [p].filter _=_;rw[yR,yE (by show ¬ (false||!decide (p=(min st v,max st v)))=true;rw[hc];decide)];rfl,Yb];show g
  .obtain⟨sJ,us,rfl,g⟩:=N;rw[show(ts.map V.ref).length=TI.length by rw[ya,hI.2.len],yD] at g;have ul:us.length<=30:=by rw[g.len];show yj (yy _ _) af
   show⟨by rw[ya];show yN (qg (by lk)),λO ca=>?_⟩;have s3:=qw sJ (o:=.lst (us.map V.ref)) ca;have e3:upd J O (.lst (us.map V.ref)) O=some (.lst (us.map V.ref)):=qc;generalize upd J O (.lst (us.map V.ref))=J3 at s3 e3;apply⟨wqql,λe G=>?_⟩;have s4:=qw s3 (o:=.lst []) G;have ee:upd J3 e (.lst []) e=some (.lst []):=qc;have ar:=qw (Sr J3) (o:=.lst []) G _ _ e3;generalize upd J3 e (.lst [])=J4 at s4 ee ar;show qcP (s4 _ _ er) ee ?_;ext;have ab:=s2.trans s4
   cases L with
   | nil =>
    show jv ?_;show jv ?_;apply q _ ab
   | cons v L' =>
    show yr ?_;rw[fm_lf] at g;have hR:TIok ss.length (lfI TI [st,v]):=qfb hT _;have aw:IPL J4 O us (lfI TI [st,v]):=⟨ar,g.mono λ_ _ z=>s4 _ _ z⟩;apply⟨n,O,ss,us,_,rfl,ab _ _ hN,aw,hR,few,λbt D s5 bj=>?_⟩;ext
    cases bt with
    | true =>
     show jv ?_;apply q _ (ab.trans s5)
    | false =>
     show yr ?_;have an:qdn ((lfI TI [st,v]).map (nmP ss)):=qfc λz=>by have:=bj.mpr z;cases this
     have m:=ab.trans s5;apply qbg (m _ _ hN) hs ?_;ext;intro y dx hy bn br;have t2:=qw (qw (Sr D) (o:=.own y) bn) (o:=.ins (cc 8) dx []) (show upd D dx (.own y) y=none by rw[qo (Yw br)];show hy);have ey:upd (upd D dx (.own y)) y (.ins (cc 8) dx []) y=some (.ins (cc 8) dx []):=qc;generalize upd (upd D dx (.own y)) y (.ins (cc 8) dx [])=J6 at t2 ey;show⟨y,dx,x,st,ss,ns,rfl,ey,(W.same (m.trans t2)).web,hs,λA J7 b7 bv hP=>⟨rfl,?_⟩⟩
     have t7:L2.Same D J7:=λc o e=>by
      have cy:c≠y:=λz=>by rw[z,hy] at e;cases e
      show b7 c o cy (t2 _ _ e)
     have bb:D A=none:=t2.free bv;obtain⟨yd,cf,bw,_⟩:=hP;have ae:=s5 _ _ (s4 _ _ er);have S:=aw.same s5;have M:=m _ _ hN;apply .inl (qch (t7 _ _ ae) (v:=iv v) (j7 (j:=0) rfl) ?_);apply⟨O,us,lfI TI [st,v],v,ss.length,rfl,S.same t7,hR,λb2 J8 t8 cn bh=>?_⟩;apply⟨wqql,λe2 ay=>?_⟩;have t9:=qw t8 (o:=.lst []) ay;have au:upd J8 e2 (.lst []) e2=some (.lst []):=qc;have as:=qw (Sr J8) (o:=.lst []) ay _ _ bh;generalize upd J8 e2 (.lst [])=J9 at t9 au as;show qcP as au ?_;rw[nb_empty hR];obtain⟨s,az⟩:∃ s,(nbI (lfI TI [st,v]) ss.length v).isEmpty=s:=⟨_,rfl⟩;rw[az];apply⟨3,rfl,by decide,by decide,?_⟩;show jI (lo:=0) (n:=3) (λi σ J=>KeS (cc 8) y yd x A ss D (if i=0 then [st] else [st,v]) J/\∃ y8 y9 aa,σ=[some (.ref x),some (.ref n),some (.ref l),some (iv st),some (.ref r),some (.ref O),some (.ref y),some (.bl s),y8,y9,none,aa]) ⟨⟨t7.trans t9,t9 _ _ cf,t9 _ _ bw⟩,_,_,_,rfl⟩ (λi σ J hi N=>?_) fun σ J N=>?_
     .obtain⟨kJ,y8,y9,aa,rfl⟩:=N;rw[xN];ext;have cd:v∈nbI TI ss.length st:=by rw[hL];show yL
      have ap:=(hT.adj ((qdw hT).mp cd)).2.1;have R1:∀{B},KeS (cc 8) y yd x A ss D [st,v] B->RdAt cc cw B y x A ss ns TI [st,v] v:=λ{B} h=>⟨⟨yd,h.2.1,h.2.2,(W.same (m.trans h.1)).web⟩,W.same (m.trans h.1),hT,(by show 2<=100;decide),λu hu=>(by rcases yF.mp hu with rfl | hu;show hs;rw[yw.mp hu];show ap),rfl⟩;have X:nbI (lfI TI [st,v]) ss.length v=[]↔s=true:=by rw[<- az,Xs]
      have ac:nbI (lfI TI [st,v]) ss.length v≠[]->s=false:=λG=>by
       cases h:s with
       | true=>show absurd (X.mpr h) G
       | false=>rfl
      show⟨fun σ c ad H'=>KeE cc y yd x A ss D (lfI TI [st,v]) [st,v] i s c ad H'/\σ=[some (.ref x),some (.ref n),some (.ref l),some (iv st),some (.ref r),some (.ref O),some (.ref y),some (.bl s),some (iv i),some .non,none,aa],_,λpn xe qZ=>(qe (qG (qj (jo (K:=K) rfl hu) (pv 8) qh (qu _)) (qe (qN (jc Va (hmR hr) qZ (qa (pv 6) (qa (qcm v0) (qa (qcm vn) qb)))))) (qe (qG (qj (jo (K:=K) rfl hu) (pv 8) qh (qu _)) (qe (qN (qci K7 (hmR hr) qZ (qcm vn) (qa (pv 6) qb)))) (qe (qN (jc UX (hmR hr) qZ (qa (pv 6) (qa (qcm vn) (qa qh qb)))))))))),?_,λa C co cr H' hE ax=>?_⟩
      .apply by_fin (C:=λB=>KeS (cc 8) y yd x A ss D [st,v] B/\i≠1/\s=true)
       .intro R;have aq:∀{B},KeS (cc 8) y yd x A ss D [st,v] B->(i=1\/s=false)->OddE cc B ((lfI TI [st,v]).map (nmP ss)) ss (λc ad H'=>KeE cc y yd x A ss D (lfI TI [st,v]) [st,v] i s c ad H'/\[some (V.ref x),some (.ref n),some (.ref l),some (iv st),some (.ref r),some (.ref O),some (.ref y),some (.bl s),some (iv i),some .non,none,aa]=[some (V.ref x),some (.ref n),some (.ref l),some (iv st),some (.ref r),some (.ref O),some (.ref y),some (.bl s),some (iv i),some .non,none,aa]):=λ{B} h am rr dy ring H' cm ah _ ao U=>⟨⟨dy,rfl,h.on cm,.inl ⟨rfl,am,rr,ring,ah,ao,U⟩⟩,rfl⟩;apply qaT ?_;apply qE (λh0=>?_) λh0=>?_
        .have al:i=0:=by have:=yl h0;lk
         rw[yH al] at kJ;ext;intro j jx hj bq bp;have u1:=qw (qw (Sr J) (o:=.own j) bq) (o:=.ins (cc 10) jx []) (show upd J jx (.own j) j=none by rw[qo (Yw bp)];show hj);have ej:upd (upd J jx (.own j)) j (.ins (cc 10) jx []) j=some (.ins (cc 10) jx []):=qc;generalize upd (upd J jx (.own j)) j (.ins (cc 10) jx [])=K1 at u1 ej;ext;intro k d hk Z Y;have u2:=qw (qw (Sr K1) (o:=.own k) Z) (o:=.ins (cc 9) d []) (show upd K1 d (.own k) k=none by rw[qo (Yw Y)];show hk);have ek:upd (upd K1 d (.own k)) k (.ins (cc 9) d []) k=some (.ins (cc 9) d []):=qc;generalize upd (upd K1 d (.own k)) k (.ins (cc 9) d [])=K2 at u2 ek;have I:=kJ.on (u1.trans u2);show⟨y,j,k,x,A,ss,ns,TI,st,v,L',rfl,⟨⟨yd,I.2.1,I.2.2,(W.same (m.trans I.1)).web⟩,W.same (m.trans I.1),hT,(by show 1<=100;decide),λu hu=>(by rw[yw.mp hu];show hs),rfl⟩,⟨jx,u2 _ _ ej⟩,⟨d,ek⟩,hL,⟨D,I.1,bb,W.same m⟩,an,λK3 b3 e3=>?_⟩;have ck:y≠A:=λz=>by have:=I.2.1;rw[z,I.2.2] at this;cases this
         have k3:KeS (cc 8) y yd x A ss D [st,v] K3:=⟨λc o e=>b3 c o (λz=>by rw[z,bb] at e;cases e) (I.1 _ _ e),b3 _ _ ck I.2.1,e3⟩;show⟨λG=>?_,λG=>aq k3 (.inr (ac G))⟩;apply R _ ⟨k3,by lk,X.mp G⟩
        .have al:i≠0:=λz=>h0 (by rw[z];rfl);rw[yE al] at kJ;apply qaT ?_;apply qE (λh1=>?_) λh1=>?_
         .have ba:i=1:=by have:=yl h1;lk
          ext;intro k d hk Z Y;have u2:=qw (qw (Sr J) (o:=.own k) Z) (o:=.ins (cc 9) d []) (show upd J d (.own k) k=none by rw[qo (Yw Y)];show hk);have ek:upd (upd J d (.own k)) k (.ins (cc 9) d []) k=some (.ins (cc 9) d []):=qc;generalize upd (upd J d (.own k)) k (.ins (cc 9) d [])=K2 at u2 ek;show⟨k,d,_,rfl,ek,rfl,?_⟩;apply⟨k,y,x,A,ss,ns,TI,[st,v],v,rfl,R1 (kJ.on u2),an,aq (kJ.on u2) (.inl ba)⟩
         .have bo:i=2:=by have:i≠1:=λz=>h1 (by rw[z];rfl);lk
          ext;intro k d hk Z Y;have u2:=qw (qw (Sr J) (o:=.own k) Z) (o:=.ins (cc 9) d []) (show upd J d (.own k) k=none by rw[qo (Yw Y)];show hk);have ek:upd (upd J d (.own k)) k (.ins (cc 9) d []) k=some (.ins (cc 9) d []):=qc;generalize upd (upd J d (.own k)) k (.ins (cc 9) d [])=K2 at u2 ek;have I:=kJ.on u2;apply⟨y,k,x,A,ss,ns,TI,[st,v],v,rfl,R1 I,rfl,⟨d,ek⟩,λav dy H' s' ce=>⟨⟨dy,rfl,I.on s',.inr ⟨rfl,bo,av,ce⟩⟩,rfl⟩,λ_=>⟨an,λG=>aq I (.inr (ac G)),λG u H' s'=>?_⟩⟩;apply R _ ⟨I.on s',by lk,X.mp G⟩
       .rintro B ⟨cg,ba,rfl⟩;apply qaT ?_;rw[ym (show ¬ (i:Int)=1 by lk)];apply⟨_,rfl,?_⟩;ext;have KN:=cg;show⟨n,O,ss,us,lfI TI [st,v],.non,false,rfl,KN.1 _ _ M,hn,S.same KN.1,hR,few,.inl ⟨rfl,rfl⟩,λK4 z4=>?_⟩;have k4:=KN.on z4;show .inl ⟨rfl,rfl,?_⟩;apply yr ?_;apply⟨y,yd,_,rfl,k4.2.1,jj,?_⟩;apply⟨y,x,A,ss,ns,[st,v],rfl,(R1 k4).pl,λgl aj=>?_⟩;have z5:=qw (Sr K4) (o:=.lst (qH ss [st,v])) aj;have e5:upd K4 gl (.lst (qH ss [st,v])) gl=some (.lst (qH ss [st,v])):=qc;generalize upd K4 gl (.lst (qH ss [st,v]))=K5 at z5 e5;have k5:=k4.on z5;apply qbg (k5.1 _ _ M) hs ?_;apply .inl (qch (k5.1 _ _ ae) (v:=iv v) (j7 (j:=0) rfl) ?_);show qbg (k5.1 _ _ M) ap ?_;apply⟨wqqn,λgm ak=>?_⟩;have z6:=qw (Sr K5) (o:=.lst (qH ss [st,v])) ak;have e6:upd K5 gm (.lst (qH ss [st,v])) gm=some (.lst (qH ss [st,v])):=qc;show .inr (.inl ⟨gl,gm,true,1,rfl,rfl,by decide,qdy (z6 _ _ e5) e6,?_⟩);apply yr ?_;show⟨by rw[yE (Nat.succ_ne_zero i)];show k5.on z6,_,_,_,rfl⟩
      .obtain⟨⟨dy,rfl,k1,hE⟩,rfl⟩:=hE;show⟨_,(qgD (K:=K) rfl Kz.nd (i:=10) rfl rfl rfl T.m_Odd (qe (qr (i:=9) Kz.nd rfl (yG rfl) (qV (K:=K) rfl (pv 10) rfl))) (qgD (K:=K) rfl Kz.nd (i:=10) rfl rfl rfl T.m_TooMany (qe (qG (PW.pt (qb8 (qj (jo (K:=K) rfl hu) (pv 8) qh (qu _)) (qb8 (qj qdI (qk (j8 (K:=K) rfl) rfl T.b_len Yv (qa (pv 5) qb)) qh (qu _)) (qbj (qj (jo (K:=K) rfl hu) (qV (K:=K) rfl (pv 10) rfl) (qk (j8 (K:=K) rfl) rfl T.b_len Yv (qa (pv 5) qb)) (qu _)))))) (qe (qi jy)) qt)) (qhy (K:=K) rfl rfl T.m_OnceError (qe (qi jy)) qfM))),?_⟩;rcases hE with⟨hc,am,rr,ring,ah,ao,U⟩ | ⟨hc,rfl,av,U⟩
       .cases hc;show⟨true,cj,T.xat 3 (by decide),T.xat 3 (by decide),jv ?_⟩;apply .inr ⟨a,cc 3,dy,_,.ref rr,rfl,.inr ax,T.xat 3 (by decide),T.na 3 (by decide),U,rfl,?_⟩;apply qaT ?_;have bm:decide ((i:Int)=1)=false->s=false:=λai=>am.resolve_left λz=>of_decide_eq_false ai (by lk);apply by_fin0
        .intro R
         cases ai:decide ((i:Int)=1) with
         | false =>
          show⟨_,rfl,qE (λh=>by cases h) λ_=>?_⟩;ext;rw[show(!s)=true by rw[bm ai];rfl];show R
         | true =>
          show⟨_,rfl,jv ?_⟩;apply R
        .have KN:=k1;show⟨n,O,ss,us,lfI TI [st,v],.ref rr,true,rfl,KN.1 _ _ M,hn,S.same KN.1,hR,few,.inr ⟨rr,ring,rfl,ao,ah,rfl⟩,λK4 z4=>?_⟩;have k4:=KN.on z4;show .inl ⟨rfl,rfl,?_⟩;apply yr ?_;apply⟨y,yd,_,rfl,k4.2.1,jj,?_⟩;apply⟨y,x,A,ss,ns,[st,v],rfl,(R1 k4).pl,λgl aj=>?_⟩;have z5:=qw (Sr K4) (o:=.lst (qH ss [st,v])) aj;have e5:upd K4 gl (.lst (qH ss [st,v])) gl=some (.lst (qH ss [st,v])):=qc;generalize upd K4 gl (.lst (qH ss [st,v]))=K5 at z5 e5;have k5:=k4.on z5;apply qbg (k5.1 _ _ M) hs ?_;apply .inl (qch (k5.1 _ _ ae) (v:=iv v) (j7 (j:=0) rfl) ?_);show qbg (k5.1 _ _ M) ap ?_;apply⟨wqqn,λgm ak=>?_⟩;have z6:=qw (Sr K5) (o:=.lst (qH ss [st,v])) ak;have e6:upd K5 gm (.lst (qH ss [st,v])) gm=some (.lst (qH ss [st,v])):=qc;show .inr (.inl ⟨gl,gm,true,1,rfl,rfl,by decide,qdy (z6 _ _ e5) e6,?_⟩);apply yr ?_;show⟨by rw[yE (Nat.succ_ne_zero i)];show k5.on z6,_,_,_,rfl⟩
       .cases hc;show⟨false,ch,T.xat 3 (by decide),T.xat 2 (by decide),qE (λh=>by cases h) λ_=>?_⟩;show⟨true,ci,T.xat 2 (by decide),T.xat 2 (by decide),jv ?_⟩;apply qaT ?_;show⟨_,rfl,jv ?_⟩;apply zK (k1.1 _ _ S.1) ?_;rw[ya,g.len];ext;rw[yx (show(((lfI TI [st,v]).length:Nat):Int)>10 by lk)];show jv ?_;apply .inr ⟨a,cc 2,dy,_,iv (lfI TI [st,v]).length,rfl,.inr ax,T.xat 2 (by decide),T.na 2 (by decide),U,rfl,?_⟩;apply zK (k1.1 _ _ S.1) ?_;rw[ya,g.len];show qaT ?_;rw[yx rfl];apply jv ?_;apply q _ (m.trans k1.1)
     .obtain⟨kJ,_,_,_,rfl⟩:=N;apply q _ (m.trans kJ.1)
theorem uf:FnScope wqe wqa (qf qat):=fS
section
variable{TI:List (Nat×Nat)}{cl:Nat->Bool}{n s:Nat}{b:Bool}{L M:LN}
theorem TdL.nd(h:TdL TI cl n s b L):L.Nodup:=h.1.imp λh e=>by lk
theorem TdL.lt(h:TdL TI cl n s b L):∀ u∈L,u<n:=λu a=>(nr_mem.mp (h.2.1 u a)).1
theorem TdL.ev(l:TIok n TI)(j:∀ a b,adjI TI a b->cl b=!cl a)(m:s<n)(h:TdL TI cl n s b L)(d:M.Perm L):EvS TI cl n s M↔b=true:=by
 obtain⟨_,f,g,i,_⟩:=id h;have nd:=(d.nodup_iff).mpr h.nd
 cases b with
 | true =>
  have c:∀ v∈M,v∈nr TI cl n s (cl s):=λv hv=>by have:=f v (d.mem_iff.mp hv);rwa[show(cl s ^^ !true)=cl s from YJ _] at this
  rw[yH rfl,<- qds (d.map _)] at g;show⟨λ_=>rfl,λ_=>⟨nd,c,(qhm l j nd c).mp g,d.mem_iff.mpr (i rfl)⟩⟩
 | false =>
  show⟨λz=>?_,λz=>by cases z⟩;have:=(nr_mem.mp (f s (d.mem_iff.mp z.2.2.2))).2.2;cases e:cl s<;>rw[e] at this<;>cases this
theorem TdL.od(l:TIok n TI)(j:∀ a b,adjI TI a b->cl b=!cl a)(m:s<n)(h:TdL TI cl n s b L)(d:M.Perm L):OdS TI cl n s M↔b=false:=by
 obtain⟨_,g,f,i,_⟩:=id h;have nd:=(d.nodup_iff).mpr h.nd
 cases b with
 | true =>
  show⟨λz=>?_,λz=>by cases z⟩;have:=(nr_mem.mp (z.2.1 s (d.mem_iff.mpr (i rfl)))).2.2;cases e:cl s<;>rw[e] at this<;>cases this
 | false =>
  have c:∀ v∈M,v∈nr TI cl n s (!cl s):=λv hv=>by have:=g v (d.mem_iff.mp hv);rwa[show(cl s ^^ !false)=!cl s from XA _] at this
  rw[yE (by decide),<- qds (d.map _)] at f;show⟨λ_=>rfl,λ_=>⟨nd,c,(qhn l j m nd c).mp f⟩⟩
end
theorem names_in(f:ss.Nodup)(d:L.Pairwise (· < ·))(hl:∀ u∈L,u<ss.length):(ss.filter λz=>decide (z∈L.map (tn ss))).map V.str=qH ss L:=by
 rw[qge];unfold qH
 congr 2
 show qa9 (· < ·) (λa=>Yp a) (λa b h k=>Kg h k) _ _ (xo.filter _) d λu=>?_;rw[yq,Yd,yC,yJ];show⟨λ⟨h,z,c,e⟩=>by rw[<- jP f (hl z c) h e];show c,λh=>⟨hl u h,u,h,rfl⟩⟩
theorem vNeB{b:Bool}{Q:VK}(q:Q (.bl false) H):qg0 K true (.bl b) (.bl b) H Q:=.inl ⟨rfl,rfl,by cases b<;>show q⟩
theorem vEqB{b:Bool}{Q:VK}(q:Q (.bl false) H):qgF K (.bl b) (.bl !b) H Q:=.inl (.inl (.inl ⟨rfl,rfl,by cases b<;>show q⟩))
theorem qfd(h:EqT K H n a b true):EqD K H n (.ref a) (.ref b) true:=by
 by_cases e:a=b
 .subst e;show .self
 .show .deep h e
inductive spRgt(cw:Addr)(vs:List V)(H:Hp)(Q:VK)(E:XK):Prop|mk (x n l:Addr) (ss:LS) (ns:LN) (ts:LI) (TI:List (Nat×Nat)) (s:Nat) (cl:Nat->Bool) (_:vs=[.ref x,.ref n,.ref l,iv s]) (_:Wt cw H x ss ns (TI.map (nmP ss))) (_:H n=some (.lst (ss.map V.str))) (_:IPL H l ts TI) (_:TIok ss.length TI) (_:s<ss.length) (_:(∀ a b,adjI TI a b->cl b=!cl a)) (_:∀ H',L2.Same H H'->Q (.bl true) H')
theorem ok_rgt(F:Fun K "_law_right" "_law_right" qat f fd)(T:Txt K mg cc cw)(ue:wqqh 12 "told_set" wh (spTd cw))(vD:wqqh 4 "_law_is_even" wqg (spLeN false))(vN:wqqh 4 "_law_is_odd" wqg (spLeN true))(Uf:wqqh 11 "is_even" wqn (spIeN cw false))(Uz:wqqh 12 "is_odd" wqn (spIeN cw true)):wqqj 13 f fd wqa (spRgt cw):=by
 show F.ok uf λ_ _ _ _ H vs Q E hr h=>?_
 .obtain⟨x,n,l,ss,ns,ts,TI,st,cl,rfl,W,Y,hI,A,p,s,q⟩:=h;have a:=jw hr;have hn:=W.wok.nd;have few:=W.wok.few;show⟨_,(qd (qr (i:=4) uf.nd rfl (yG rfl) (qm ue (hmR hr) qv (qa (pv 0) (qa (qA (qB (K:=K) rfl a) (pv 1) (pv 3) (λ_ _=>rfl)) qb))))
 (qd (qG (PW.pt (zI (qP (qD (qk (zi (K:=K) rfl) rfl T.b_isinstance Yi (qa (pv 4) (qa (jh (v:=.ty "tuple") rfl T.b_tuple Xi rfl) qb))))) (zI (qj (zT (K:=K) rfl a) (qk (j8 (K:=K) rfl) rfl T.b_len Yv (qa (pv 4) qb)) qh (qu _)) (za (qj (k_notinT (K:=K) rfl a) (qA (qB (K:=K) rfl a) (pv 4) qh (λ_ _=>rfl)) (ji (qa zv (qa zv qb))) (by with_unfolding_all rfl)))))) (qe (qi jy)) qt)
 (qd (qr (i:=5) uf.nd rfl (xK rfl) (qA (qB (K:=K) rfl a) (pv 4) qh (λ_ _=>rfl)))
 (qd (qr (i:=6) uf.nd rfl (yG rfl) (qW (jo (K:=K) rfl a) (qA (qB (K:=K) rfl a) (pv 4) qh (λ_ _=>rfl)) zv (qu _)))
 (qd (qG (PW.pt (zI (qj (zT (K:=K) rfl a) (pv 6) (qm vD (hmR hr) qv (qa (pv 1) (qa (pv 2) (qa (pv 3) (qa (pv 5) qb))))) (qu _)) (za (qj (jo (K:=K) rfl a) (pv 6) (qm vN (hmR hr) qv (qa (pv 1) (qa (pv 2) (qa (pv 3) (qa (pv 5) qb))))) (qu _))))) (qe (qi jy)) qt)
 (qd (qG (qj (zT (K:=K) rfl a) (pv 5) (qK (sc:=qf qat) (XN:=wqe) ["_law_name","_law_some"] 1 [5] rfl rfl rfl (by room) rfl (by room)
  (qL (K:=K) rfl (pv 1)) (λ_ _ _ _=>(qp (i:=0) (show(["_law_name","_law_some"]:LS).Nodup by room) rfl (yG rfl))) qF
  (λ_ _ _ _=>(qJ (qj (qaO (K:=K) rfl a) (pv 0) (pv 1) (by with_unfolding_all rfl))))
  (λ_ _ _ _=>(pv 0))) (qu _)) (qe (qi jy)) qt)
 (qd (qr (i:=7) uf.nd rfl (yG rfl) (qS (qa (qm Uf (hmR hr) qv (qa (pv 0) (qa (qA (qB (K:=K) rfl a) (pv 1) (pv 3) (λ_ _=>rfl)) (qa (qeU (K:=K) rfl (pv 5) (qag (qfu qdG qh))) qb)))) (qa (qm Uz (hmR hr) qv (qa (pv 0) (qa (qA (qB (K:=K) rfl a) (pv 1) (pv 3) (λ_ _=>rfl)) (qa (qeU (K:=K) rfl (pv 5) (qag (qfu qdG qh))) qb)))) qb))))
 (qd (qG (PW.pt (zI (qj (zT (K:=K) rfl a) (pv 7) (qS (qa (pv 6) (qa (qdC (pv 6)) qb))) (qu _)) (za (qP (qD (qk (qdW (K:=K) rfl rfl) rfl T.b_all kM (qa (qK (sc:=qf qat) (XN:=wqe) ["_law_truth"] 1 [] rfl rfl rfl (by room) rfl (by room)
  (qL (K:=K) rfl (pv 7)) (λ_ _ _ _=>(qp (i:=0) (show(["_law_truth"]:LS).Nodup by room) rfl (yG rfl))) qF
  (λ_ _ _ _=>jl)
  (λ_ _ _ _=>(qk (zi (K:=K) rfl) rfl T.b_isinstance Yi (qa (pv 0) (qa (jh (v:=.ty "bool") rfl T.b_bool boot_bool rfl) qb))))) qb))))))) (qe (qi jy)) qt)
 (qd (qr (i:=8) uf.nd rfl (yG rfl) (qX (qb2 (K:=K) rfl rfl) rfl T.b_list Xe (qa (pv 5) qb)))
 (qd (qN (qeb (K:=K) rfl yV Ym Yn je (pv 5) (qa zv qb)))
 (qd (qN (qh0 (K:=K) rfl yV PySem.F.slot_list_reverse PySem.F.type_list_reverse mtR_reverse (pv 5)))
 (qe (qi (qW (jo (K:=K) rfl a) (qm ue (hmR hr) qv (qa (pv 0) (qa (qA (qB (K:=K) rfl a) (pv 1) (pv 3) (λ_ _=>rfl)) qb))) (ji (qa (qA (qB (K:=K) rfl a) (pv 4) qh (λ_ _=>rfl)) (qa (pv 8) qb))) (qu _))))))))))))))),?_⟩
  apply qbg Y p ?_;apply⟨x,ss,ns,TI,st,cl,rfl,W,A,p,s,λb d t L H1 s1 hb S bj ll g ht=>?_⟩;apply qaB (.inl (.tup ht)) rfl (jQ K "tuple" (by simp) "tuple" (by simp)) ?_;apply yr ?_;apply qhw ht ?_;apply qgK ?_;apply yr ?_;ext;obtain⟨m,O⟩:∃ m:Str,m=if b=true then("lost":Str) else("won":Str):=⟨_,rfl⟩;rw[<- O] at ht;show .inl (qbU ht (v:=.str m) rfl ?_);apply⟨wqqn,λtp ax=>?_⟩;have s2:=qw s1 (o:=.tup [.str "lost",.str "won"]) ax;have t2:=qw (Sr H1) (o:=.tup [.str "lost",.str "won"]) ax;have e2:upd H1 tp (.tup [.str "lost",.str "won"]) tp=some (.tup [.str "lost",.str "won"]):=qc;generalize upd H1 tp (.tup [.str "lost",.str "won"])=H2 at s2 t2 e2;show⟨tp,_,λz=>eqV z (.str m),0,rfl,.of e2,by decide,λz hz=>?_,?_⟩
  .rcases yF.mp hz with rfl | hz
   .show EqD.flat (K:=K) rfl rfl
   .rw [yw.mp hz];show EqD.flat (K:=K) rfl rfl
  have bf:List.any [V.str "lost",V.str "won"] (λz=>eqV z (.str m))=true:=by
   show(eqV (.str "lost") (.str m)||(eqV (.str "won") (.str m)||false))=true;rw[qbq,qbq,O];cases b<;>decide
  rw[bf];apply yr ?_;have ak:=t2 _ _ bj;have aa:=t2 _ _ ht;apply .inl (qbU aa (v:=.ref d) rfl ?_);apply .inl (qbU aa (v:=.str m) rfl ?_);apply qiM ?_;rw[show decide (m="lost")=b by rw[O];cases b<;>decide];ext;have N:=g.lt;show⟨n,l,d,ss,ts,TI,st,cl,L,rfl,s2 _ _ Y,hn,hI.same s2,A,few,p,s,⟨ak,g.nd,N⟩,λX H3 s3 c=>?_⟩;rw[yE (by decide)] at c;obtain rfl:b=X:=(yT.mpr (c.trans (g.ev A s p (.refl L)))).symm;show vNeB ?_;apply yr ?_;ext;have am:=s3 _ _ ak;have ac:=s2.trans s3;show⟨n,l,d,ss,ts,TI,st,cl,L,rfl,ac _ _ Y,hn,hI.same ac,A,few,p,s,⟨am,g.nd,N⟩,λX H4 s4 c=>?_⟩;rw[yH rfl] at c;obtain rfl:(!b)=X:=(yT.mpr (c.trans ((g.od A s p (.refl L)).trans (by cases b<;>simp)))).symm;show vEqB ?_;apply yr ?_;have Z:=s4 _ _ am;have bc:=ac.trans s4;have af:=bc _ _ Y;apply .inl ⟨⟨_,.of af⟩,qx (xs:=ss.map V.str) (λi ys J=>J=H4/\ys=((ss.take i).filter λz=>decide (z∈L.map (tn ss))).map V.str) ⟨rfl,rfl⟩ (λi ys J _ r=>by rw[r.1];show .of af) (λi y ys J hy r=>?_) λys J r=>?_⟩
  .obtain⟨rfl,rfl⟩:=r;rw[ye] at hy;obtain⟨z,hz,rfl⟩:=yo.mp hy;have bh:i<ss.length:=(yc.mp hz).1;have fl:=yy (λz=>decide (z∈L.map (tn ss))) (ss.take i);rw[yM] at fl;rw[yI,hz,yZ,yu];apply qbi (ss:=L.map (tn ss)) Z ?_;ext
   cases aj:decide (z∈L.map (tn ss)) with
   | true =>
    show jv ?_;apply⟨by rw[ya];show qg (by lk),rfl,?_⟩;rw[show(some z).toList.filter (λz=>decide (z∈L.map (tn ss)))=[z] by show [z].filter _=_;rw[yR,yH aj];rfl];rfl
   | false =>
    show yr ?_;show⟨rfl,?_⟩;rw[show(some z).toList.filter (λz=>decide (z∈L.map (tn ss)))=[] by show [z].filter _=_;rw[yR,yE (by rw[aj];decide)];rfl];simp
  .obtain⟨rfl,rfl⟩:=r;rw[show(ss.map V.str).length=ss.length from ya ..,yD,names_in hn g.1 N];show⟨by rw[qI];show yN (qg (by lk)),λc1 ai=>?_⟩;have s5:=qw bc (o:=.lst (qH ss L)) ai;have t5:=qw (Sr J) (o:=.lst (qH ss L)) ai;have e5:upd J c1 (.lst (qH ss L)) c1=some (.lst (qH ss L)):=qc;generalize upd J c1 (.lst (qH ss L))=H5 at s5 t5 e5;show .inr (.inl ⟨d,c1,true,1,rfl,rfl,by decide,qdy (t5 _ _ Z) e5,?_⟩);apply yr ?_;have an:=t5 _ _ Z;apply qbg (s5 _ _ Y) p ?_;apply qif ?_;apply vU ?_;ext;have ae:(qH ss L).reverse=qH ss L.reverse:=by unfold qH;rw[kn,kn]
   show⟨rfl,d,_,rfl,.of an,λr1 aq=>?_⟩;rw[ae];have s6:=qw s5 (o:=.lst (qH ss L.reverse)) aq;have t6:=qw (Sr H5) (o:=.lst (qH ss L.reverse)) aq;have e6:upd H5 r1 (.lst (qH ss L.reverse)) r1=some (.lst (qH ss L.reverse)):=qc;generalize upd H5 r1 (.lst (qH ss L.reverse))=H6 at s6 t6 e6;have az:L.reverse.Nodup:=((XD L).nodup_iff).mpr g.nd;have ay:∀ u∈L.reverse,u<ss.length:=λu a=>N u (Kc.mp a);apply⟨x,r1,ss,ns,TI,st,cl,L.reverse,rfl,W.same s6,A,⟨e6,az,ay⟩,p,s,λX H7 s7 c=>?_⟩;rw[yE (by decide)] at c;obtain rfl:b=X:=(yT.mpr (c.trans (g.ev A s p (XD L)))).symm;have bd:=s6.trans s7;have ao:=s7 _ _ (t6 _ _ an);apply qbg (bd _ _ Y) p ?_;apply qif ?_;apply vU ?_;apply⟨rfl,d,_,rfl,.of ao,λr2 ar=>?_⟩;rw[ae];have s8:=qw bd (o:=.lst (qH ss L.reverse)) ar;have t8:=qw (Sr H7) (o:=.lst (qH ss L.reverse)) ar;have e8:upd H7 r2 (.lst (qH ss L.reverse)) r2=some (.lst (qH ss L.reverse)):=qc;generalize upd H7 r2 (.lst (qH ss L.reverse))=H8 at s8 t8 e8;apply⟨x,r2,ss,ns,TI,st,cl,L.reverse,rfl,W.same s8,A,⟨e8,az,ay⟩,p,s,λX H9 s9 c=>?_⟩;rw[yH rfl] at c;obtain rfl:(!b)=X:=(yT.mpr (c.trans ((g.od A s p (XD L)).trans (by cases b<;>simp)))).symm;have bq:=s8.trans s9;have bm:=s9 _ _ (t8 _ _ ao);apply⟨wqqn,λtl av=>?_⟩;have sA:=qw bq (o:=.lst ([b,!b].map V.bl)) av;have ad:=qw (Sr H9) (o:=.lst ([b,!b].map V.bl)) av;have eA:upd H9 tl (.lst ([b,!b].map V.bl)) tl=some (.lst ([b,!b].map V.bl)):=qc;show qhE _ _ _ _ (upd H9 tl (.lst ([b,!b].map V.bl)));generalize upd H9 tl (.lst ([b,!b].map V.bl))=HA at sA ad eA;have bn:=ad _ _ bm;apply⟨wqqn,λR U=>?_⟩;have sB:=qw sA (o:=.lst [.bl b,.bl !b]) U;have tB:=qw (Sr HA) (o:=.lst [.bl b,.bl !b]) U;have eB:upd HA R (.lst [.bl b,.bl !b]) R=some (.lst ([b,!b].map V.bl)):=qc;have C:=tB _ _ eA;show .inr (.inl ⟨tl,R,true,1,rfl,rfl,by decide,qgm (xs:=[b,!b]) C eB,?_⟩);have ap:=tB _ _ bn;generalize upd HA R (.lst [.bl b,.bl !b])=HB at sB tB C ap;apply yr ?_;apply .inl ⟨⟨_,.of C⟩,qx (xs:=[b,!b].map V.bl) (λi ys J=>J=HB/\ys=(([b,!b].take i).map λ_=>true).map V.bl) ⟨rfl,rfl⟩ (λi ys J _ r=>by rw[r.1];show .of C) (λi y ys J hy r=>?_) λys J r=>?_⟩
   .obtain⟨rfl,rfl⟩:=r;rw[ye] at hy;obtain⟨z,hz,rfl⟩:=yo.mp hy;have bh:i<2:=(yc.mp hz).1;rw[yI,hz];apply jv ?_;apply qaB (.inl (.bl z)) rfl (jQ K "bool" (by simp) "bool" (by simp)) ?_;show⟨by rw[ya,ya,yM];show qg (by lk),rfl,?_⟩;rw[yu,yu];rfl
   .obtain⟨rfl,rfl⟩:=r;show⟨wqqn,λal ah=>?_⟩;have sC:=qw sB (o:=.lst ([true,true].map V.bl)) ah;have tC:=qw (Sr J) (o:=.lst ([true,true].map V.bl)) ah;have eC:upd J al (.lst ([true,true].map V.bl)) al=some (.lst ([true,true].map V.bl)):=qc;have G:=tC _ _ ap;show qfr _ (upd J al (.lst ([true,true].map V.bl))) _;generalize upd J al (.lst ([true,true].map V.bl))=HC at sC tC eC G;apply⟨al,[true,true],rfl,SqL.of eC,?_⟩;apply yr ?_;apply .inl ⟨d,_,rfl,.inl (.of G),λB D=>?_⟩;have sD:=qw sC (o:=.lst (qH ss L)) D;have tD:=qw (Sr HC) (o:=.lst (qH ss L)) D;have eD:upd HC B (.lst (qH ss L)) B=some (.lst (qH ss L)):=qc;have I:=tD _ _ G;have ba:B≠d:=λz=>by rw[z,G] at D;cases D
    generalize upd HC B (.lst (qH ss L))=HD at sD tD eD I;apply⟨.inl ⟨rfl,_,SqL.of I⟩,?_⟩;apply⟨d,_,_,rfl,rfl,I,by rw[qI];show qg (by lk),?_⟩;have sE:L2.Same H (upd HD d (.lst (qH ss L++[.str "a"]))):=qgr sD S;have eE:upd HD d (.lst (qH ss L++[.str "a"])) d=some (.lst (qH ss L++[.str "a"])):=qc;have kE:upd HD d (.lst (qH ss L++[.str "a"])) B=some (.lst (qH ss L)):=by rw[qo ba];show eD
    have as:∀{o},HD t=some o->t≠d->upd HD d (.lst (qH ss L++[.str "a"])) t=some o:=λe ne=>by rw[qo ne];show e
    generalize upd HD d (.lst (qH ss L++[.str "a"]))=HE at sE eE kE as;apply⟨.inl ⟨rfl,_,SqL.of eE⟩,?_⟩;show⟨d,_,rfl,rfl,eE,?_⟩;have sF:L2.Same H (upd HE d (.lst (qH ss L++[V.str "a"]).reverse)):=qgr sE S;have kF:upd HE d (.lst (qH ss L++[V.str "a"]).reverse) B=some (.lst (qH ss L)):=by rw[qo ba];show kE
    have ab:=tD _ _ (tC _ _ (tB _ _ (ad _ _ (s9 _ _ (t8 _ _ (s7 _ _ (t6 _ _ (t5 _ _ (s4 _ _ (s3 _ _ aa))))))))));have bb:t≠d:=λz=>by rw[z,I] at ab;cases ab
    have au:upd HE d (.lst (qH ss L++[V.str "a"]).reverse) t=some (.tup [.str m,.ref d]):=by rw[qo bb];show as ab bb
    generalize upd HE d (.lst (qH ss L++[V.str "a"]).reverse)=HF at sF kF au;apply qbg (sF _ _ Y) p ?_;apply⟨x,ss,ns,TI,st,cl,rfl,W.same sF,A,p,s,λb2 l2 br M HG sG bg _ bo _ ag aw=>?_⟩;obtain rfl:b=b2:=yT.mpr (hb.trans bg.symm);obtain rfl:L=M:=g.2.2.2.2.trans ag.2.2.2.2.symm;apply .inl (qbU (sG _ _ au) (v:=.str m) rfl ?_);apply⟨wqqn,λtz bp=>?_⟩;have sZ:=qw (Sr HG) (o:=.tup [.str m,.ref B]) bp;have eZ:upd HG tz (.tup [.str m,.ref B]) tz=some (.tup [.str m,.ref B]):=qc;have be:=(sF.trans sG).trans sZ;generalize upd HG tz (.tup [.str m,.ref B])=HZ at sZ eZ be;rw[show(if b=true then("lost":Str) else "won")=m from O.symm] at aw;show .inl (.inl (.inr (.inl ⟨br,tz,true,2,rfl,rfl,by decide,?_,q _ be⟩)))
    have z:=EqT.tup (K:=K) (H:=HZ) (n:=1) (e:=λ_=>true) (.of (sZ _ _ aw)) (.of eZ) λj u v a hv=>by
     match j,a,hv with
     | 0,a,hv =>
      cases a;cases hv;have e:=EqD.flat (K:=K) (H:=HZ) (n:=1) (x:=.str m) (y:=.str m) rfl rfl
      rwa[qbq,yx rfl] at e
     | 1,a,hv =>
      cases a;cases hv;show qfd (qdy (sZ _ _ bo) (sZ _ _ (sG _ _ kF)))
     | n+2,a,hv=>simp at a
    show z
theorem vE:FnScope wa wa (qf qbf):=fS
theorem uQ:FnScope wqu wqqf (qf qbr):=fS
def ixS(ss:LS)(a:Str×Str):Nat×Nat:=(ss.idxOf a.1,ss.idxOf a.2)
theorem ix_rise(l:ss.Nodup):ss.Pairwise λa b=>ss.idxOf a<ss.idxOf b:=by
 rw[YO];intro i j g h d
 have f:∀ k (c:k<ss.length),ss.idxOf ss[k]=k:=λk c=>by
  have e:=qai c;rw[yb c] at e;rw[yn e];show zx l c
 rw[f i g,f j h];show d
theorem ties_sorted(e:ss.Nodup):(zj ss ns ss.length).Pairwise λa b=>qhI (ixS ss a) (ixS ss b):=by
 unfold zj;rw[List.pairwise_flatMap];have key:∀ i,i<ss.length->ss.idxOf (ss.getD i "")=i:=λi c=>zx e c;show⟨λi c=>?_,xo.imp_of_mem λ{i j} c l d x f y g=>?_⟩
 .unfold qgG;show YM.mpr (xC _ ?_);rw[zk e];show(xC _ (ix_rise e)).imp λh=>.inr ⟨rfl,h⟩
 .unfold qgG at f g;obtain⟨o,_,rfl⟩:=yJ.mp f;obtain⟨m,_,rfl⟩:=yJ.mp g;show .inl ?_;show ss.idxOf (ss.getD i "")<ss.idxOf (ss.getD j "");rw[key i (Yd.mp c),key j (Yd.mp l)];show d
theorem ties_eq{TI:List (Nat×Nat)}(W:Wt cw H x ss ns (TI.map (nmP ss)))(c:TIok ss.length TI):zj ss ns ss.length=TI.map (nmP ss):=by
 have d:=W.wok.nd;show qa9 (λa b=>qhI (ixS ss a) (ixS ss b)) (λa=>qf4 _) (λa b h k=>?_) _ _ (ties_sorted d) (YM.mpr (c.so.imp_of_mem λ{a b} f hb h=>?_)) λz=>(qcQ W c).mem_iff
 .rcases h with h | ⟨h1,h2⟩<;>rcases k with k | ⟨k1,k2⟩<;>lk
 .have e:∀ p,p.1<p.2/\p.2<ss.length->ixS ss (nmP ss p)=p:=λp g=>XV (zx d (by lk)) (zx d g.2);rw[e a (c.ok a f),e b (c.ok b hb)];show h
def TdAt(H:Hp)(t:Addr)(ks:LS)(qs:LP):Prop:=∃(b c:Addr) (ts:LI),H t=some (.tup [.ref b,.ref c])/\H b=some (.tup (ks.map V.str))/\H c=some (.tup (ts.map V.ref))/\All2 (λt a=>H t=some (.tup [.str a.1,.str a.2])) ts qs
theorem TdAt.same{ks:LS}(h:TdAt H t ks qs)(s:L2.Same H H'):TdAt H' t ks qs:=by
 obtain⟨d,e,ts,h1,a,b,c⟩:=h;show⟨d,e,ts,s _ _ h1,s _ _ a,s _ _ b,c.mono λ_ _ z=>s _ _ z⟩
theorem qfe{ys:List V}(c:H a=some (.tup xs))(hb:H b=some (.tup ys))(hl:xs.length=ys.length)(d:∀(j:Nat) x y,xs[j]?=some x->ys[j]?=some y->EqD K H n x y true):EqT K H (n+1) a b true:=by
 have z:=EqT.tup (K:=K) (H:=H) (n:=n) (e:=λ_=>true) (SqT.of c) (SqT.of hb) d;rw[hl,Nat.min_self,Y8,kr,qbK] at z;show z
theorem qff{m:Nat}:∀ x∈ss.map V.str,EqD K H m x x true:=λx a=>by
 obtain⟨s,_,rfl⟩:=yJ.mp a;have e:=EqD.flat (K:=K) (H:=H) (n:=m) (x:=.str s) (y:=.str s) rfl rfl
 rwa[qbq,yx rfl] at e
theorem TdAt.eqT{u:Addr}{ks:LS}(h:TdAt H t ks qs)(g:TdAt H u ks qs):EqT K H 3 t u true:=by
 obtain⟨A,B,ts,h1,w,z,l⟩:=h;obtain⟨C,D,us,r,s,v,m⟩:=g;show qfe h1 r rfl λj x y c d=>?_
 match j,c,d with
 | 0,c,d =>
  cases c;cases d;show qfd (qfe (n:=1) w s rfl λj x y c d=>by rw[c] at d;cases d;show qff x (yf c))
 | 1,c,d =>
  cases c;cases d;show qfd (qfe (n:=1) z v (by rw[ya,ya,l.len,m.len]) λj x y c d=>?_);rw[ye] at c d
  cases e:ts[j]? with
  | none=>rw[e] at c;cases c
  | some a =>
   cases f:us[j]? with
   | none=>rw[f] at d;cases d
   | some b =>
    rw[e] at c;rw[f] at d;cases c;cases d;have o:j<qs.length:=by rw[<- l.len];show(yc.mp e).1
    have p:=l.at_ j a qs[j] e (yb o);have q:=m.at_ j b qs[j] f (yb o);show qfd (qfe (n:=0) p q rfl λi x y c d=>?_);rw[c] at d;cases d;show qff (ss:=[qs[j].1,qs[j].2]) x (yf c)
theorem mul_a7:MulOk "a" 7:=by
 show⟨?_,λ_ _=>?_,λ_ _=>?_⟩
 .decide
 .decide
 .unfold Builtin.Str.tooLong
  room
def fW(es:List Expr):Stmt->Stmt
 | .For tg (.List _ lp) b oe p=>.For tg (.List es lp) b oe p
 | s=>s
theorem law_parts:∃ es,zD qbr=[qe4 qbr 0,qe4 qbr 1,qe4 qbr 2,qe4 qbr 3,fW es (qe4 qbr 4),qe4 qbr 5]/\∀(env:Env) (c:Expr->TE->Prop) (d:List Expr->TA->Prop),
  (∀ j a,c (.Constant .none j a) (tC .non))->(∀ i j a,c (.Constant (.int i) j a) (tC (.int i)))->(∀ b j a,c (.Constant (.bool b) j a) (tC (.bl b)))->(∀ x j a,c (.Constant (.str x) j a) (tC (.str x))) ->
  (∀ a,c (.Dict [] [] a) qfE)->(∀ e f a g m,c e g->c f m->c (.BinOp e .Mult f a) (tOp qgB g m))->(∀ p,c (.Name "_law_names_here" p) (qfq 1))->(∀ p u j v w y a,c (.Call (.Name "tuple" p) [.Subscript (.Name "_law_names_here" u) (.Slice none (some (.Constant (.int 1) j v)) none w) y] [] a) (tCB (qel K) (zb (tSl (qhX K) (qfq 1) qda (qgx (tC (.int 1)))) qfr)))->d [] qfr ->
  (∀ e es g t,c e g->d es t->starEach (e::es) env=(false,eval e env)::starEach es env->d (e::es) (zb g t)) ->
  d es (zb (tC .non) (zb (tC (.int 0)) (zb (tC (.bl true)) (zb (tC (.str "")) (zb (tC (.str "B")) (zb (qfq 1) (zb (tCB (qel K) (zb (tSl (qhX K) (qfq 1) qda (qgx (tC (.int 1)))) qfr)) (zb (tOp qgB (tC (.str "a")) (tC (.int 7))) (zb qfE qfr))))))))):=
 ⟨_,rfl,λenv c d r l hb h o q hv s n hc=>hc _ _ _ _ (r _ _) (hc _ _ _ _ (l _ _ _) (hc _ _ _ _ (hb _ _ _) (hc _ _ _ _ (h _ _ _) (hc _ _ _ _ (h _ _ _) (hc _ _ _ _ (hv _) (hc _ _ _ _ (s _ _ _ _ _ _ _) (hc _ _ _ _ (q _ _ _ _ _ (h _ _ _) (l _ _ _)) (hc _ _ _ _ (o _) n rfl) rfl) rfl) rfl) rfl) rfl) rfl) rfl) rfl⟩
theorem vAsgT{a:TE}{gs:TGs}(h:a σ H λx H1=>qia K n gs x σ H1 D.nx):qhF a (qia K n gs) D σ H:=h
inductive spLaw(K:W.Frag)(vs:List V)(H:Hp)(Q:VK)(E:XK):Prop|mk (a:Addr) (ns:LQ) (_:vs=[.ref a]) (_:SqL K H a (ns.map V.int)) (_:ns.length<=63) (_:∀ H',Q (.bl true) H')
inductive spTdW(cw:Addr)(vs:List V)(H:Hp)(Q:VK)(E:XK):Prop|mk (x:Addr) (ss:LS) (ns:LN) (_:vs=[.ref x]) (_:WebAt cw H x ss ns) (_:∀(t:Addr) (H':Hp),L2.Same H H'->TdAt H' t ss (zj ss ns ss.length)->Q (.ref t) H')
theorem ok_tdW(F:Fun K "told" "Web.told" qbf f fd)(T:Txt K mg cc cw)(A:wqqi 7 cw "ties" wa (spTs cw)):wqqj 8 f fd wa (spTdW cw):=by
 show F.ok vE λ_ _ _ _ H vs Q E G h=>?_
 .obtain⟨x,ss,ns,rfl,W,q⟩:=h;obtain⟨v,M,ol,N,hb,B,m,D,hw⟩:=id W;show⟨_,(qe (qi (ji (qa (qX (qaC (K:=K) rfl) rfl T.b_tuple Xi (qa (qV (K:=K) rfl (pv 0) rfl) qb)) (qa (qX (qaC (K:=K) rfl) rfl T.b_tuple Xi (qa (qz A (hmR G) (pv 0)) qb)) qb))))),?_⟩;apply .inl ⟨x,cw,v,_,.ref ol,rfl,hb,T.wcl,T.wo,by rw[qC,yE (by room),qC,yH rfl],?_⟩;apply⟨ol,_,rfl,.inl ⟨SqL.of m,λc n=>?_⟩⟩;have e:=qw (Sr H) (o:=.tup (ss.map V.str)) n;have s:upd H c (.tup (ss.map V.str)) c=some (.tup (ss.map V.str)):=qc;generalize upd H c (.tup (ss.map V.str))=H1 at e s;apply⟨x,v,_,rfl,e _ _ hb,zh (by room),?_⟩;apply⟨x,ss,ns,rfl,W.same e,λl ts H2 J C hl j i=>?_⟩;apply⟨l,_,rfl,.inl ⟨SqL.of hl,λd b=>?_⟩⟩;have r:=qw J (o:=.tup (ts.map V.ref)) b;have u:upd H2 d (.tup (ts.map V.ref)) d=some (.tup (ts.map V.ref)):=qc;have p:=qw (Sr H2) (o:=.tup (ts.map V.ref)) b;have a:=i.mono λt L z=>p _ _ z.2.2;generalize upd H2 d (.tup (ts.map V.ref))=y at r u a;apply⟨wqqn,λt I=>?_⟩;have g:=qw (Sr y) (o:=.tup [.ref c,.ref d]) I;show q t _ (e.trans (r.trans g)) ⟨c,d,ts,qc,g _ _ (r _ _ s),g _ _ u,a.mono λ_ _ z=>g _ _ z⟩
theorem ok_law71(F:Fun K "law" "law" qbr f fd)(T:Txt K mg cc cw)(Us:wqqh 1 "_law_cell_at" wqQ (spCa K))(v6:wqqh 3 "_law_drawn" wq0 spDr)(Vb:wqqh 7 "_law_web" wqq (spWb cw))(uG:wqqh 3 "_law_two_sided" wqq spTw)(v7:wqqh 13 "_law_right" wqa (spRgt cw))(UR:wqqh 15 "_law_refused_odd" wqa (spROd cc cw))(UG:wqqh 17 "_law_keen_refused" wqa (spKr cc cw))(vo:wqqh 15 "_law_no_place" wqU (spNp cc cw))(vO:wqqi 8 cw "told" wa (spTdW cw)):wqqj 18 f fd wqqf (spLaw K):=by
 show F.ok uQ λ_ _ _ s H vs Q E B h=>?_
 .obtain⟨a,nz,rfl,hS,Z,q⟩:=h;have hu:=jw B;obtain⟨bp,ad,ax⟩:=law_parts (K:=K);rw[ad];show⟨_,(qd (qbt (qm v6 (hmR B) qv (qa (qm Us (hmR B) qv (qa (pv 0) (qa qh qb))) (qa (qW qdI (qM zJ (qm Us (hmR B) qv (qa (pv 0) (qa qh qb))) qh) qh (qu _)) qb))) (qbh rfl (qU (qp (i:=1) uQ.nd rfl (xK rfl)) (qU (qp (i:=2) uQ.nd rfl (yG rfl)) qaf))))
 (qd (qr (i:=3) uQ.nd rfl (yG rfl) (qm Vb (hmR B) qv (qa (pv 1) (qa (pv 2) qb))))
 (qd (qr (i:=4) uQ.nd rfl (yG rfl) (qm uG (hmR B) qv (qa (pv 1) (qa (pv 2) qb))))
 (qd (jq yX rfl (jz rfl T.b_range (qa (qk (j8 (K:=K) rfl) rfl T.b_len Yv (qa (pv 1) qb)) qb)) (qp (i:=5) uQ.nd rfl (yG rfl))
 (qd (qG (PW.pt (qb8 (qD (pv 4)) (qbj (qP (qD (qm v7 (hmR B) qv (qa (pv 3) (qa (pv 1) (qa (pv 2) (qa (pv 5) qb)))))))))) (qe (qi jy)) qt)
 (qd (qG (PW.pt (qb8 (qP (qD (pv 4))) (qbj (qP (qD (qm UR (hmR B) qv (qa (pv 3) (qa (pv 1) (qa (pv 2) (qa (qA (qB (K:=K) rfl hu) (pv 1) (pv 5) (λ_ _=>rfl)) qb)))))))))) (qe (qi jy)) qt)
 (qe (qG (PW.pt (qb8 (qP (qD (pv 4))) (qbj (qP (qD (qm UG (hmR B) qv (qa (pv 3) (qa (pv 1) (qa (pv 2) (qa (pv 5) qb)))))))))) (qe (qi jy)) qt)))))
 (qd (jq yX rfl (qL (K:=K) rfl (qS (ax _ _ _ (λ_ _=>qaP) (λ_ _ _=>qh) (λ_ _ _=>jy) (λ_ _ _=>zv) (λ_=>qcg) (λ_ _ _ _ _ h1 h2=>qM qdV h1 h2) (λ_=>pv 1) (λ_ _ _ _ _ _ _=>qX (qaC (K:=K) rfl) (by rfl) T.b_tuple Xi (qa (qaZ (qhG (K:=K) rfl) (pv 1) qb0 (qag qh)) qb)) qb λ_ _ _ _ ha B hs=>qa ha B hs))) (qp (i:=6) uQ.nd rfl (yG rfl))
 (qe (qG (qP (qD (qm vo (hmR B) qv (qa (pv 3) (qa (pv 6) qb))))) (qe (qi jy)) qt)))
 (qe (qi (qW (jo (K:=K) rfl hu) (qz vO (hmR B) (pv 3)) (ji (qa (qX (qaC (K:=K) rfl) rfl T.b_tuple Xi (qa (pv 1) qb)) (qa (qX (qaC (K:=K) rfl) rfl T.b_tuple Xi (qa (qK (sc:=qf qbr) (XN:=wqu) wqi 2 [1] rfl rfl rfl (by room) rfl (by room)
  (qc2 (K:=K) rfl (pv 2)) (λ_ _ _ _=>(qbh (n:=2) rfl (qU (qp (i:=0) (show(wqi:LS).Nodup by room) rfl (yG rfl)) (qU (qp (i:=1) (show(wqi:LS).Nodup by room) rfl (yG rfl)) qaf)))) qd1
  (λ_ _ _ _=>jl)
  (λ_ _ _ _=>(ji (qa (qA (qB (K:=K) rfl hu) (pv 2) (pv 0) (λ_ _=>rfl)) (qa (qA (qB (K:=K) rfl hu) (pv 2) (pv 1) (λ_ _=>rfl)) qb))))) qb)) qb))) (qu _))))))))),?_⟩
  apply vAsgT ?_;apply⟨a,nz,0,rfl,hS,by decide,λc0=>?_⟩;apply⟨a,nz,1,rfl,hS,by decide,λc1=>?_⟩;apply vI (by decide) ?_;apply⟨c0,_,rfl,λt v l ss ts TI H1 s1 ht n0 d hO l0 hI Y=>?_⟩;show⟨t,_,rfl,.of ht,rfl,_,_,rfl,_,_,rfl,rfl,?_⟩;apply⟨v,l,ss,ts,TI,rfl,d,hI,hO,Y,λx ns H3 s3 W0=>?_⟩;have W:=W0.same qf6;have few:=W.wok.few;have hn:=W.wok.nd;apply⟨v,l,ss,ts,TI,rfl,s3 _ _ d,hI.same s3,Y,few,λb H4 s4 hb=>?_⟩;have ag:=s3.trans s4;apply zK (ag _ _ d) ?_;apply⟨(ss.length:Int),by rw[ya],by lk,by lk,?_⟩;rw[Ye];show jI (lo:=0) (n:=ss.length) (λi σ J=>L2.Same H4 J/\∃ y5,σ=[some (.ref a),some (.ref v),some (.ref l),some (.ref x),some (.bl b),y5,none]) ⟨L2.Same.refl H4,_,rfl⟩ (λi σ J hi A=>?_) fun σ J A=>?_
  .obtain⟨sJ,y5,rfl⟩:=A;rw[xN];have D:=s4.trans sJ;have c:=ag.trans sJ;ext
   cases b with
   | true =>
    obtain⟨cl,hC⟩:=hb.mp rfl;show jv ?_;apply⟨x,v,l,ss,ns,ts,TI,i,cl,rfl,W.same D,c _ _ d,hI.same c,Y,hi,hC,λJ1 N=>?_⟩;apply yr ?_;apply yr ?_;show yr ?_;apply yr ?_;show yr ?_;show⟨sJ.trans N,_,rfl⟩
   | false =>
    have bb:qdn (TI.map (nmP ss)):=qfc λz=>by have:=hb.mpr z;cases this
    show yr ?_;apply yr ?_;apply jv ?_;apply qbg (c _ _ d) hi ?_;apply⟨x,v,l,ss,ns,ts,TI,i,rfl,W.same D,c _ _ d,hI.same c,Y,hi,bb,λJ1 N=>?_⟩;apply yr ?_;apply jv ?_;ext;have bm:=D.trans N;have as:=c.trans N;show⟨x,v,l,ss,ns,ts,TI,i,rfl,W.same bm,as _ _ d,hI.same as,Y,hi,λJ2 s6=>?_⟩;apply yr ?_;show⟨(sJ.trans N).trans s6,_,rfl⟩
  .obtain⟨sJ,y5,rfl⟩:=A;have D:=s4.trans sJ;have c:=ag.trans sJ;ext;have ae:=c _ _ d;obtain⟨G,av,ba,bq⟩:∃ G:LS,qfz (ss.map V.str) none (some 1)=G.map V.str/\(∀ z∈G,z∈ss)/\G.length<=14:=⟨_,by unfold qfz;rw[List.map_take,kq],λz hz=>XG (Xh hz),by rw[yM,Yz];lk⟩;show .inl ⟨v,_,rfl,SqL.of ae,λd1 az=>?_⟩;rw[av];have u1:=qw (Sr J) (o:=.lst (G.map V.str)) az;have X:upd J d1 (.lst (G.map V.str)) d1=some (.lst (G.map V.str)):=qc;generalize upd J d1 (.lst (G.map V.str))=J1 at u1 X;apply⟨d1,_,rfl,.inl ⟨SqL.of X,λt1 be=>?_⟩⟩;have u2:=qw u1 (o:=.tup (G.map V.str)) be;have e2:upd J1 t1 (.tup (G.map V.str)) t1=some (.tup (G.map V.str)):=qc;generalize upd J1 t1 (.tup (G.map V.str))=J2 at u2 e2;apply⟨mul_a7,?_⟩;ext;intro O ak;have u3:=qw u2 (o:=.dK []) ak;have t3:=qw (Sr J2) (o:=.dK []) ak;have ed:upd J2 O (.dK []) O=some (.dK []):=qc;have aa:=t3 _ _ e2;show NewL _ (upd J2 O (.dK [])) _;generalize upd J2 O (.dK [])=J3 at u3 ed aa;apply⟨by show 9<=sizeLine;decide,λli am=>?_⟩;obtain⟨wx,wd,ol,wn,ay,_⟩:=id W.web
   have ah:∀{r:Addr} {o:HO},J3 r=some o->(∀ C dx fs,o≠.ins C dx fs)->r≠x:=λ{r o} e k z=>by
    have:=u3 _ _ (D _ _ ay);rw[z,this] at e;show k _ _ _ (yn e).symm
   have u4:=qw u3 (o:=.lst [.non,.int 0,.bl true,.str "",.str "B",.ref v,.ref t1,.str (Txt.mul "a" 7),.ref O]) am;have t4:=qw (Sr J3) (o:=.lst [.non,.int 0,.bl true,.str "",.str "B",.ref v,.ref t1,.str (Txt.mul "a" 7),.ref O]) am;have S:upd J3 li (.lst [.non,.int 0,.bl true,.str "",.str "B",.ref v,.ref t1,.str (Txt.mul "a" 7),.ref O]) li=some (.lst [.non,.int 0,.bl true,.str "",.str "B",.ref v,.ref t1,.str (Txt.mul "a" 7),.ref O]):=qc;have g:=(u3.trans t4) _ _ ae;have U:=t4 _ _ aa;have R:=t4 _ _ ed;have bh:=ah (u3 _ _ ae) nofun;have bj:=ah aa nofun;have bg:=ah ed nofun;obtain⟨xs,af⟩:∃ xs:List V,xs=[.non,.int 0,.bl true,.str "",.str "B",.ref v,.ref t1,.str (Txt.mul "a" 7),.ref O]:=⟨_,rfl⟩;rw[<- af] at S u4 t4 ⊢;rw[<- af] at g U R;generalize upd J3 li (.lst xs)=J4 at u4 t4 S g U R
   have hX:∀ y∈xs,Th x J4 1 y/\qaV ss y=false/\∀ I,L2.Same J4 I->FlT I y:=by
    have no:∀{y:V},qfp y=false->qaV ss y=false:=λ{y} h=>by unfold qaV;rw[h];rfl
    have fl:∀{y:V},zS y=true->∀ I,L2.Same J4 I->FlT I y:=λ{y} h I _ b ys e=>by subst e;cases h
    have au:∀{ks:LS},(∀ z∈ks,z∈ss)->∀ y∈ks.map V.str,Th x J4 0 y:=λ{ks} h y hy=>by
     obtain⟨z,hz,rfl⟩:=yJ.mp hy;show .flat rfl λu e=>by cases e;show yj (nameS_len (hO.nm z (h z hz))) (by decide)
    have sf:∀{ks:LS},∀ y∈ks.map V.str,zS y=true:=λ{ks} y hy=>by obtain⟨z,_,rfl⟩:=yJ.mp hy;rfl
    rw[af];intro y hy;simp only[yF,yW,YT] at hy;rcases hy with rfl | rfl | rfl | rfl | rfl | rfl | rfl | rfl | rfl
    .show⟨.flat rfl nofun,rfl,fl rfl⟩
    .show⟨.flat rfl nofun,rfl,fl rfl⟩
    .show⟨.flat rfl nofun,rfl,fl rfl⟩
    .show⟨.flat rfl λu e=>(by cases e;room),no (by room),fl rfl⟩
    .show⟨.flat rfl λu e=>(by cases e;room),no (by room),fl rfl⟩
    .show⟨.lst g bh (au λz h=>h) (by rw[ya];lk),rfl,λI s b ys X e2=>?_⟩;cases X;rw[s _ _ g] at e2;rcases e2 with e2 | e2
     .rw [<- HO.lst.inj (yn e2)];show sf
     .cases e2
    .show⟨.tup U bj (au ba) (by rw[ya];lk),rfl,λI s b ys X e2=>?_⟩;cases X;rw[s _ _ U] at e2;rcases e2 with e2 | e2
     .cases e2
     .rw [<- HO.tup.inj (yn e2)];show sf
    .show⟨.flat rfl λu e=>(by cases e;room),no (by room),fl rfl⟩
    .show⟨.dct R bg,rfl,λI s b ys X e2=>?_⟩;cases X;rw[s _ _ R] at e2;rcases e2 with e2 | e2<;>cases e2
   have W4:=(W.same D).same u4;show .inl ⟨⟨_,.of S⟩,jX (xs:=xs) (λi σ J=>L2.Same J4 J/\∃ y6,σ=[some (.ref a),some (.ref v),some (.ref l),some (.ref x),some (.bl b),y5,y6]) ⟨L2.Same.refl J4,_,rfl⟩ (λi σ J _ A=>.of (A.1 _ _ S)) (λi y σ I hy A=>?_) fun σ I A=>?_⟩
   .obtain⟨j,y6,rfl⟩:=A;obtain⟨x1,x2,x3⟩:=hX y (yf hy);apply⟨x,x,ss,ns,y,rfl,(W4.same j).web,x1.same j,x2,λbo s'=>x3 _ (j.trans s'),λJ5 N=>?_⟩;apply yr ?_;show⟨j.trans N,_,rfl⟩
   .obtain⟨j,y6,rfl⟩:=A;have W5:=W4.same j;obtain⟨bn,bt,br,bu,aj,_⟩:=id W5.web;apply⟨x,bn,_,rfl,aj,zh (by room),?_⟩;apply⟨x,ss,ns,rfl,W5.web,λtw J5 N ai=>?_⟩;rw[ties_eq W5 Y] at ai;have an:=N _ _ (j _ _ g);have aw:=hI.same ((c.trans u4).trans (j.trans N));apply⟨v,_,rfl,.inl ⟨SqL.of an,λp1 bc=>?_⟩⟩;have v1:=qw (Sr J5) (o:=.tup (ss.map V.str)) bc;have f1:upd J5 p1 (.tup (ss.map V.str)) p1=some (.tup (ss.map V.str)):=qc;generalize upd J5 p1 (.tup (ss.map V.str))=J6 at v1 f1;ext;have L:=aw.same v1;have ao:=v1 _ _ an;have ac:=Y.few;show qfl ?_;apply⟨l,_,rfl,.of L.1,qx (xs:=ts.map V.ref) (λi ys J=>L2.Same J6 J/\∃ us:LI,ys=us.map V.ref/\All2 (λt ab=>J t=some (.tup [.str ab.1,.str ab.2])) us ((TI.take i).map (nmP ss))) ⟨L2.Same.refl J6,[],rfl,.nil⟩ (λi ys J _ M=>.of (M.1 _ _ L.1)) (λi y ys J7 hx M=>?_) λys J7 M=>?_⟩
    .obtain⟨s7,us,rfl,hA⟩:=M;rw[ye] at hx;obtain⟨u,ar,rfl⟩:=yo.mp hx;have hi:i<TI.length:=by rw[<- L.2.len];show(yc.mp ar).1
     obtain⟨p,A⟩:∃ p,TI[i]?=some p:=⟨_,yb hi⟩;have bf:=s7 _ _ (L.2.at_ i u p ar A);have aq:=Y.two p (yf A)
     have Z:us.length<=30:=by
      rw[hA.len,ya,yM];lk
     show⟨u,_,rfl,.of bf,rfl,_,_,rfl,_,_,rfl,rfl,?_⟩;apply jv ?_;apply qbg (s7 _ _ ao) aq.1 ?_;apply qbg (s7 _ _ ao) aq.2 ?_;apply⟨wqqn,λm hm=>?_⟩;show⟨by rw[ya];show qg (by lk),qw s7 hm,us++[m],by rw[yu];rfl,?_⟩;rw[yI,A,yu];show(hA.mono λt' q z=>qw (Sr J7) hm _ _ z).snoc qc
    .obtain⟨s7,us,rfl,hA⟩:=M;rw[show(ts.map V.ref).length=TI.length by rw[ya,L.2.len],yD] at hA;have Z:us.length<=30:=by rw[hA.len,ya];show ac
     show⟨by rw[ya];show yN (qg (by lk)),λl8 al=>?_⟩;have v2:=qw s7 (o:=.lst (us.map V.ref)) al;have f2:upd J7 l8 (.lst (us.map V.ref)) l8=some (.lst (us.map V.ref)):=qc;have A2:=hA.mono λt' q z=>qw (Sr J7) (o:=.lst (us.map V.ref)) al _ _ z;generalize upd J7 l8 (.lst (us.map V.ref))=J8 at v2 f2 A2;apply⟨l8,_,rfl,.inl ⟨SqL.of f2,λp2 ap=>?_⟩⟩;have v3:=qw v2 (o:=.tup (us.map V.ref)) ap;have f3:upd J8 p2 (.tup (us.map V.ref)) p2=some (.tup (us.map V.ref)):=qc;have A3:=A2.mono λt' q z=>qw (Sr J8) (o:=.tup (us.map V.ref)) ap _ _ z;generalize upd J8 p2 (.tup (us.map V.ref))=J9 at v3 f3 A3;apply⟨wqqn,λpz bd=>?_⟩;have v4:=qw (Sr J9) (o:=.tup [.ref p1,.ref p2]) bd;have v5:=v1.trans (v3.trans v4);show .inl (.inl (.inr (.inl ⟨tw,pz,true,3,rfl,rfl,by decide,(ai.same v5).eqT ⟨p1,p2,us,qc,v4 _ _ (v3 _ _ f1),v4 _ _ f3,A3.mono λ_ _ z=>v4 _ _ z⟩,q _⟩)))
end
theorem FnOk.or{P:Program}{w:World}{base:Heap}{CX:CXT}{k:Nat}{f:Addr}{d:FuncData}{ps:LS}{b c:Sp}(e:FnOk P w K mg base CX k f d ps b)(g:FnOk P w K mg base CX k f d ps c):FnOk P w K mg base CX k f d ps (λvs H Q E=>b vs H Q E\/c vs H Q E):=
 ⟨λvs H Q E h=>h.elim (e.len vs H Q E) (g.len vs H Q E),λA a s H args us vs Q E j i hb hv l=>l.elim (e.run A a s H args us vs Q E j i hb hv) (g.run A a s H args us vs Q E j i hb hv)⟩
theorem qhr{t:Value}{c:Addr}{b:Bool}(ne:(t==.ref c)=false)(h1:W.isClsIn K c=true)(d:W.typeIn K (.ref c)=some (.type "type"))(e:W.subIn K t (.ref c)=some b):W.kitOne K t (.ref c)=some b:=by
 unfold W.kitOne;rw[yE (by rw[ne];decide)];unfold W.kitCls;dsimp only;have a:(W.clsIn K c).isSome=true:=h1;rw[yH (by rw[a,d];rfl)];show e
theorem all_mk{l:W.OpenLaw}{w:World}{h:Heap}{fa g d p q B u C r t c:Addr}{M N O P R S:Tok}(X:K.In h)(G:h.Ns mainGlobals mg)(di:mg "law"=some (.ref fa))
  (C0_:W.nsIn K mainGlobals "NoPlace"=some (some (.ref u)))
  (C1_:W.nsIn K mainGlobals "NoTie"=some (some (.ref C)))
  (C2_:W.nsIn K mainGlobals "TooMany"=some (some (.ref r)))
  (C3_:W.nsIn K mainGlobals "Odd"=some (some (.ref t)))
  (C4_:W.nsIn K mainGlobals "OnceError"=some (some (.ref c)))
  (Cw_:W.nsIn K mainGlobals "Web"=some (some (.ref g)))
  (Cp_:W.nsIn K mainGlobals "Road"=some (some (.ref d)))
  (Ck_:W.nsIn K mainGlobals "Keen"=some (some (.ref p)))
  (Cr_:W.nsIn K mainGlobals "Nearest"=some (some (.ref q)))
  (Cl_:W.nsIn K mainGlobals "Player"=some (some (.ref B)))
  (Vj:FG K "are_unlike_places" ju)
  (Wu:FG K "sides_of" jO)
  (VE:FG K "on_first_side" zd)
  (W8:FG K "ways_in" qbL)
  (wc:FG K "spread_from" zE)
  (W9:FG K "ring_of" qaR)
  (Wv:FG K "is_whole" qa6)
  (Wa:FG K "is_within" qaE)
  (gf:FG K "is_name" zN)
  (gg:FG K "has_bit" qbF)
  (Ww:FG K "is_place" qao)
  (Vr:FG K "are_two_places" j0)
  (wL:FG K "numbers_of" zX)
  (gh:FG K "near_of" qbH)
  (VS:FG K "piece_around" zr)
  (fo:FG K "sum_of" qcs)
  (hw:FG K "picks" qcJ)
  (Vs:FG K "must_be_summed" jB)
  (Wb:FG K "is_summed" qaF)
  (Wx:FG K "steps_of" qa7)
  (Wy:FG K "lessened" qa8)
  (Wc:FG K "near_side" zm)
  (WA:FG K "far_side" zH)
  (wM:FG K "piece_with" zA)
  (WB:FG K "told_set" qas)
  (WC:FG K "even_set" zn)
  (Vl:FG K "bits_beside_each" jg)
  (WD:FG K "names_at" qar)
  (fp:FG K "bit_of" qcr)
  (gi:FG K "is_even" qaW)
  (fq:FG K "is_odd" qbP)
  (wN:FG K "sum_beside" zB)
  (wO:FG K "free_evens" qab)
  (Wd:FG K "good_ties" qaI)
  (gj:FG K "is_hand" qbR)
  (WE:FG K "first_of" qbd)
  (hx:FG K "match" qdx)
  (Vt:FG K "must_be_player" j5)
  (Vu:FG K "answers_within" j6)
  (gk:FG K "ways_on" qbS)
  (WF:FG K "road_led" qbb)
  (VT:FG K "road_answers" zu)
  (We:FG K "_law_cell_at" qaG)
  (hy:FG K "_law_box" qdo)
  (fr:FG K "_law_take" qcq)
  (gl:FG K "_law_names" jp)
  (gm:FG K "_law_drawn" qaS)
  (hm:FG K "_law_web" qb6)
  (WG:FG K "_law_beside" qaq)
  (gn:FG K "_law_sides" qbM)
  (ft:FG K "_law_near" qbN)
  (hn:FG K "_law_far" qcN)
  (gp:FG K "_law_often" qaU)
  (Wf:FG K "_law_is_even" jM)
  (WH:FG K "_law_is_odd" j9)
  (we:FG K "_law_two_sided" ze)
  (fu:FG K "_law_door" qct)
  (fv:FG K "_law_ring" qbc)
  (VF:FG K "_law_refused_odd" zf)
  (Vv:FG K "_law_keen_refused" jE)
  (wP:FG K "_law_no_place" qac)
  (gq:FG K "_law_right" qat)
  (il:FG K "law" qbr)
  (ka:FM K u "__init__" "NoPlace.__init__" zo)
  (kb:FM K r "__init__" "TooMany.__init__" zq)
  (kd:FM K t "__init__" "Odd.__init__" qa3)
  (kk:FC K c "__init__" "OnceError.__init__" jZ)
  (kl:FM K g "__init__" "Web.__init__" qa4)
  (WI:FM K g "places" "Web.places" zY)
  (fx:FM K g "ties" "Web.ties" qa5)
  (wf:FM K g "has_place" "Web.has_place" jK)
  (wg:FM K g "number_of" "Web.number_of" jL)
  (WK:FM K g "beside" "Web.beside" zZ)
  (VG:FM K g "bits_beside" "Web.bits_beside" jN)
  (WL:FM K g "pieces" "Web.pieces" qaa)
  (fy:FM K g "told" "Web.told" qbf)
  (wQ:FM K g "names_in" "Web.names_in" jW)
  (wj:FM K d "__init__" "Walk.__init__" qaJ)
  (VU:FM K d "stands_at" "Walk.stands_at" j3)
  (gr:FM K d "gone" "Walk.gone" qaK)
  (gt:FM K d "hand" "Walk.hand" qaL)
  (WM:FM K d "ended" "Walk.ended" qad)
  (WN:FM K d "loser" "Walk.loser" qae)
  (wR:FM K d "move_to" "Walk.move_to" zt)
  (VW:FM K d "ties_gone" "Road.ties_gone" jC)
  (VX:FM K d "ties_left" "Road.ties_left" jD)
  (WO:FM K d "moves" "Road.moves" zC)
  (Vw:FM K d "tie_between" "Road.tie_between" jH)
  (ho:FM K d "go" "Road.go" qbQ)
  (wm:FM K d "web_left" "Road.web_left" zg)
  (gu:FM K d "twin" "Road.twin" qaM)
  (Wg:FM K p "choose" "Keen.choose" zF)
  (Wh:FM K q "choose" "Nearest.choose" j4)
  (X0:XL K u (.ref c::qcS))
  (q0:XQ K u)
  (X1:XL K C (.ref c::qcS))
  (q1:XQ K C)
  (X2:XL K r (.ref c::qcS))
  (q2:XQ K r)
  (X3:XL K t (.ref c::qcS))
  (q3:XQ K t)
  (X4:XL K c qcS)
  (q4:XQ K c)
  (y0:W.findIn K (.ref u) "found"=some none)
  (y1:W.findIn K (.ref C) "found"=some none)
  (y2:W.findIn K (.ref r) "many"=some none)
  (y3:W.findIn K (.ref t) "ring"=some none)
  (dz:W.mroIn K u (.ref c)=some true)
  (ea:W.mroIn K C (.ref c)=some true)
  (eb:W.mroIn K r (.ref c)=some true)
  (ec:W.mroIn K t (.ref c)=some true)
  (nd:([u,C,r,t]++[c]).Nodup)
  (r1:W.readsIn K c (.type "type")=true)
  (r3:W.specialIn K (.ref c) "__getattribute__"=some (some (.builtin "type.__getattribute__")))
  (v1:W.findIn K (.type "type") "__getattribute__"=some (some (.builtin "type.__getattribute__")))
  (v3:W.subIn K (.type "type") (.type "type")=some true)
  (v4:W.findCls K (.type "ValueError") (.type "type") "__init__"=some (.val (.builtin "ValueError.__init__")))
  (w1:W.plainGet K g Str.empty=true)
  (w2:W.hasDictIn K g=true)
  (w3:W.plainOver K g=true)
  (w4:W.findIn K (.ref g) "__setattr__"=some (some (.builtin "object.__setattr__")))
  (w5:W.makesIn K g=true)
  (w6:W.keepIn K (.ref g)=true)
  (w7:W.findIn K (.ref g) "numbers"=some none)
  (w8:W.findIn K (.ref g) "order"=some none)
  (w9:W.findIn K (.ref g) "near"=some none)
  (y:W.specialIn K (.builtin "object.__class__") "__get__"=some (some (.builtin "getset_descriptor.__get__")))
  (A:W.takesIn K (.builtin "object.__class__")=some true)
  (ef:W.plainGet K d Str.empty=true)
  (eg:W.hasDictIn K d=true)
  (eh:W.plainOver K d=true)
  (ei:W.findIn K (.ref d) "__setattr__"=some (some (.builtin "object.__setattr__")))
  (ej:W.makesIn K d=true)
  (ek:W.keepIn K (.ref d)=true)
  (el:W.findIn K (.ref d) "board"=some none)
  (em:W.findIn K (.ref d) "path"=some none)
  (dj:W.plainGet K p Str.empty=true)
  (dk:W.hasDictIn K p=true)
  (dl:W.plainOver K p=true)
  (dm:W.findIn K (.ref p) "__setattr__"=some (some (.builtin "object.__setattr__")))
  (dn:W.makesIn K p=true)
  (dp:W.keepIn K (.ref p)=true)
  (dr:W.findIn K (.ref p) "__class__"=some (some (.builtin "object.__class__")))
  (ds:W.mroIn K p (.type "object")=some true)
  (du:W.mroIn K p (.ref B)=some true)
  (dq:W.findIn K (.ref p) "__init__"=some (some (.builtin "object.__init__")))
  (dt:p≠B)
  (eo:W.plainGet K q Str.empty=true)
  (ep:W.hasDictIn K q=true)
  (eq:W.plainOver K q=true)
  (er:W.findIn K (.ref q) "__setattr__"=some (some (.builtin "object.__setattr__")))
  (es:W.makesIn K q=true)
  (et:W.keepIn K (.ref q)=true)
  (ew:W.findIn K (.ref q) "__class__"=some (some (.builtin "object.__class__")))
  (ey:W.mroIn K q (.type "object")=some true)
  (fb:W.mroIn K q (.ref B)=some true)
  (eu:W.findIn K (.ref q) "__init__"=some (some (.builtin "object.__init__")))
  (ez:q≠B)
  (L:W.typeIn K (.ref B)=some (.type "type"))
  (E:W.isClsIn K B=true)
  (kx:W.nsIn K mainGlobals "zip"=some none)
  (de:W.nsIn K mainGlobals "sorted"=some none)
  (dd:W.nsIn K mainGlobals "set"=some none)
  (fc:(K.lookup sysModules).isSome=true)
  (fe:W.nsIn K mainGlobals "MOST_SUMMED"=some (some (.int 40 P)))
  (ff:W.nsIn K mainGlobals "HIGHEST_SUMMED"=some (some (.int 1073741823 R)))
  (fh:W.nsIn K mainGlobals "MOST_TIES_LEFT"=some (some (.int 10 S)))
  (ed:W.mroIn K u (.ref u)=some true)
  (ee:W.mroIn K r (.ref r)=some true)
  (I:W.mroIn K t (.ref t)=some true)
  (dy:W.mroIn K r (.ref t)=some false)
  (z0:W.nsIn K mainGlobals "len"=some none)
  (z1:W.nsIn K mainGlobals "int"=some none)
  (z2:W.nsIn K mainGlobals "enumerate"=some none)
  (z3:W.nsIn K mainGlobals "all"=some none)
  (z4:W.nsIn K mainGlobals "max"=some none)
  (z5:W.nsIn K mainGlobals "min"=some none)
  (z6:W.nsIn K mainGlobals "isinstance"=some none)
  (z7:W.nsIn K mainGlobals "bool"=some none)
  (z8:W.nsIn K mainGlobals "str"=some none)
  (z9:W.nsIn K mainGlobals "range"=some none)
  (kp:W.nsIn K mainGlobals "list"=some none)
  (kv:W.nsIn K mainGlobals "tuple"=some none)
  (kw:W.nsIn K mainGlobals "ValueError"=some none)
  (u0:W.nsIn K mainGlobals "LONGEST_NAME"=some (some (.int 6 M)))
  (u1:W.nsIn K mainGlobals "MOST_PLACES"=some (some (.int 14 N)))
  (u2:W.nsIn K mainGlobals "MOST_TIES"=some (some (.int 30 O))) :
  ∃ fd:FuncData,(∀(s:Shared) (v:Value),BindsTo s fd ⟨[v],[]⟩ [("_law_script",v)])/\∀ base:Heap,K.In base->base.Ns mainGlobals mg->FnOk l.prog w K mg base CX0 18 fa fd wqqf (spLaw K):=by
 obtain⟨_,_,Vk,ah⟩:=Vj;obtain⟨_,_,VH,wA⟩:=Wu;obtain⟨_,_,VI,ai⟩:=VE;obtain⟨_,_,gv,aj⟩:=W8;obtain⟨_,_,wp,ak⟩:=wc;obtain⟨_,_,gw,al⟩:=W9;obtain⟨_,_,WP,am⟩:=Wv;obtain⟨_,_,Wi,U⟩:=Wa;obtain⟨_,_,V6,wB⟩:=gf;obtain⟨_,_,gx,Y⟩:=gg;obtain⟨_,_,VJ,wC⟩:=Ww;obtain⟨_,_,Vx,Z⟩:=Vr;obtain⟨_,_,wS,aa⟩:=wL;obtain⟨_,_,gy,ab⟩:=gh;obtain⟨_,_,VY,ac⟩:=VS;obtain⟨_,_,fz,ad⟩:=fo;obtain⟨_,_,hp,ae⟩:=hw;obtain⟨_,_,Vy,af⟩:=Vs;obtain⟨_,_,Wj,ag⟩:=Wb;obtain⟨_,_,WQ,bp⟩:=Wx;obtain⟨_,_,WR,bq⟩:=Wy;obtain⟨_,_,Vo,wD⟩:=Wc;obtain⟨_,_,VL,wE⟩:=WA;obtain⟨_,_,wT,br⟩:=wM;obtain⟨_,_,VM,wF⟩:=WB;obtain⟨_,_,VN,wG⟩:=WC;obtain⟨_,_,Vm,bt⟩:=Vl;obtain⟨_,_,WS,bu⟩:=WD;obtain⟨_,_,ga,bv⟩:=fp;obtain⟨_,_,V7,wH⟩:=gi;obtain⟨_,_,wU,wI⟩:=fq;obtain⟨_,_,wV,bw⟩:=wN;obtain⟨_,_,wW,bz⟩:=wO;obtain⟨_,_,Wk,ca⟩:=Wd;obtain⟨_,_,gz,cb⟩:=gj;obtain⟨_,_,WT,ce⟩:=WE;obtain⟨_,_,hq,cf⟩:=hx;obtain⟨_,_,Vz,cg⟩:=Vt;obtain⟨_,_,VA,ch⟩:=Vu;obtain⟨_,_,ha,ci⟩:=gk;obtain⟨_,_,WU,cj⟩:=WF;obtain⟨_,_,VZ,ck⟩:=VT;obtain⟨_,_,Wl,cm⟩:=We;obtain⟨_,_,hr,cn⟩:=hy;obtain⟨_,_,gb,co⟩:=fr;obtain⟨_,_,hd,cq⟩:=gl;obtain⟨_,_,he,cr⟩:=gm;obtain⟨_,_,hs,cs⟩:=hm;obtain⟨_,_,WV,cu⟩:=WG;obtain⟨_,_,hf,cv⟩:=gn;obtain⟨_,_,gc,cx⟩:=ft;obtain⟨_,_,ht,ao⟩:=hn;obtain⟨_,_,hg,ap⟩:=gp;obtain⟨_,_,Wm,aq⟩:=Wf;obtain⟨_,_,WW,ar⟩:=WH;obtain⟨_,_,wq,as⟩:=we;obtain⟨_,_,gd,au⟩:=fu;obtain⟨_,_,ge,av⟩:=fv;obtain⟨_,_,VO,aw⟩:=VF;obtain⟨_,_,VB,ax⟩:=Vv;obtain⟨_,_,wX,ay⟩:=wP;obtain⟨_,_,hh,az⟩:=gq;obtain⟨_,_,im,ba⟩:=il;obtain⟨_,_,hz,ia,cy⟩:=ka;obtain⟨_,_,ib,ic,cz⟩:=kb;obtain⟨_,_,ie,ig,da⟩:=kd;obtain⟨_,_,ih,db⟩:=kk;obtain⟨_,_,ii,ij,dc⟩:=kl;obtain⟨_,_,io,ip,bb⟩:=WI;obtain⟨_,_,iq,ir,bc⟩:=fx;obtain⟨_,_,bd,be,wJ⟩:=wf;obtain⟨_,_,bf,bg,wK⟩:=wg;obtain⟨_,_,iu,iw,bh⟩:=WK;obtain⟨_,_,ix,iy,bj⟩:=VG;obtain⟨_,_,iz,ja,bm⟩:=WL;obtain⟨_,_,jb,jd,bn⟩:=fy;obtain⟨_,_,js,jx,bo⟩:=wQ;obtain⟨_,_,wu,wv,Vh⟩:=wj;obtain⟨_,_,V0,V1,Ve⟩:=VU;obtain⟨_,_,hk,fi,V8⟩:=gr;obtain⟨_,_,fj,fk,V9⟩:=gt;obtain⟨_,_,WX,WY,VP⟩:=WM;obtain⟨_,_,WZ,W3,VQ⟩:=WN;obtain⟨_,_,wY,wZ,Vn⟩:=wR;obtain⟨_,_,V2,V3,Vf⟩:=VW;obtain⟨_,_,V4,V5,Vg⟩:=VX;obtain⟨_,_,W6,W7,VR⟩:=WO;obtain⟨_,_,VC,VD,Vd⟩:=Vw;obtain⟨_,_,hu,hv,Ws⟩:=ho;obtain⟨_,_,ww,wz,Vi⟩:=wm;obtain⟨_,_,fl,fn,wb⟩:=gu;obtain⟨_,_,Wn,Wo,Vp⟩:=Wg;obtain⟨_,_,Wq,Wr,Vq⟩:=Wh;have e:=di.symm.trans (Xa X G im);cases e;have Y0:XAt K u:=qfS X0 qdf q0 y A;have Y1:XAt K C:=qfS X1 qdf q1 y A;have Y2:XAt K r:=qfS X2 qdf q2 y A;have Y3:XAt K t:=qfS X3 qdf q3 y A;have Y4:XAt K c:=qfS X4 qfQ q4 y A;obtain⟨dv,la,dw,lb⟩:=kits nd (λi x=>match i,x with | 0,_=>X0 | 1,_=>X1 | 2,_=>X2 | 3,_=>X3 | n+4,h=>absurd h (by simp only[Yk,xr];lk)) X4;have o:Cls K g:=⟨w1,w2,w3,w4⟩;have f:Cls K d:=⟨ef,eg,eh,ei⟩;have F:Cls K p:=⟨dj,dk,dl,dm⟩;have J:Cls K q:=⟨eo,ep,eq,er⟩;have dg:W.kitOne K (.ref p) (.ref B)=some true:=qhr (Yq.mpr λz=>dt (Xz z)) E L du;have dh:W.kitOne K (.ref q) (.ref B)=some true:=qhr (Yq.mpr λz=>ez (Xz z)) E L fb;have D:∀ i,i<5->([u,C,r,t,c,c,c,c,d,p,q]:LI).getD i B=([u,C,r,t]:LI).getD i c:=λi x=>match i,x with | 0,_=>rfl | 1,_=>rfl | 2,_=>rfl | 3,_=>rfl | 4,_=>rfl | n+5,h=>absurd h (by lk);have T:Txt K mg (λi=>([u,C,r,t,c,c,c,c,d,p,q]:LI).getD i B) g:=⟨YR X G z0,
  YR X G z1,
  YR X G z2,
  YR X G z3,
  YR X G z4,
  YR X G z5,
  YR X G z6,
  YR X G z7,
  YR X G z8,
  YR X G z9,
  YR X G kp,
  YR X G kv,
  YR X G kw,
  ⟨M,Xa X G u0⟩,
  ⟨N,Xa X G u1⟩,
  ⟨O,Xa X G u2⟩,
  Xa X G C0_,
  Xa X G C1_,
  Xa X G C2_,
  Xa X G C3_,
  Xa X G C4_,
  ⟨v1,v3,v4⟩,
  λi x=>match i,x with | 0,_=>Y0 | 1,_=>Y1 | 2,_=>Y2 | 3,_=>Y3 | 4,_=>Y4 | n+5,h=>absurd h (by lk),
  λi x=>match i,x with | 0,_=>y0 | 1,_=>y1 | 2,_=>y2 | 3,_=>y3 | n+4,h=>absurd h (by lk),
  (λi j x hj=>by rw[D i (by lk),D j (by lk)];show dv i j x hj),
  (λi x=>by rw[D i (by lk)];show dw i x),
  λi x=>match i,x with | 0,_=>dz | 1,_=>ea | 2,_=>eb | 3,_=>ec | n+4,h=>absurd h (by lk),
  o,
  w7,
  w8,
  w9,
  ⟨P,Xa X G fe⟩,
  ⟨R,Xa X G ff⟩,
  Xa X G Cw_,
  Xa X G Cp_,
  f,
  el,
  em,
  YR X G kx,
  YR X G de,
  YR X G dd,
  XU.mp fc,
  Xa X G Ck_,
  Xa X G Cr_,
  ⟨S,Xa X G fh⟩,
  λi x H a dx fs e=>(by rcases x with rfl | rfl;show .ins e F dr y A ds;show .ins e J ew y A ey),
  λi x=>(by rcases x with rfl | rfl;show dg;show dh),
  Xa X G Cl_⟩
 obtain⟨oc,od,kV,df,pm,an,cd,ct,sl,rfl,lk,hc⟩:=ba.ex;show⟨W.fnOf "law" "law" (qbk qbr) (zD qbr) (qf qbr) .none kV df pm an cd ct,λs v=>.of_eq rfl,λbase _ _=>?_⟩;have d_once:CMethOk l.prog w K mg base CX0 1 c "OnceError" "__init__" wqN (spOnce K):=fc_mk X G C4_ r1 ih r3 db (ok_once db T);have d0:XMakeOk l.prog w K mg base 2 u "NoPlace" wqZ (spX u (qec 0)):=qhz X G C0_ Y0 q0 hz ia cy (ok_NoPlace cy T d_once);have d2:XMakeOk l.prog w K mg base 2 r "TooMany" wq2 (spX r (qec 2)):=qhz X G C2_ Y2 q2 ib ic cz (ok_TooMany cz T d_once);have d3:XMakeOk l.prog w K mg base 2 t "Odd" wq3 (spX t (qec 3)):=qhz X G C3_ Y3 q3 ie ig da (ok_Odd da T d_once);have b:=@fg_mk l.prog w K mg base h;have m:=@fm_mk l.prog w K mg base;have fw:=@fw_mk l.prog w K mg base h;have d_name:=b X G V6 wB (ok_name wB T);have d_place:=b X G VJ wC (ok_place wC d_name);have d_two:=b X G Vx Z (ok_two Z T d_place);have d_bit:=b X G gx Y (ok_bit Y);have d_nums:=b X G wS aa (ok_nums aa T d_name);have d_near:=b X G gy ab (ok_near ab T d_two d_bit);have q_web:MakeOk l.prog w K mg base CX0 5 g "Web" wqC (spWeb g):=fw X G Cw_ w5 w6 ii ij dc (ok_web dc T d_nums d_near);have m_has:=m o bd be wJ (ok_has wJ T d_place);have o_num:=ok_num wK T m_has;have m_num:=m o bf bg wK o_num;have m_bb:=m o ix iy bj (ok_bb bj T m_num);have m_nin:=m o js jx bo (ok_nin bo T d_bit);have m_bs:=m o iu iw bh (ok_bs bh T m_bb m_nin);have m_pls:=m o io ip bb (ok_pls bb T);have m_ts:=m o iq ir bc (ok_ts bc T m_bs);have m_pcs:=m o iz ja bm (ok_pcs bm T d_bit (b X G VY ac (ok_pc ac T d_bit)) m_nin);have d_wi:=b X G gv aj (ok_wi aj T m_pls (b X G wp ak (ok_sf ak T m_bs)));have d_ofs:=b X G VI ai (ok_ofs ai T);have d_sd:=b X G VH wA (ok_sd wA T d_wi d_ofs m_ts m_pls);have b_sd:=b X G VH wA (ok_sdO wA T d3 d_wi d_ofs (b X G gw al (ok_ro al T)) m_ts m_pls);have qic:=b X G Wi U (ok_in U (b X G WP am (ok_wh am T)));have d_sm:=b X G Wj ag (ok_sm ag T qic);have d_mb:=b X G Vy af (ok_mb af T d_sm);have d_les:=b X G WR bq (ok_les bq);have d_sts:=b X G WQ bp (ok_sts bp T d_les);have d_pk:=b X G hp ae (ok_pk ae T d_mb d_sm d_les d_sts d_bit);have d_pw:=b X G wT br (ok_pw2 br T m_pcs);have d_ns:=b X G Vo wD (ok_nS wD T m_num d_sd d_pw);have d_fs:=b X G VL wE (ok_fS wE T d_ns d_pw);have d_be:=b X G Vm bt (ok_be bt T m_bb);have d_na:=b X G WS bu (ok_na bu T);have d_es:=b X G VN wG (ok_es wG T d_ns d_pk d_be d_na m_bb);have d_bi:=b X G ga bv (ok_bi bv T m_num);have d_td:=b X G VM wF (ok_td wF T d_es d_fs d_na d_pk d_be d_bi);have b_name:=b X G V6 wB (ok_nameG wB T);have b_place:=b X G VJ wC (ok_placeG wC b_name);have b_has:=m o bd be wJ (ok_hasT wJ T b_place);have d_ul:=b X G Vk ah (ok_ulN ah T m_has);have d_sb:=b X G wV bw (ok_sbN bw T d_ul (b X G fz ad (ok_su ad)) d_be);have d_ie:=b X G V7 wH (ok_ieN wH T d_ns d_sb);have d_io:=b X G wU wI (ok_ioN wI T d_fs d_sb d_bi);have g_num:MethOk l.prog w K mg base (CX1 l.prog w) 4 g "number_of" wqd (qhp (λi=>([u,C,r,t,c,c,c,c,d,p,q]:LI).getD i B) g):=m o bf bg wK (FnOk.or o_num.any (ok_numB wK T b_has d0));have b_ns:=b X G Vo wD (ok_nSB wD T g_num b_sd);have b_fs:=b X G VL wE (ok_fSB wE T b_ns);have b_es:=b X G VN wG (ok_esB wG T b_ns);have b_td:=b X G VM wF (ok_tdB wF T b_es);have b_ie:=b X G V7 wH (ok_ieB wH T b_ns);have b_io:=b X G wU wI (ok_ioB wI T b_fs);have b_fe:=b X G wW bz (ok_feB bz T b_ns);have b_gt:=b X G Wk ca (ok_gtB ca T b_ns);have b_rl:=b X G WU cj (ok_rlB cj T b_td);have d_do:=b X G gd au (ok_door au T b_td b_ie b_io b_fe b_gt b_rl);have q_road:MakeOk l.prog w K mg base CX0 5 d "Road" wqG (spWkI (λi=>([u,C,r,t,c,c,c,c,d,p,q]:LI).getD i B) g):=fw X G Cp_ ej ek wu wv Vh (ok_wkI Vh T m_has);have r_ps:=m f V0 V1 Ve (ok_ps Ve T);have r_tb:=m f VC VD Vd (ok_tb Vd T m_num);have r_tg:=m f V2 V3 Vf (ok_tg Vf T r_tb);have r_tl:=m f V4 V5 Vg (ok_tlf Vg T r_tg m_ts);have r_mv:=m f W6 W7 VR (ok_rm VR T r_ps r_tg m_bs r_tb);have r_go:=m f hu hv Ws (ok_rgo Ws T (m f wY wZ Vn (ok_rmvt Vn T r_mv)));have r_wl:=m f ww wz Vi (ok_rwl Vi T r_tl m_pls q_web);have r_gn:=m f hk fi V8 (ok_gon V8 T);have r_ha:=m f fj fk V9 (ok_ha1 V9 T);have r_en:=m f WX WY VP (ok_end1 VP T r_mv);have r_lo:=m f WZ W3 VQ (ok_los1 VQ T r_en r_ha);have r_tw:=m f fl fn wb (ok_twn wb T q_road);have d_fo:=b X G WT ce (ok_fo ce T);have ik:=m J Wq Wr Vq (ok_nch Vq T r_mv d_fo);have k_ch:=m F Wn Wo Vp (ok_kcO Vp T b_gt d_fo r_wl r_ps r_mv);have d_pl:=b X G Vz cg (ok_plP cg T);have d_mt:=b X G hq cf (ok_mt cf T d_pl r_en r_ha r_go ik k_ch r_lo);have d_wo:=b X G ha ci (ok_wo ci T r_en r_ha r_lo k_ch r_mv);have d_aw:=b X G VA ch (ok_aw ch T d_pl (b X G gz cb (ok_hd1 cb qic)) d2 d_wo r_tw) (hb:=λ_ _ _ _ _ _=>lN5 λ_ _ _ _ _=>rfl);have d_ra:=b X G VZ ck (ok_ra1 ck T d_aw r_tl);have d_bes:=b X G WV cu (ok_beI cu);have d_si:=b X G hf cv (ok_siI cv T d_bes);have d_nr:=b X G gc cx (ok_nrI cx T d_si);have d_fa:=b X G ht ao (ok_frI ao T d_si);have d_of:=b X G hg ap (ok_of ap T d_bes);have d_tws:=b X G wq as (ok_tw as T d_si);have d_ri:=b X G ge av (ok_ri av T d_bes);have d_wb:=b X G hs cs (ok_wb cs T q_web);have d_tk:=b X G gb co (ok_tk co);have d_dr:=b X G he cr (ok_dr cr T (b X G hr cn (ok_bx cn T)) d_tk (b X G hd cq (ok_nm7 cq T d_tk)));have d_rg:=b X G hh az (ok_rgt az T d_td (b X G Wm aq (ok_levN aq T d_nr d_fa d_of)) (b X G WW ar (ok_lodN ar T d_nr d_fa d_of)) d_ie d_io);have d_ro:=b X G VO aw (ok_rOd aw T I d_do d_ri);have d_np:=b X G wX ay (ok_np ay T ed d_do);have d_kr:=b X G VB ax (ok_kr ax T I ee dy d_bes d_tws q_road d_ri r_gn d_mt ⟨⟨es,eu,et⟩,Xa X G Cr_⟩ ⟨⟨dn,dq,dp⟩,Xa X G Ck_⟩ k_ch d_ra);show ok_law71 ba T (b X G Wl cm (ok_ca7 cm T)) d_dr d_wb d_tws d_rg d_ro d_kr d_np (m o jb jd bn (ok_tdW bn T m_ts))
theorem walk{l:PySem.W.OpenLaw}{q:Program}{loose:LS}{XP:(Str->Option Value)->Heap->Prop}{YP:World->Heap->Prop}{d:DefRec}{K:Params->yh}(j:l.most=some 63)(b:d.params.defaults=[])
  (i:∀(w:World) (h:Heap),YP w h->(K w.params).In h)
  (F:∀(w:World) (mg:Str->Option Value) (c:Addr) (h:Heap),(K w.params).In h->h.Ns mainGlobals mg->mg d.name=some (.ref c) ->
   ∃ e:FuncData,(∀(s:Shared) (u:Value),BindsTo s e ⟨[u],[]⟩ [("_law_script",u)])/\∀ base:Heap,(K w.params).In base->base.Ns mainGlobals mg->FnOk l.prog w (K w.params) mg base CX0 18 c e wqqf (spLaw (K w.params))) :
  PySem.W.WalkO q loose XP YP l.row.toRowW d [] (λf vs=>PySem.call f vs):=
 L2.walk_of (n:=63) (k:=18) (x:="_law_script") (CX:=λ_=>CX0) (sp:=λw=>spLaw (K w.params)) j (by decide) b ⟨rfl,by decide,by decide,rfl⟩ i F (λ_ _ a ns hl _ g=>⟨a,ns,rfl,g,hl,λ_=>rfl⟩) λ_ _ _ _ _ z=>z
end K71
set_option maxRecDepth 100000 in
set_option maxHeartbeats 0 in
theorem PySem.Challenge.cw_onceroad_k71_sets_told_holds : PySem.Challenge.rw_onceroad_k71_sets_told.Holds := by
  w_on; o_law
  show PySem.W.holds_open (q := K71.Q) (loose := []) (Xt := K71.Xt) (XP := PySem.W.XL K71.Q []) (Yf := PySem.W.Hook.obs K71.Hk) (Ya := PySem.W.Hook.val K71.Hk) (YP := PySem.W.Hook.says (PySem.W.kHook K71.Kf K71.ks K71.ks_eq)) (N := K71.NN) K71.hl (PySem.W.Hook.of K71.Hk) (PySem.W.Hook.keeps K71.Hk) (λs e => PySem.W.xl_of s (Bool.and_eq_true_iff.mp e).1) PySem.W.XL.keeps (by rfl) (by rfl) (by rfl) (λs e => PySem.W.recFacts_of (Bool.and_eq_true_iff.mp e).2) (by rfl) (by first | assumption | room) (by room) ⟨rfl, rfl, rfl, rfl, rfl, by room⟩ ?hw ?hc
  (case hw => w_witness2)
  k_fill
  show K71.walk (l := PySem.Challenge.rw_onceroad_k71_sets_told) rfl rfl (λw h Y => PySem.W.kIn_of Y) ?F
  case F =>
    intro w mg fa h KX G hmg
    refine' K71.all_mk KX G hmg ?_ ?_ ?_ ?_ ?_ ?_ ?_ ?_ ?_ ?_ ?_ ?_ ?_ ?_ ?_ ?_ ?_ ?_ ?_ ?_ ?_ ?_ ?_ ?_ ?_ ?_ ?_ ?_ ?_ ?_ ?_ ?_ ?_ ?_ ?_ ?_ ?_ ?_ ?_ ?_ ?_ ?_ ?_ ?_ ?_ ?_ ?_ ?_ ?_ ?_ ?_ ?_ ?_ ?_ ?_ ?_ ?_ ?_ ?_ ?_ ?_ ?_ ?_ ?_ ?_ ?_ ?_ ?_ ?_ ?_ ?_ ?_ ?_ ?_ ?_ ?_ ?_ ?_ ?_ ?_ ?_ ?_ ?_ ?_ ?_ ?_ ?_ ?_ ?_ ?_ ?_ ?_ ?_ ?_ ?_ ?_ ?_ ?_ ?_ ?_ ?_ ?_ ?_ ?_ ?_ ?_ ?_ ?_ ?_ ?_ ?_ ?_ ?_ ?_ ?_ ?_ ?_ ?_ ?_ ?_ ?_ ?_ ?_ ?_ ?_ ?_ ?_ ?_ ?_ ?_ ?_ ?_ ?_ ?_ ?_ ?_ ?_ ?_ ?_ ?_ ?_ ?_ ?_ ?_ ?_ ?_ ?_ ?_ ?_ ?_ ?_ ?_ ?_ ?_ ?_ ?_ ?_ ?_ ?_ ?_ ?_ ?_ ?_ ?_ ?_ ?_ ?_ ?_ ?_ ?_ ?_ ?_ ?_ ?_ ?_ ?_ ?_ ?_ ?_ ?_ ?_ ?_ ?_ ?_ ?_ ?_ ?_ ?_ ?_ ?_ ?_ ?_ ?_ ?_ ?_ ?_ ?_
    any_goals first | k_is | decide
    any_goals first | k_is | decide | show⟨_, _, by k_is, L2.fun_mk (by k_is) (by k_is) (by k_is)⟩ | show⟨_, _, by k_is, by k_is, L2.fun_mk (by k_is) (by k_is) (by k_is)⟩ | show⟨_, _, _, _, _, _, _, _, _, _, _, _, _, _, _, by k_is⟩ | show⟨by k_is, by k_is, by k_is, by k_is, by k_is, by k_is, by k_is, by k_is⟩ | kernel_rfl | fail
