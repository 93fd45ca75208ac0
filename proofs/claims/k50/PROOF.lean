import PyProof.Rows.All
import Wide.All
import OpenK.AllK
import Wide.FinOn
import PyProof.EqAt
import PyProof.EqKinds
import PyProof.TupleCall
import Lean
import PySem.Challenge.RW_onceroad_k50_whole_three_sorts
set_option Elab.async false
set_option linter.all false
set_option maxRecDepth 100000
local macro_rules | `(tactic| show $e)=>`(tactic| refine $e)
abbrev LX:=List Int
abbrev LQ:=List PySem.Addr
abbrev LN:=List Nat
abbrev LS:=List PySem.Str
abbrev LP:=List (PySem.Str×PySem.Str)
local macro_rules | `(tactic| room)=>`(tactic| decide +kernel)
local macro_rules | `(tactic| lk)=>`(tactic| first | lia | omega)
set_option hygiene false
local macro_rules | `(wq5 $a $b $c $d)=>`(DefOk P w K mg base CX0 $a $b $c $d)
local macro_rules | `(wq6 $a $b $c $d $e)=>`(MethOk P w K mg base CX0 $a $b $c $d $e)
local macro_rules | `(wq7 $a $b $c $d $e)=>`(FnOk P w K mg base CX0 $a $b $c $d $e)
local macro_rules | `(wq8 $a $b $c $d $e)=>`(MakeOk P w K mg base CX0 $a $b $c $d $e)
set_option hygiene true
noncomputable section
abbrev wh:LS:=["_law_script","_law_cell_here","_law_purse_here","_law_many_here","_law_names_here","_law_ties_here","_law_bits_here","_law_table_here","_law_web","_law_words","_law_odd_here","_law_bar","_law_inside","_law_piece","_law_some","_law_pairs"]
abbrev wl:LS:=["_law_names_here","_law_words","_law_odd_here","_law_pairs","_law_partner","_law_place","_law_alone","_law_piece","_law_out","_law_bar"]
abbrev wy:LS:=["_law_purse_here","_law_many_here","_law_bits_here","_law_table_here","_law_room_here","_law_found","_law_low","_law_rest","_law_near","_law_ways","_law_other"]
abbrev wqa:LS:=["_law_purse_here","_law_many_here"]
abbrev wqb:LS:=["self","place"]
abbrev wqc:LS:=["_law_many_here","_law_bits_here","_law_room_here","_law_found","_law_k","_law_piece","_law_line","_law_fresh"]
abbrev wqd:LS:=["_law_purse_here","_law_many_here","_law_letters","_law_first","_law_step","_law_way","_law_stem","_law_found","_law_k","_law_sign"]
abbrev wqe:LS:=["web","thing"]
abbrev wqf:LS:=["web","pairs"]
abbrev wqg:LS:=["_law_names_here","_law_bits_here","_law_words","_law_bar","_law_pieces_here"]
abbrev wqh:LS:=["self"]
abbrev wqi:LS:=["_law_purse_here","_law_many_here","_law_bits_here","_law_table_here"]
abbrev wqj:LS:=["_law_turn","_law_purse_here","_law_names_here","_law_many_here","_law_bits_here","_law_table_here"]
abbrev wqk:LS:=["_law_names_here","_law_words","_law_odd_here","_law_pairs"]
abbrev wql:LS:=["web","bar"]
abbrev wqm:LS:=["web","partners","names","steps","paired"]
abbrev wqn:LS:=["numbers","thing"]
abbrev wqo:LS:=["_law_place","_law_words"]
abbrev wqp:LS:=["self","thing"]
abbrev wqq:LS:=["_law_many_here","_law_bits_here","_law_room_here"]
abbrev wqr:LS:=["_law_many_here","_law_gone"]
abbrev wqs:LS:=["_law_purse_here","_law_names_here","_law_pairs"]
abbrev wqt:LS:=["_law_names_here","_law_bits_here","_law_words"]
abbrev wqu:LS:=["self","names","ties"]
abbrev wqv:LS:=["web","pairs","thing"]
abbrev wqw:LS:=["self","places","out","place","names","kept"]
abbrev wqx:LS:=["bits","number"]
abbrev wqy:LS:=["self","one","other"]
abbrev wqz:LS:=["self","place","row"]
abbrev wqA:LS:=["self","web","pairs"]
abbrev wqB:LS:=["web"]
abbrev wqC:LS:=["_law_purse_here","_law_most"]
abbrev wqD:LS:=["_law_j","_law_table_here","_law_room_here","_law_rest"]
abbrev wqE:LS:=["self","one","other","ones","others","meeting","ring"]
abbrev wqF:LS:=["web","place","free"]
abbrev wqG:LS:=["_law_place","_law_alone","_law_words","_law_partner"]
abbrev wqH:LS:=["_law_names_here","_law_ties_here"]
abbrev wqI:LS:=["_law_many_here","_law_ties_here"]
abbrev wqJ:LS:=["_law_many_here","_law_bits_here"]
abbrev wqK:LS:=["web","pairs","partners"]
abbrev wqL:LS:=["_law_j","_law_rest","_law_bits_here","_law_low"]
abbrev wqM:LS:=["_law_script","_law_k"]
abbrev wqN:LS:=["self","bits"]
abbrev wqO:LS:=["self","one","other","bases"]
abbrev wqP:LS:=["_law_k","_law_letters","_law_purse_here"]
abbrev wqQ:LS:=["self","ring","meeting","within","place"]
abbrev wqR:LS:=["_law_k","_law_words","_law_names_here"]
abbrev wqS:LS:=["web","pairs","row","partners","steps"]
abbrev wqT:LS:=["web","partners","names"]
abbrev wqU:LS:=["_law_place","_law_web","_law_words"]
abbrev wqV:LS:=["self","ring","meeting"]
abbrev wqW:LS:=["_law_cell_here"]
abbrev wqX:LS:=["self","places"]
abbrev wqY:LS:=["place","ring","self","meeting"]
abbrev wqZ:LS:=["_law_piece","_law_names_here"]
abbrev wq0:LS:=["web","pairs","row"]
abbrev wq1:LS:=["web","place"]
abbrev wq2:LS:=["_law_script"]
abbrev wq3:LS:=["thing"]
abbrev wq4:LS:=["numbers","ties"]
theorem wq9:0<=PySem.sizeLine:=by decide
theorem wqqa:1<=PySem.sizeLine:=by decide
theorem wqqb:2<=PySem.sizeLine:=by decide
theorem ya{a b:Type}{as:List a}(f:a→b):(as.map f).length=as.length:=List.length_map f
theorem yb{a:Type}{l:List a}{i:Nat}(h:i<l.length):l[i]?=some l[i]:=List.getElem?_eq_getElem h
theorem yc{b:Type}{l:List b}{i:Nat}{a:b}:l[i]?=some a↔∃h:i<l.length,l[i]=a:=List.getElem?_eq_some_iff
theorem yd{a b:Type}{f:a→b}{l:List a}{i:Nat}:(l.map f)[i]?=l[i]?.map f:=List.getElem?_map
theorem ye{b:Type}{l:List b}{i:Nat}{a:b}(h:l[i]?=some a):a∈l:=List.mem_of_getElem? h
theorem yf{b:Type}{a:b}{l:List b}(h:a∈l):∃i:Nat,l[i]?=some a:=List.getElem?_of_mem h
abbrev yg:=PySem.W.Frag
theorem yh(n:Nat):n≤n:=Nat.le_refl n
theorem yi{a b c:Nat}(h:a≤b)(k:b≤c):a≤c:=Nat.le_trans h k
theorem yj{a b c:Nat}(h:a<b)(k:b≤c):a<c:=Nat.lt_of_lt_of_le h k
theorem yk{p:Prop}[Decidable p](h:decide p=true):p:=of_decide_eq_true h
theorem yl{p:Prop}[Decidable p](h:¬p):decide p=false:=decide_eq_false h
theorem ym{c:Type}{a b:c}(h:some a=some b):a=b:=Option.some.inj h
theorem yn{c d:Type}{f:c→d}{x:Option c}{b:d}:x.map f=some b↔∃a,x=some a∧f a=b:=Option.map_eq_some_iff
theorem yo{b:Type}{a:b}{l:List b}:(a::l).Nodup↔a∉l∧l.Nodup:=List.nodup_cons
theorem yp{a:Type}{p:a→Bool}{as:List a}{x:a}:x∈as.filter p↔x∈as∧p x=true:=List.mem_filter
theorem yq{A B:Prop}(h:B):if false=true then A else B:=h
def yr:=@PySem.wpAny_bind
def yt:=@List.length_append
def yu:=@List.map_append
def yv:=@PySem.wpAny_pure
def yw:=@PySem.Heap.get?_push_of_some
def yx:=@List.mem_cons
def yy:=@List.mem_singleton
def yz:=@List.size_toArray
def yA:=@List.mem_append
def yB:=@if_neg
def yC:=@List.mem_cons_of_mem
def yD:=@decide_eq_true
def yE:=@decide_eq_true_iff
def yF:=@List.length_filter_le
def yG:=@if_pos
def yH:=@Or.inl
def yI:=@List.mem_map
def yJ:=@List.length_cons
def yK:=@List.take_add_one
def yL:=@List.filter_cons
def yM:=@PySem.F.plainAttrs_list
def yN:=@PySem.Heap.lt_size
def yO:=@List.getElem?_append_right
def yP:=@List.take_length
def yQ:=@List.length_take
def yR:=@List.mem_append_left
def yS:=@PySem.PassesOwn.never
def yT:=@Nat.ne_of_lt
def yU:=@List.mem_cons_self
def yV:=@List.mem_append_right
def yW:=@List.filter_append
def yX:=@Nat.le_of_lt
def yY:=@Bool.and_eq_true
def yZ:=@PySem.Heap.get?_push_size
def y0:=@Int.toNat_natCast
def Yb:=@List.not_mem_nil
def Yc:=@PySem.F.slot_list_append
def Yd:=@PySem.F.type_list_append
def Ye:=@List.append_nil
def Yg:=@List.getElem?_append_left
def Yh:=@Classical.byContradiction
def Yi:=@List.nodup_append
def Yj:=@Nat.ne_of_gt
def Yk:=@List.getD_eq_getElem?_getD
def Yl:=@Nat.testBit_two_pow
def Ym:=@Ne.symm
def Yn:=@Bool.eq_iff_iff
def Yo:=@List.mem_range
def Yp:=@Nat.lt_of_le_of_lt
def Yq:=@decide_eq_decide
def Yr:=@List.filter_nil
def Ys:=@List.append_assoc
def Yt:=@List.idxOf_lt_length_of_mem
def Yu:=@Bool.false_ne_true
def Yv:=@List.append_of_mem
def Yw:=@List.all_eq_true
def Yx:=@List.filter_congr
def Yy:=@beq_iff_eq
def Yz:=@PySem.wpAny_holding
def YA:=@PySem.sizeLine_eq
def YB:=@Nat.lt_irrefl
def YC:=@List.map_cons
def YD:=@PyProof.Rows.callWith_type1
def YE:=@PySem.boot_len
def YF:=@List.length_reverse
def YG:=@List.range_succ
def YH:=@or_false
def YI:=@PySem.W.mg_none_of
def YJ:=@Bool.or_eq_true
def YK:=@List.any_eq_true
def YL:=@List.length_replicate
def YM:=@List.pairwise_map
def YN:=@List.getElem_idxOf
def YO:=@Nat.testBit_or
def YQ:=@List.take_of_length_le
def YR:=@beq_eq_false_iff_ne
def YS:=@Nat.zero_le
def YT:=@List.length_range
def YU:=@PySem.F.slot_NoneType_eq
def YV:=@List.length_erase_of_mem
def YW:=@List.length_nil
def YX:=@Bool.false_eq_true
def YY:=@PySem.wpAny_mono
def Y0:=@True.intro
def Y1:=@Nat.le_succ_of_le
def Y2:=@List.length_pos_of_mem
def Y3:=@PySem.wpAny_of_eq
def Y4:=@PyProof.Rows.boot_isinstance
def Y5:=@Nat.testBit_and
def Y6:=@List.pairwise_iff_getElem
def Y7:=@PySem.Heap.get?_update_self
def Y8:=@PySem.F.slot_dict_get
def Y9:=@Or.inr
def xi:=@List.lookup_cons
def xj:=@Option.isSome_iff_exists
def xk:=@List.Pairwise.imp_of_mem
def xl:=@PySem.F.slot_list_extend
def xm:=@PySem.F.type_list_extend
def xn:=@Sum.inr.inj
def xo:=@PySem.W.looks_findIn
def xp:=@Nat.pow_lt_pow_right
def xq:=@Nat.pow_le_pow_right
def xr:=@List.flatten_cons
def xt:=@Option.isSome_map
def xu:=@List.pairwise_singleton
def xv:=@Nat.lt_trichotomy
def xw:=@Nat.or_lt_two_pow
def xx:=@List.dropLast_concat_getLast
def xy:=@List.replicate_succ
def xz:=@Array.getElem?_eq_none
def xA:=@Nat.zero_add
def xB:=@Int.zero_add
def xC:=@List.cons.inj
def xD:=@List.getElem_mem
def xE:=@List.mem_flatMap
def xF:=@PySem.Heap.size_push
def xG:=@PySem.tupleKind_room_in1
def xH:=@List.lookup_append
def xI:=@List.perm_ext_iff_of_nodup
def xJ:=@Array.getElem?_toList
def xK:=@Array.getElem?_eq_getElem
def xL:=@PySem.wpAny_passesOwn
def xM:=@List.length_set
def xN:=@List.find?_cons
def xO:=@Int.natCast_pow
def xP:=@Nat.le_antisymm
def xQ:=@List.getElem?_set_ne
def xR:=@PySem.wpAny_truthy_bool
def xS:=@Nat.le_succ
def xT:=@PySem.wpAny_newObj_type
def xU:=@Bool.not_eq_true'
def xV:=@PyProof.Rows.slot_tuple_getitem
def xW:=@Array.length_toList
def xX:=@PySem.mem_of_lookup
def xY:=@PySem.W.looks_mroIn
def xZ:=@List.getElem_of_mem
def x0:=@List.flatMap_append
def Xa:=@List.mem_map_of_mem
def Xb:=@PySem.W.any_some
def Xc:=@List.getElem?_replicate
def Xd:=@Prod.ext
def Xe:=@beq_self_eq_true
def Xf:=@PySem.wpAny_getItem_str_slice
def Xg:=@PySem.F.slot_list_index
def Xh:=@Nat.le_add_right
def Xi:=@decide_eq_false_iff_not
def Xj:=@List.length_tail
def Xk:=@PySem.wpAny_field
def Xl:=@PySem.Calls.spliced_cons
def Xm:=@PySem.Calls.callWith_builtin
def Xn:=@PySem.F.entry_dict_get
def Xo:=@List.getElem?_tail
def Xp:=@Int.emod_lt_of_pos
def Xq:=@Nat.two_pow_pos
def Xr:=@List.filter_map
def Xs:=@List.any_cons
def Xu:=@PyProof.Rows.boot_list
def Xv:=@List.mem_iff_getElem?
def Xw:=@if_false
def Xx:=@PySem.codeAny_call_builtin
def Xy:=@PySem.Around.under_plainId
def Xz:=@List.mem_erase_of_ne
def XA:=@List.getLast?_append
def XB:=@Nat.mod_two_eq_zero_or_one
def XC:=@Nat.eq_of_testBit_eq
def XD:=@if_true
def XE:=@PySem.wpAny_call_entry
def XF:=@Nat.succ_le_succ
def XG:=@List.map_map
def XH:=@List.mem_flatten
def XI:=@Option.isSome_iff_ne_none
def XJ:=@List.filterMap_cons
def XM:=@PySem.F.plain_extend_loop
def XR:=@PySem.Heap.SameBut.update
def XS:=@Prod.mk.injEq
def XT:=@Option.map_some
def XU:=@Int.emod_nonneg
def XV:=@PySem.wpAny_Call_Name_kw
def XW:=@Option.isSome_some
def XX:=@PySem.wpAny_callSpecial?_slot
def XY:=@PySem.F.type_list_index
def XZ:=@PySem.Calls.spliced_nil
def X0:=@List.take_sublist
def X1:=@Nat.lt_trans
def X2:=@PySem.wpAny_pyIter_list
def X3:=@PyProof.Rows.bitAnd_m1
def X4:=@PySem.wpAny_nextOf_list_item
def X5:=@Nat.testBit_lt_two_pow
def X6:=@List.take_append_drop
def X7:=@Nat.lt_succ_self
def X8:=@List.length_drop
def X9:=@PySem.call_meets
def kc:=@Nat.lt_of_not_le
def ke:=@List.all_cons
def kf:=@PySem.Calls.evalArgs_plain
def kg:=@PySem.wpAny_execs_nil
def kh:=@PySem.SeqAt.EqAt.same
def ki:=@PySem.post_val_or_str
def kj:=@PySem.F.slot_zip_next
def kn:=@PySem.codeAny_builtin
def ko:=@PySem.wpAny_updateSeq
def kq:=@List.all_append
def kx:=@PySem.W.plainGet_of
def ky:=@PySem.W.looks_clsIn
def kz:=@List.filter_eq_self
def kA:=@List.filter_sublist
def kB:=@Nat.le_of_eq
def kC:=@PySem.codeAny_mono
def kD:=@PySem.wpAny_call
def kE:=@PySem.W.callWith_K
def kF:=@List.pairwise_cons
def kG:=@Option.isSome_none
def kH:=@PySem.slot_list_getitem
def kI:=@Int.one_mul
def kJ:=@decide_eq_true_eq
def kK:=@Bool.or_false
def kL:=@PySem.wpAny_attempt
def kM:=@List.sum_cons
def kN:=@List.map_tail
def kO:=@Nat.min_le_right
def kP:=@List.cons_append
def kQ:=@PySem.wpAny_askSetting
def kR:=@Nat.min_eq_right
def kS:=@PySem.wpAny_pyIter_zip
def kU:=@List.cons_ne_nil
def kW:=@List.mem_reverse
def kX:=@Nat.zero_testBit
def kY:=@PySem.call_meetsIn
def kZ:=@List.all_map
def k7:=@PySem.Txt.slice_le
def k8:=@Nat.sub_self
def k9:=@List.of_mem_zip
def Ka:=@List.forIn_cons
def Kb:=@Nat.min_eq_left
def Kc:=@Nat.le_max_left
def Kd:=@Nat.testBit_xor
def Ke:=@Nat.and_le_left
def Kg:=@List.forIn_nil
def Kh:=@List.nodup_nil
def Ki:=@decide_false
def Kj:=@Nat.sub_zero
def Kk:=@List.any_map
namespace L2
open PySem PySem.Spec PyProof.Rows
def q8(s:Stmt)(j:Nat):Stmt:=match s with
 | .ClassDef _ _ _ body _ _ _ _ _ _ _=>body.getD j (.Pass ⟨0,0,0,0⟩)
 | _=>.Pass ⟨0,0,0,0⟩
def qaG(s:Stmt):Arguments:=match s with
 | .FunctionDef _ a _ _ _ _ _ _ _ _=>a
 | _=>{ posonlyargs:=[],args:=[],vararg:=none,kwonlyargs:=[],kw_defaults:=[],kwarg:=none,defaults:=[] }
def qai(s:Stmt):List Stmt:=match s with
 | .FunctionDef _ _ b _ _ _ _ _ _ _=>b
 | _=>[]
def qg(s:Stmt):Scope:=match s with
 | .FunctionDef _ _ _ _ _ _ sc _ _ _=>sc
 | _=>{ kind:=.function,names:=[],isGenerator:=false,isCoroutine:=false }
end L2
namespace K50
open PySem L2 PyProof.Rows
def top(i:Nat):Stmt:=PySem.Challenge.pw_onceroad_k50_whole_three_sorts.main.body.getD i (.Pass ⟨0,0,0,0⟩)
abbrev qak:Stmt:=top 42
abbrev qaY:Stmt:=top 47
abbrev qas:Stmt:=top 48
abbrev jD:Stmt:=top 49
abbrev zA:Stmt:=top 50
abbrev qat:Stmt:=q8 (top 46) 0
abbrev qaZ:Stmt:=top 51
abbrev zD:Stmt:=q8 (top 46) 1
abbrev jM:Stmt:=q8 (top 46) 4
abbrev jN:Stmt:=q8 (top 46) 6
abbrev zE:Stmt:=q8 (top 46) 7
abbrev jv:Stmt:=q8 (top 46) 8
abbrev qau:Stmt:=q8 (top 46) 9
abbrev jA:Stmt:=q8 (top 46) 12
abbrev zF:Stmt:=q8 (top 46) 10
abbrev j3:Stmt:=top 52
abbrev qav:Stmt:=q8 (top 46) 2
abbrev qaa:Stmt:=top 12
abbrev zg:Stmt:=q8 (top 46) 5
abbrev zh:Stmt:=top 13
abbrev j4:Stmt:=q8 (top 17) 6
abbrev qV:Stmt:=q8 (top 17) 9
abbrev je:Stmt:=q8 (top 17) 10
abbrev jO:Stmt:=q8 (top 17) 11
abbrev qM:Stmt:=q8 (top 17) 8
abbrev jf:Stmt:=q8 (top 17) 7
abbrev zi:Stmt:=q8 (top 17) 5
abbrev zj:Stmt:=q8 (top 17) 0
abbrev zH:Stmt:=q8 (top 17) 1
abbrev jm:Stmt:=q8 (top 17) 2
abbrev j9:Stmt:=top 14
abbrev jj:Stmt:=top 20
abbrev qbt:Stmt:=top 19
abbrev qY:Stmt:=top 21
abbrev qaw:Stmt:=top 22
abbrev qa2:Stmt:=top 23
abbrev jP:Stmt:=top 27
abbrev qax:Stmt:=top 25
abbrev qay:Stmt:=top 26
abbrev qbw:Stmt:=top 54
abbrev qa3:Stmt:=top 55
abbrev qbx:Stmt:=top 56
abbrev qby:Stmt:=top 59
abbrev qam:Stmt:=top 57
abbrev qbz:Stmt:=top 58
abbrev qbA:Stmt:=top 60
abbrev qbB:Stmt:=top 61
abbrev qa5:Stmt:=top 64
abbrev zo:Stmt:=top 63
abbrev jw:Stmt:=q8 (top 46) 13
abbrev qan:Stmt:=top 15
abbrev jR:Stmt:=top 35
abbrev za:Stmt:=top 36
abbrev qa7:Stmt:=top 37
abbrev qcy:Stmt:=top 29
abbrev zT:Stmt:=top 30
abbrev qcz:Stmt:=top 31
abbrev qcB:Stmt:=top 38
abbrev qbD:Stmt:=top 39
abbrev qa8:Stmt:=top 62
abbrev zm:Stmt:=top 32
abbrev zn:Stmt:=top 33
abbrev qa9:Stmt:=top 66
abbrev zI:Stmt:=top 67
abbrev qbh:Stmt:=top 69
abbrev jK:Stmt:=top 65
abbrev qaK:Stmt:=top 68
abbrev qbo:Stmt:=top 70
end K50
namespace Hd
open PySem PySem.W PySem.Calls PyProof.Rows
variable{p:Program}{α:Type}
def qgg(c:String->Option Builtin)(p:Program)(w:World)(a:Nat)(b:Option Value):Nat->SharedT->Thread->Option SharedT
 | 0,_,_=>none
 | n+1,s,t=>match through t with
  | true=>some s
  | false=>match stepOk a b t with
   | false=>none
   | true=>match stepT (denote c) p w s t with
    | some (s',t')=>qgg c p w a b n s' t'
    | none=>none
theorem qfW{e:String->Option Builtin}{w:World}{a:Nat}{b:Option Value}:∀{n:Nat} {s d:SharedT} {t:Thread},qgg e p w a b n s t=some d->topRun e p w a b n s.abs t=some d.abs
 | 0,_,_,_,h=>by cases h
 | n+1,s,d,t,h=>by
  unfold qgg at h;unfold topRun
  cases f:through t with
  | true=>rw[f] at h;cases h;rfl
  | false =>
   rw[f] at h
   cases g:stepOk a b t with
   | false=>rw[g] at h;cases h
   | true =>
    rw[g] at h
    cases c:stepT (denote e) p w s t with
    | none=>rw[c] at h;cases h
    | some r=>obtain⟨i,j⟩:=r;rw[c] at h;rw[stepT_spec c];show qfW h
def qdP:List Obj->Nat->BT->BT
 | [],_,t=>t
 | o::r,n,t=>qdP r (n+1) (t.ins n o)
def qfn(P:Params)(a:OsState):SharedT:=⟨qdP (boot_heap P).objs.toList 0 .nil,(boot_heap P).objs.size,(boot_heap P).life,Array.mk [],boot_drawn,boot_toks,a⟩
theorem boot_abs(P:Params):absHeap (qdP (boot_heap P).objs.toList 0 .nil) (boot_heap P).objs.size (boot_heap P).life=boot_heap P:=by kernel_rfl
def qfz(p q:Program)(Xt:Shared->Bool){α:Type}(Yf:Shared->α)(N:Nat)(w:World)(a:OsState):=match (boot_heap w.params).isNs mainGlobals&&(Array.mk []:Array GenState).size==0 with
 | true=>(qgg treeTable p w (boot_heap w.params).objs.size ((boot_heap w.params).nsMap mainGlobals "__annotations__") N (qfn w.params a) (topStub p)).bind fun s=>match staticsOk (importedModules p.main.body) (boot_heap w.params) s.abs.heap&&namesBound p s.abs.heap&&gensDone s.abs&&laidKept (boot_heap w.params) s.abs.heap with
   | true=>some (openSeen q [] (importedModules p.main.body) Xt true s.abs,Yf s.abs)
   | false=>none
 | false=>none
noncomputable def lookS(p:Program)(N:Nat)(w:World)(a:OsState):Option Shared:=match (boot_heap w.params).isNs mainGlobals&&(Array.mk []:Array GenState).size==0 with
 | true=>(qgg treeTable p w (boot_heap w.params).objs.size ((boot_heap w.params).nsMap mainGlobals "__annotations__") N (qfn w.params a) (topStub p)).bind fun s=>match staticsOk (importedModules p.main.body) (boot_heap w.params) s.abs.heap&&namesBound p s.abs.heap&&gensDone s.abs&&laidKept (boot_heap w.params) s.abs.heap with
   | true=>some s.abs
   | false=>none
 | false=>none
theorem lookT_map(p q:Program)(Xt:Shared->Bool)(Yf:Shared->α)(N:Nat)(w:World)(a:OsState):qfz p q Xt Yf N w a=(lookS p N w a).map fun s=>(openSeen q [] (importedModules p.main.body) Xt true s,Yf s):=by
 unfold qfz lookS
 cases (boot_heap w.params).isNs mainGlobals&&(Array.mk []:Array GenState).size==0 with
 | false=>rfl
 | true =>
  dsimp only
  cases qgg treeTable p w (boot_heap w.params).objs.size ((boot_heap w.params).nsMap mainGlobals "__annotations__") N (qfn w.params a) (topStub p) with
  | none=>rfl
  | some s =>
   show(match _ with | true=>_ | false=>_)=Option.map _ (match _ with | true=>_ | false=>_);cases staticsOk (importedModules p.main.body) (boot_heap w.params) s.abs.heap&&namesBound p s.abs.heap&&gensDone s.abs&&laidKept (boot_heap w.params) s.abs.heap<;>rfl
theorem packs{b A B C D E Y:Type}{o:Option b}{f:b->A×B×C×D×E}{g:b->Y}{x:A×B×C×D×E}{y:Y}(h1:o.map (fun s=>((f s).1,(f s).2.1,(f s).2.2.1,(f s).2.2.2.1))=some (x.1,x.2.1,x.2.2.1,x.2.2.2.1))(h:o.map (fun s=>(f s).2.2.2.2)=some x.2.2.2.2)(c:o.map g=some y):o.map (fun s=>(f s,g s))=some (x,y):=by
 cases o with
 | none=>cases c
 | some s =>
  have a:=ym h1;have d:=ym h;have e:=ym c;have i:=congrArg Prod.fst a;have j:=congrArg (fun z=>z.2.1) a;have l:=congrArg (fun z=>z.2.2.1) a;have m:=congrArg (fun z=>z.2.2.2) a;show congrArg some (Xd (Xd i (Xd j (Xd l (Xd m d)))) e)
theorem left_of{q:Program}{Xt:Shared->Bool}{Yf:Shared->α}{Ya:World->α}{N:Nat}(e:opening p=plainProg p.main.scope.names)(n:Nat.ble 600 N=true)(f:∀ s,fenceModules? p s=some s)
  (h:∀ w a,qfz p q Xt Yf N w a=some (openGood q [],Ya w)):LeftO p q [] Xt Yf Ya N:=fun w=>by
 obtain⟨⟨m,l,d,k,a⟩,i,j⟩:=yn.mp (boot_open e n f w);obtain⟨rfl,rfl,rfl,rfl⟩:m=boot_heap w.params/\l=Array.mk []/\d=boot_drawn/\k=boot_toks:=by simpa using j
 have b:=h w a;unfold qfz at b;unfold openEnds;rw[i];show(topFrom treeTable p w N _).map _=_;unfold topFrom;dsimp only;split at b
 .rename_i z
  rw[z];obtain⟨s,o,c⟩:=Option.bind_eq_some_iff.mp b;have r:=qfW o
  have g:(qfn w.params a).abs=⟨boot_heap w.params,Array.mk [],boot_drawn,boot_toks,a⟩:=by
   unfold qfn SharedT.abs;dsimp only;rw[boot_abs]
  rw[g] at r;dsimp only;rw[r];split at c
  .rename_i z2
   show((match staticsOk (importedModules p.main.body) (boot_heap w.params) s.abs.heap&&namesBound p s.abs.heap&&gensDone s.abs&&laidKept (boot_heap w.params) s.abs.heap with | true=>some s.abs | false=>none):Option Shared).map _=_;rw[z2];show c
  .cases c
 .cases b
end Hd
namespace K50
open PySem L2 PyProof.Rows PySem.W
abbrev NN:Nat:=20000
def Q:Program:=view PySem.Challenge.pw_onceroad_k50_whole_three_sorts [0,2,3,4,5,6,7,8,9,10,12,13,14,15,17,19,20,21,22,23,25,26,27,29,30,31,32,33,35,36,37,38,39,41,42,44,45,46,47,48,49,50,51,52,54,55,56,57,58,59,60,61,62,63,64,65,66,67,68,69,70]
noncomputable def en(P:Params)(t:Tok)(v:Value)(k:Str):DictEntry:=⟨PyData.keyHash P k,.str k t,v⟩
noncomputable def cO(t a b r:Nat)(x y z v:Value)(e u:Nat)(q n:Str):Obj:=⟨.type "code",none,.fields #[.str n t,.str q (t+1),.str "/claim/cut.py" (t+2),.int a 0,.int b 0,.int 0 0,.int 0 0,.int 3 0,.ref r,.bool true,.int 181 0,x,y,z,v,.ref e,.int u 0,.int a 0,.str "/claim/cut.py" (u+1)],#[]⟩
noncomputable def cE(t b a r:Nat)(x y z v:Value)(e u:Nat)(n:Str):Obj:=cO t b a r x y z v e u n n
noncomputable def fO(k c:Nat)(s:Stmt)(m q n:Str):Obj:=⟨.type "function",none,.func (fnOf n q (qaG s) (qai s) (qg s) .none .none .none (.str m k) none (.ref c) .none),#[]⟩
noncomputable def fE(k c:Nat)(s:Stmt)(m n:Str):Obj:=fO k c s m n n
noncomputable def Kf(P:Params):Frag:=
 (nat_lit 2,(⟨.none,none,.dict #[] 0,#[]⟩:Obj)) ::
 (nat_lit 3,(⟨(.type "dict"),none,.dict #[en P 165 (.str "law_onceroad_k50_whole_three_sorts" 977) "__name__",en P 166 .none "__doc__",en P 167 .none "__package__",en P 168 (.builtin "__main__.__loader__#opaque") "__loader__",en P 169 .none "__spec__",en P 170 (.ref 6) "__annotations__",en P 171 (.ref 4) "__builtins__",en P 173 (.str "/claim/cut.py" 172) "__file__",en P 174 .none "__cached__",en P 193 (.ref 21) "_wall",en P 221 (.ref 38) "OnceError",en P 246 (.ref 58) "NoName",en P 271 (.ref 77) "Twice",en P 296 (.ref 96) "NoPlace",en P 321 (.ref 115) "NoTie",en P 346 (.ref 134) "TooMany",en P 371 (.ref 153) "NoPairs",en P 396 (.ref 172) "NoRow",en P 421 (.ref 191) "NoBar",en P 433 (.ref 200) "are_pairs",en P 443 (.ref 207) "partners_in",en P 449 (.ref 212) "told_pairs",en P 455 (.ref 217) "singles",en P 585 (.ref 305) "Forest",en P 597 (.ref 316) "is_row",en P 607 (.ref 323) "are_unlike_places",en P 613 (.ref 328) "goes_by_turns",en P 625 (.ref 335) "can_turn",en P 631 (.ref 340) "turned",en P 640 (.ref 347) "greatest",en P 647 (.ref 354) "count_of",en P 658 (.ref 361) "greatest_from",en P 670 (.ref 368) "sorts",en P 676 (.ref 373) "word_for",en P 683 (.ref 380) "loose",en P 691 (.ref 387) "leaving_out",en P 700 (.ref 394) "leaving_all",en P 710 (.ref 401) "pieces_beside",en P 716 (.ref 406) "odd_pieces",en P 724 (.ref 413) "lack_of",en P 732 (.ref 420) "shows",en P 740 (.ref 427) "is_bar",en P 744 (.int 6 743) "LONGEST_NAME",en P 750 (.ref 432) "is_name",en P 754 (.int 14 753) "MOST_PLACES",en P 756 (.int 30 755) "MOST_TIES",en P 918 (.ref 557) "Web",en P 926 (.ref 568) "has_bit",en P 934 (.ref 575) "is_place",en P 943 (.ref 582) "are_two_places",en P 952 (.ref 589) "numbers_of",en P 964 (.ref 596) "near_of",en P 976 (.ref 603) "piece_around",en P 986 (.ref 610) "_law_cell",en P 993 (.ref 617) "_law_purse",en P 1003 (.ref 624) "_law_take",en P 1009 (.ref 629) "_law_names",en P 1023 (.ref 636) "_law_ties",en P 1031 (.ref 643) "_law_many",en P 1042 (.ref 650) "_law_made",en P 1053 (.ref 657) "_law_bits",en P 1068 (.ref 664) "_law_table",en P 1074 (.ref 669) "_law_pieces",en P 1080 (.ref 674) "_law_room",en P 1086 (.ref 679) "_law_greatest",en P 1099 (.ref 686) "_law_named",en P 1109 (.ref 693) "_law_partners",en P 1115 (.ref 698) "_law_fit",en P 1121 (.ref 703) "_law_odd",en P 1127 (.ref 708) "law"] 70,#[]⟩:Obj)) ::
 (nat_lit 199,cE 424 50 2 194 (.ref 195) .none (.ref 196) (.ref 197) 198 431 "are_pairs") ::
 (nat_lit 200,fE 422 199 qaa "onceroad.pairs" "are_pairs") ::
 (nat_lit 206,cE 434 60 2 201 (.ref 202) .none (.ref 203) (.ref 204) 205 441 "partners_in") ::
 (nat_lit 207,fE 422 206 zh "onceroad.pairs" "partners_in") ::
 (nat_lit 211,cE 444 68 2 208 (.ref 209) .none .none .none 210 447 "told_pairs") ::
 (nat_lit 212,fE 422 211 j9 "onceroad.pairs" "told_pairs") ::
 (nat_lit 216,cE 450 71 2 213 (.ref 214) .none .none .none 215 453 "singles") ::
 (nat_lit 217,fE 422 216 qan "onceroad.pairs" "singles") ::
 (nat_lit 230,cO 470 77 3 225 (.ref 226) .none (.ref 227) (.ref 228) 229 476 "Forest.__init__" "__init__") ::
 (nat_lit 231,fO 456 230 zj "onceroad.forests" "Forest.__init__" "__init__") ::
 (nat_lit 237,cO 479 88 1 232 (.ref 233) .none (.ref 234) (.ref 235) 236 483 "Forest.row" "row") ::
 (nat_lit 238,fO 456 237 zH "onceroad.forests" "Forest.row" "row") ::
 (nat_lit 242,cO 486 91 1 239 (.ref 240) .none .none .none 241 489 "Forest.reached" "reached") ::
 (nat_lit 243,fO 456 242 jm "onceroad.forests" "Forest.reached" "reached") ::
 (nat_lit 263,cO 507 102 1 258 (.ref 259) .none (.ref 260) (.ref 261) 262 512 "Forest.grow" "grow") ::
 (nat_lit 264,fO 456 263 zi "onceroad.forests" "Forest.grow" "grow") ::
 (nat_lit 270,cO 515 110 3 265 (.ref 266) .none (.ref 267) (.ref 268) 269 521 "Forest.reach" "reach") ::
 (nat_lit 271,fO 456 270 j4 "onceroad.forests" "Forest.reach" "reach") ::
 (nat_lit 277,cO 524 114 2 272 (.ref 273) .none (.ref 274) (.ref 275) 276 531 "Forest.look_around" "look_around") ::
 (nat_lit 278,fO 456 277 jf "onceroad.forests" "Forest.look_around" "look_around") ::
 (nat_lit 282,cO 534 125 3 279 (.ref 280) .none .none .none 281 537 "Forest.bring_together" "bring_together") ::
 (nat_lit 283,fO 456 282 qM "onceroad.forests" "Forest.bring_together" "bring_together") ::
 (nat_lit 289,cO 540 136 2 284 (.ref 285) .none (.ref 286) (.ref 287) 288 547 "Forest.bases_down_from" "bases_down_from") ::
 (nat_lit 290,fO 456 289 qV "onceroad.forests" "Forest.bases_down_from" "bases_down_from") ::
 (nat_lit 296,cO 550 143 4 291 (.ref 292) .none (.ref 293) (.ref 294) 295 561 "Forest.reach_round" "reach_round") ::
 (nat_lit 297,fO 456 296 je "onceroad.forests" "Forest.reach_round" "reach_round") ::
 (nat_lit 301,cO 564 152 3 298 (.ref 299) .none .none .none 300 567 "Forest.fold" "fold") ::
 (nat_lit 302,fO 456 301 jO "onceroad.forests" "Forest.fold" "fold") ::
 (nat_lit 304,(⟨(.type "dict"),none,.dict #[en P 465 (.str "onceroad.forests" 456) "__module__",en P 469 (.int 75 468) "__firstlineno__",en P 478 (.ref 231) "__init__",en P 485 (.ref 238) "row",en P 491 (.ref 243) "reached",en P 499 (.ref 250) "row_to",en P 506 (.ref 257) "folds",en P 514 (.ref 264) "grow",en P 523 (.ref 271) "reach",en P 533 (.ref 278) "look_around",en P 539 (.ref 283) "bring_together",en P 549 (.ref 290) "bases_down_from",en P 563 (.ref 297) "reach_round",en P 569 (.ref 302) "fold",en P 578 (.ref 303) "__static_attributes__",en P 580 (.ref 306) "__dict__",en P 582 (.ref 307) "__weakref__",en P 583 .none "__doc__"] 4,#[]⟩:Obj)) ::
 (nat_lit 305,(⟨(.type "type"),none,.cls { name:="Forest",bases:=[(.type "object")],mro:=[(.ref 305),(.type "object")],ns:=304,qualname:="Forest",hasDict:=true,slotNames:=[],subclasses:=[],abstract:=false,collection:=none,hasDel:=false },#[none,none,(some (.str "Forest" 458)),(some (.str "Forest" 466)),(some (.builtin "object.__new__")),(some (.bool true))]⟩:Obj)) ::
 (nat_lit 315,cE 588 158 3 310 (.ref 311) .none (.ref 312) (.ref 313) 314 595 "is_row") ::
 (nat_lit 316,fE 586 315 qbt "onceroad.rows" "is_row") ::
 (nat_lit 322,cE 598 163 2 317 (.ref 318) .none (.ref 319) (.ref 320) 321 605 "are_unlike_places") ::
 (nat_lit 323,fE 586 322 jj "onceroad.rows" "are_unlike_places") ::
 (nat_lit 327,cE 608 172 3 324 (.ref 325) .none .none .none 326 611 "goes_by_turns") ::
 (nat_lit 328,fE 586 327 qY "onceroad.rows" "goes_by_turns") ::
 (nat_lit 334,cE 614 178 3 329 (.ref 330) .none (.ref 331) (.ref 332) 333 623 "can_turn") ::
 (nat_lit 335,fE 586 334 qaw "onceroad.rows" "can_turn") ::
 (nat_lit 339,cE 626 185 3 336 (.ref 337) .none .none .none 338 629 "turned") ::
 (nat_lit 340,fE 586 339 qa2 "onceroad.rows" "turned") ::
 (nat_lit 346,cE 634 192 1 341 (.ref 342) .none (.ref 343) (.ref 344) 345 638 "greatest") ::
 (nat_lit 347,fE 632 346 qax "onceroad.greatest" "greatest") ::
 (nat_lit 353,cE 641 194 1 348 (.ref 349) .none (.ref 350) (.ref 351) 352 645 "count_of") ::
 (nat_lit 354,fE 632 353 qay "onceroad.greatest" "count_of") ::
 (nat_lit 360,cE 648 196 2 355 (.ref 356) .none (.ref 357) (.ref 358) 359 656 "greatest_from") ::
 (nat_lit 361,fE 632 360 jP "onceroad.greatest" "greatest_from") ::
 (nat_lit 367,cE 661 206 1 362 (.ref 363) .none (.ref 364) (.ref 365) 366 668 "sorts") ::
 (nat_lit 368,fE 659 367 qcy "onceroad.sorts" "sorts") ::
 (nat_lit 372,cE 671 212 3 369 (.ref 370) .none .none .none 371 674 "word_for") ::
 (nat_lit 373,fE 659 372 zT "onceroad.sorts" "word_for") ::
 (nat_lit 379,cE 677 216 1 374 (.ref 375) .none (.ref 376) (.ref 377) 378 681 "loose") ::
 (nat_lit 380,fE 659 379 qcz "onceroad.sorts" "loose") ::
 (nat_lit 386,cE 684 218 2 381 (.ref 382) .none (.ref 383) (.ref 384) 385 689 "leaving_out") ::
 (nat_lit 387,fE 659 386 zm "onceroad.sorts" "leaving_out") ::
 (nat_lit 393,cE 692 220 2 388 (.ref 389) .none (.ref 390) (.ref 391) 392 698 "leaving_all") ::
 (nat_lit 394,fE 659 393 zn "onceroad.sorts" "leaving_all") ::
 (nat_lit 400,cE 703 224 2 395 (.ref 396) .none (.ref 397) (.ref 398) 399 708 "pieces_beside") ::
 (nat_lit 401,fE 701 400 jR "onceroad.bars" "pieces_beside") ::
 (nat_lit 405,cE 711 228 2 402 (.ref 403) .none .none .none 404 714 "odd_pieces") ::
 (nat_lit 406,fE 701 405 za "onceroad.bars" "odd_pieces") ::
 (nat_lit 412,cE 717 230 2 407 (.ref 408) .none (.ref 409) (.ref 410) 411 722 "lack_of") ::
 (nat_lit 413,fE 701 412 qa7 "onceroad.bars" "lack_of") ::
 (nat_lit 419,cE 725 232 2 414 (.ref 415) .none (.ref 416) (.ref 417) 418 730 "shows") ::
 (nat_lit 420,fE 701 419 qcB "onceroad.bars" "shows") ::
 (nat_lit 426,cE 733 238 2 421 (.ref 422) .none (.ref 423) (.ref 424) 425 738 "is_bar") ::
 (nat_lit 427,fE 701 426 qbD "onceroad.bars" "is_bar") ::
 (nat_lit 431,cE 745 242 1 428 (.ref 429) .none .none .none 430 748 "is_name") ::
 (nat_lit 432,fE 741 431 qak "onceroad.names" "is_name") ::
 (nat_lit 445,cO 769 251 3 440 (.ref 441) .none (.ref 442) (.ref 443) 444 775 "Web.__init__" "__init__") ::
 (nat_lit 446,fO 751 445 qat "onceroad.webs" "Web.__init__" "__init__") ::
 (nat_lit 452,cO 778 256 1 447 (.ref 448) .none (.ref 449) (.ref 450) 451 782 "Web.places" "places") ::
 (nat_lit 453,fO 751 452 zD "onceroad.webs" "Web.places" "places") ::
 (nat_lit 459,cO 785 259 1 454 (.ref 455) .none (.ref 456) (.ref 457) 458 792 "Web.ties" "ties") ::
 (nat_lit 460,fO 751 459 qav "onceroad.webs" "Web.ties" "ties") ::
 (nat_lit 473,cO 802 270 2 468 (.ref 469) .none (.ref 470) (.ref 471) 472 807 "Web.has_place" "has_place") ::
 (nat_lit 474,fO 751 473 jM "onceroad.webs" "Web.has_place" "has_place") ::
 (nat_lit 480,cO 810 273 2 475 (.ref 476) .none (.ref 477) (.ref 478) 479 815 "Web.has_tie" "has_tie") ::
 (nat_lit 481,fO 751 480 zg "onceroad.webs" "Web.has_tie" "has_tie") ::
 (nat_lit 487,cO 818 276 2 482 (.ref 483) .none (.ref 484) (.ref 485) 486 823 "Web.number_of" "number_of") ::
 (nat_lit 488,fO 751 487 jN "onceroad.webs" "Web.number_of" "number_of") ::
 (nat_lit 494,cO 826 281 2 489 (.ref 490) .none (.ref 491) (.ref 492) 493 831 "Web.beside" "beside") ::
 (nat_lit 495,fO 751 494 zE "onceroad.webs" "Web.beside" "beside") ::
 (nat_lit 501,cO 834 284 2 496 (.ref 497) .none (.ref 498) (.ref 499) 500 839 "Web.bits_beside" "bits_beside") ::
 (nat_lit 502,fO 751 501 jv "onceroad.webs" "Web.bits_beside" "bits_beside") ::
 (nat_lit 508,cO 842 287 3 503 (.ref 504) .none (.ref 505) (.ref 506) 507 849 "Web.tied" "tied") ::
 (nat_lit 509,fO 751 508 qau "onceroad.webs" "Web.tied" "tied") ::
 (nat_lit 515,cO 852 291 1 510 (.ref 511) .none (.ref 512) (.ref 513) 514 860 "Web.pieces" "pieces") ::
 (nat_lit 516,fO 751 515 zF "onceroad.webs" "Web.pieces" "pieces") ::
 (nat_lit 527,cO 870 304 2 524 (.ref 525) .none .none .none 526 873 "Web.names_in" "names_in") ::
 (nat_lit 528,fO 751 527 jA "onceroad.webs" "Web.names_in" "names_in") ::
 (nat_lit 532,cO 876 307 2 529 (.ref 530) .none .none .none 531 879 "Web.without" "without") ::
 (nat_lit 533,fO 751 532 jw "onceroad.webs" "Web.without" "without") ::
 (nat_lit 556,(⟨(.type "dict"),none,.dict #[en P 764 (.str "onceroad.webs" 751) "__module__",en P 768 (.int 249 767) "__firstlineno__",en P 777 (.ref 446) "__init__",en P 784 (.ref 453) "places",en P 794 (.ref 460) "ties",en P 801 (.ref 467) "how_many",en P 809 (.ref 474) "has_place",en P 817 (.ref 481) "has_tie",en P 825 (.ref 488) "number_of",en P 833 (.ref 495) "beside",en P 841 (.ref 502) "bits_beside",en P 851 (.ref 509) "tied",en P 862 (.ref 516) "pieces",en P 869 (.ref 523) "told",en P 875 (.ref 528) "names_in",en P 881 (.ref 533) "without",en P 889 (.ref 540) "with_place",en P 898 (.ref 547) "with_tie",en P 907 (.ref 554) "without_tie",en P 911 (.ref 555) "__static_attributes__",en P 913 (.ref 558) "__dict__",en P 915 (.ref 559) "__weakref__",en P 916 .none "__doc__"] 4,#[]⟩:Obj)) ::
 (nat_lit 557,(⟨(.type "type"),none,.cls { name:="Web",bases:=[(.type "object")],mro:=[(.ref 557),(.type "object")],ns:=556,qualname:="Web",hasDict:=true,slotNames:=[],subclasses:=[],abstract:=false,collection:=none,hasDel:=false },#[none,none,(some (.str "Web" 757)),(some (.str "Web" 765)),(some (.builtin "object.__new__")),(some (.bool true))]⟩:Obj)) ::
 (nat_lit 567,cE 919 325 2 562 (.ref 563) .none (.ref 564) (.ref 565) 566 924 "has_bit") ::
 (nat_lit 568,fE 751 567 qaY "onceroad.webs" "has_bit") ::
 (nat_lit 574,cE 927 327 2 569 (.ref 570) .none (.ref 571) (.ref 572) 573 932 "is_place") ::
 (nat_lit 575,fE 751 574 qas "onceroad.webs" "is_place") ::
 (nat_lit 581,cE 935 329 2 576 (.ref 577) .none (.ref 578) (.ref 579) 580 941 "are_two_places") ::
 (nat_lit 582,fE 751 581 jD "onceroad.webs" "are_two_places") ::
 (nat_lit 588,cE 944 334 1 583 (.ref 584) .none (.ref 585) (.ref 586) 587 950 "numbers_of") ::
 (nat_lit 589,fE 751 588 zA "onceroad.webs" "numbers_of") ::
 (nat_lit 595,cE 953 347 2 590 (.ref 591) .none (.ref 592) (.ref 593) 594 962 "near_of") ::
 (nat_lit 596,fE 751 595 qaZ "onceroad.webs" "near_of") ::
 (nat_lit 602,cE 965 363 2 597 (.ref 598) .none (.ref 599) (.ref 600) 601 974 "piece_around") ::
 (nat_lit 603,fE 751 602 j3 "onceroad.webs" "piece_around") ::
 (nat_lit 609,cE 979 373 2 604 (.ref 605) .none (.ref 606) (.ref 607) 608 984 "_law_cell") ::
 (nat_lit 610,fE 977 609 qbw "law_onceroad_k50_whole_three_sorts" "_law_cell") ::
 (nat_lit 616,cE 987 377 1 611 (.ref 612) .none (.ref 613) (.ref 614) 615 991 "_law_purse") ::
 (nat_lit 617,fE 977 616 qa3 "law_onceroad_k50_whole_three_sorts" "_law_purse") ::
 (nat_lit 623,cE 994 379 2 618 (.ref 619) .none (.ref 620) (.ref 621) 622 1001 "_law_take") ::
 (nat_lit 624,fE 977 623 qbx "law_onceroad_k50_whole_three_sorts" "_law_take") ::
 (nat_lit 628,cE 1004 389 2 625 (.ref 626) .none .none .none 627 1007 "_law_names") ::
 (nat_lit 629,fE 977 628 qam "law_onceroad_k50_whole_three_sorts" "_law_names") ::
 (nat_lit 635,cE 1010 407 2 630 (.ref 631) .none (.ref 632) (.ref 633) 634 1021 "_law_ties") ::
 (nat_lit 636,fE 977 635 qbz "law_onceroad_k50_whole_three_sorts" "_law_ties") ::
 (nat_lit 642,cE 1024 419 2 637 (.ref 638) .none (.ref 639) (.ref 640) 641 1029 "_law_many") ::
 (nat_lit 643,fE 977 642 qby "law_onceroad_k50_whole_three_sorts" "_law_many") ::
 (nat_lit 649,cE 1032 421 2 644 (.ref 645) .none (.ref 646) (.ref 647) 648 1040 "_law_made") ::
 (nat_lit 650,fE 977 649 qbA "law_onceroad_k50_whole_three_sorts" "_law_made") ::
 (nat_lit 656,cE 1043 426 2 651 (.ref 652) .none (.ref 653) (.ref 654) 655 1051 "_law_bits") ::
 (nat_lit 657,fE 977 656 qbB "law_onceroad_k50_whole_three_sorts" "_law_bits") ::
 (nat_lit 663,cE 1054 432 2 658 (.ref 659) .none (.ref 660) (.ref 661) 662 1066 "_law_table") ::
 (nat_lit 664,fE 977 663 qa8 "law_onceroad_k50_whole_three_sorts" "_law_table") ::
 (nat_lit 668,cE 1069 446 3 665 (.ref 666) .none .none .none 667 1072 "_law_pieces") ::
 (nat_lit 669,fE 977 668 zo "law_onceroad_k50_whole_three_sorts" "_law_pieces") ::
 (nat_lit 673,cE 1075 459 2 670 (.ref 671) .none .none .none 672 1078 "_law_room") ::
 (nat_lit 674,fE 977 673 qa5 "law_onceroad_k50_whole_three_sorts" "_law_room") ::
 (nat_lit 678,cE 1081 461 4 675 (.ref 676) .none .none .none 677 1084 "_law_greatest") ::
 (nat_lit 679,fE 977 678 jK "law_onceroad_k50_whole_three_sorts" "_law_greatest") ::
 (nat_lit 685,cE 1087 476 3 680 (.ref 681) .none (.ref 682) (.ref 683) 684 1097 "_law_named") ::
 (nat_lit 686,fE 977 685 qa9 "law_onceroad_k50_whole_three_sorts" "_law_named") ::
 (nat_lit 692,cE 1100 482 1 687 (.ref 688) .none (.ref 689) (.ref 690) 691 1107 "_law_partners") ::
 (nat_lit 693,fE 977 692 zI "law_onceroad_k50_whole_three_sorts" "_law_partners") ::
 (nat_lit 697,cE 1110 488 4 694 (.ref 695) .none .none .none 696 1113 "_law_fit") ::
 (nat_lit 698,fE 977 697 qaK "law_onceroad_k50_whole_three_sorts" "_law_fit") ::
 (nat_lit 702,cE 1116 502 3 699 (.ref 700) .none .none .none 701 1119 "_law_odd") ::
 (nat_lit 703,fE 977 702 qbh "law_onceroad_k50_whole_three_sorts" "_law_odd") ::
 (nat_lit 707,cE 1122 506 1 704 (.ref 705) .none .none .none 706 1125 "law") ::
 (nat_lit 708,fE 977 707 qbo "law_onceroad_k50_whole_three_sorts" "law") ::
 []
noncomputable def ks:LQ:=[2,3,199,200,206,207,211,212,216,217,230,231,237,238,242,243,263,264,270,271,277,278,282,283,289,290,296,297,301,302,304,305,315,316,322,323,327,328,334,335,339,340,346,347,353,354,360,361,367,368,372,373,379,380,386,387,393,394,400,401,405,406,412,413,419,420,426,427,431,432,445,446,452,453,459,460,473,474,480,481,487,488,494,495,501,502,508,509,515,516,527,528,532,533,556,557,567,568,574,575,581,582,588,589,595,596,602,603,609,610,616,617,623,624,628,629,635,636,642,643,649,650,656,657,663,664,668,669,673,674,678,679,685,686,692,693,697,698,702,703,707,708]
theorem ks_eq:∀ P,ks=(Kf P).map (·.1):=fun P=>by kernel_rfl
abbrev Hk:Hook:=kHook Kf ks ks_eq
abbrev Xt(s:Shared):Bool:=xlAt Q [] s&&recOk [] s
abbrev sn(s:Shared):=openSeen Q [] (importedModules PySem.Challenge.pw_onceroad_k50_whole_three_sorts.main.body) Xt true s
noncomputable def runA(w:World)(a:OsState):=(Hd.lookS PySem.Challenge.pw_onceroad_k50_whole_three_sorts NN w a).map fun s=>((sn s).1,(sn s).2.1,(sn s).2.2.1,(sn s).2.2.2.1)
noncomputable def runB(w:World)(a:OsState):=(Hd.lookS PySem.Challenge.pw_onceroad_k50_whole_three_sorts NN w a).map fun s=>(sn s).2.2.2.2
noncomputable def runC(w:World)(a:OsState):=(Hd.lookS PySem.Challenge.pw_onceroad_k50_whole_three_sorts NN w a).map fun s=>ks.map s.heap.get?
noncomputable def gdA(_:World)(_:OsState):=some ((openGood Q []).1,(openGood Q []).2.1,(openGood Q []).2.2.1,(openGood Q []).2.2.2.1)
noncomputable def gdB(_:World)(_:OsState):=some (openGood Q []).2.2.2.2
noncomputable def gdC(w:World)(_:OsState):=some ((Kf w.params).map fun p=>some p.2)
noncomputable def tag{a:Type}(f g:World->OsState->a):Bool:=true
theorem tag1:(tag runA gdA&&(tag runB gdB&&tag runC runC))=true:=by k_qdec
theorem hA1(w:World)(a:OsState):runA w a=gdA w a:=by
 rw[PySem.W.Fast.te1430085205774495652,PySem.W.Fast.te5903728728027299042]
 kernel_rfl
theorem hB1(w:World)(a:OsState):runB w a=gdB w a:=by
 rw[PySem.W.Fast.te2843137481855786759,PySem.W.Fast.te11386532557102687397]
 kernel_rfl
theorem hC1(w:World)(a:OsState):runC w a=gdC w a:=by
 rw[PySem.W.Fast.te579597293309603870]
 kernel_rfl
theorem hl:LeftO PySem.Challenge.pw_onceroad_k50_whole_three_sorts Q [] Xt (Hook.obs Hk) (Hook.val Hk) NN:=Hd.left_of (by kernel_rfl) (by decide) (fun s=>by kernel_rfl) fun w a=>(Hd.lookT_map ..).trans (Hd.packs (hA1 w a) (hB1 w a) (hC1 w a))
end K50
namespace L2
open PySem PySem.Spec PyProof.Rows
variable{A:Around}{C a b dx it:Addr}{CX:CXT}{D:Ends}{E:Value->Shared->Prop}{H:Hp}{M:Model}{N ps:LS}{P:Program}{X:Cx}{base h:Heap}{body:List Stmt}{c e tg:Expr}{ch fp:LQ}{d':Drawn}{es:List Expr}{f:Value->Value->Sem Value}{g:TG}{g':Array GenState}{i j n t':Nat}{kindOf:Str->Option NameKind}{kw:List (Str×Value)}{lo:Int}{mA mg:Str->Option Value}{o:HO}{op op':CmpOp}{outer:List Env}{p pos:Pos}{pins:List (Addr×Obj)}{qual x:Str}{r r':R2}{s s':Shared}{sc scope:Scope}{t te:TE}{ta:TA}{tb:TS}{tc:TT}{u:Value}{us:List Value}{v y:V}{vs xs:List V}{w:World}{α:Type}{σ:St}
abbrev Key:=Sum Int Str
def qcE:Key->Value->Bool
 | .inl k,v=>Value.isInt k v
 | .inr x,v=>Value.isStrOf x v
def keyH(w:World):Key->Int
 | .inl k=>hashInt k
 | .inr x=>hashStr w x
theorem qW:∀{k:Key} {v:Value},qcE k v=true->(∃ i t,k=Sum.inl i/\v=Value.int i t)\/(∃ x t,k=Sum.inr x/\v=Value.str x t)
 | .inl i,v,h=>by
  obtain⟨t,e⟩:=Value.isInt_shape (k:=i) (v:=v) h;show .inl ⟨i,t,rfl,e⟩
 | .inr x,v,h=>by
  obtain⟨t,e⟩:=Value.isStrOf_shape (x:=x) (v:=v) h;show .inr ⟨x,t,rfl,e⟩
theorem keyIs_int(i:Int)(t:Tok):qcE (.inl i) (.int i t)=true:=by simp[qcE,Value.isInt]
theorem keyIs_str(x:Str)(t:Tok):qcE (.inr x) (.str x t)=true:=by simp[qcE,Value.isStrOf]
theorem key_ll(a b:Int):decide ((Sum.inl a:Key)=Sum.inl b)=(a==b):=by
 by_cases e:a=b
 .subst e;simp
 .have h:¬ (Sum.inl a:Key)=Sum.inl b:=fun q=>e (Sum.inl.inj q);rw[yl h];show(YR.mpr e).symm
theorem key_rr(a b:Str):decide ((Sum.inr a:Key)=Sum.inr b)=decide (a=b):=by
 by_cases e:a=b
 .subst e;simp
 .have h:¬ (Sum.inr a:Key)=Sum.inr b:=fun q=>e (xn q);rw[yl h,yl e]
theorem key_lr(a:Int)(b:Str):decide ((Sum.inl a:Key)=Sum.inr b)=false:=yl (fun q=>nomatch q)
theorem key_rl(a:Str)(b:Int):decide ((Sum.inr a:Key)=Sum.inl b)=false:=yl (fun q=>nomatch q)
def jh(prog:Program)(w:World):PySem.KeyKind prog w Key where
 is:=qcE
 hash:=keyH w
 inj:=fun v a b d c=>by
  rcases qW d with⟨i,t,rfl,rfl⟩ | ⟨x,t,rfl,rfl⟩
  .rcases qW c with⟨j,u,rfl,e⟩ | ⟨y,u,rfl,e⟩
   .injection e with e1 _;rw[e1]
   .show nomatch e
  .rcases qW c with⟨j,u,rfl,e⟩ | ⟨y,u,rfl,e⟩
   .show nomatch e
   .injection e with e1 _;rw[e1]
 byValue:=fun k v h=>by
  rcases qW h with⟨i,t,rfl,rfl⟩ | ⟨x,t,rfl,rfl⟩<;>rfl
 pyHash:=fun hv h=>by
  rcases qW hv with⟨i,t,rfl,rfl⟩ | ⟨x,t,rfl,rfl⟩
  .show wpAny_pyHash_int h
  .show wpAny_pyHash_str h
 eqBool:=fun f hv h=>by
  rcases qW f with⟨i,t,rfl,rfl⟩ | ⟨x,t,rfl,rfl⟩
  .rcases qW hv with⟨j,u,rfl,rfl⟩ | ⟨y,u,rfl,rfl⟩
   .rw [key_ll] at h;show wpAny_eqBool_int h
   .rw [key_lr] at h;show SeqAt.EqAt.int_str i t y u _ _ _ _ h
  .rcases qW hv with⟨j,u,rfl,rfl⟩ | ⟨y,u,rfl,rfl⟩
   .rw [key_rl] at h;show SeqAt.EqAt.str_int x t j u _ _ _ _ h
   .rw [key_rr] at h;show wpAny_eqBool_str h
 «strs»:=fun k x t v h=>by
  rcases qW h with⟨i,u,rfl,e⟩ | ⟨y,u,rfl,e⟩
  .show nomatch e
  .injection e with e1 _
   subst e1;cases v<;>rfl
theorem mixKind_int(prog:Program)(w:World)(i:Int)(t:Tok):(jh prog w).is (.inl i) (.int i t)=true:=keyIs_int i t
theorem mixKind_str(prog:Program)(w:World)(x:Str)(t:Tok):(jh prog w).is (.inr x) (.str x t)=true:=keyIs_str x t
inductive V where
 | non | bl (b:Bool) | int (i:Int) | str (x:Str) | byt (b:Array UInt8) | flt (b:UInt64) | ref (a:Addr) | ty (n:String)
 deriving DecidableEq
def RelV:V->Value->Prop
 | .non,u=>u=Value.none
 | .bl b,u=>u=Value.bool b
 | .int i,u=>∃ t,u=Value.int i t
 | .str x,u=>∃ t,u=Value.str x t
 | .byt b,u=>∃ t,u=Value.bytes b t
 | .flt b,u=>∃ t,u=Value.float b t
 | .ref a,u=>u=Value.ref a
 | .ty n,u=>u=Value.type n
abbrev Vals:List V->List Value->Prop:=Paired RelV
theorem Vals.length(r:Vals xs us):xs.length=us.length:=Paired.length r
theorem Vals.get:∀{xs:List V} {us:List Value} {i:Nat} {x:V},Vals xs us->xs[i]?=some x->∃ u,us[i]?=some u/\RelV x u
 | _,_,_,_,.nil,e=>by simp at e
 | _,_,0,_,.cons r _,e=>by simp at e;subst e;show⟨_,rfl,r⟩
 | _,_,i+1,x,.cons _ t,e=>by
  obtain⟨u,h1,a⟩:=Vals.get (i:=i) (x:=x) t (by simpa using e);show⟨u,by simpa using h1,a⟩
theorem Vals.set{x:V}(r:RelV x u):∀{xs:List V} {us:List Value} (i:Nat),Vals xs us->Vals (xs.set i x) (us.set i u)
 | _,_,_,.nil=>.nil
 | _,_,0,.cons _ t=>.cons r t
 | _,_,i+1,.cons q t=>.cons q (Vals.set r i t)
theorem Vals.append:∀{xs ys:List V} {us a:List Value},Vals xs us->Vals ys a->Vals (xs++ys) (us++a)
 | _,_,_,_,.nil,s=>s
 | _,_,_,_,.cons r t,s=>.cons r (Vals.append t s)
theorem Vals.take:∀{xs:List V} {us:List Value} (n:Nat),Vals xs us->Vals (xs.take n) (us.take n)
 | _,_,0,_=>.nil
 | _,_,_+1,.nil=>.nil
 | _,_,n+1,.cons r t=>.cons r (Vals.take n t)
theorem Vals.drop:∀{xs:List V} {us:List Value} (n:Nat),Vals xs us->Vals (xs.drop n) (us.drop n)
 | _,_,0,r=>r
 | _,_,_+1,.nil=>.nil
 | _,_,n+1,.cons _ t=>Vals.drop n t
def RelO:Option V->Option Value->Prop
 | some v,some u=>RelV v u
 | none,none=>True
 | _,_=>False
def KV{a:Type}:List (a×V)->List (a×Value)->Prop:=Paired fun(p:a×V) (q:a×Value)=>p.1=q.1/\RelV p.2 q.2
def kV:Key->V
 | .inl i=>.int i
 | .inr x=>.str x
inductive HO where
 /-- a list -/
 | lst (xs:List V)
 /-- a tuple (never changes) -/
 | tup (xs:List V)
 /-- a dict whose keys are ints and texts;one whose keys are tuples of ints and texts (the empty one is both) -/
 | dK (kvs:List (Key×V)) | dT (kvs:List (List Key×V))
 /-- a set of ints: its members,its size -/
 | set (S:Int->Bool) (n:Nat)
 /-- an instance of the class at C,its dict at dx,its attributes -/
 | ins (C dx:Addr) (fs:List (Str×V))
 /-- the dict of the instance at x -/
 | own (x:Addr)
 /-- the dict of an exception -/
 | xd (fs:List (Str×V))
 /-- a bound method,f of x -/
 | met (f x:Addr)
 /-- a range object lo,lo+1,.. below hi -/
 | rng (lo hi:Int)
 /-- a thing that is known to the object (the script;a dict while a loop walks it): read,never written while it is so -/
 | frz (o:Obj) (u:HO)
 /-- a code object's table -/
 | tbl (ps:Array Value)
 /-- any other thing,by what is true of its one object (a def of one's own: SetO a S n:=HO.ext fun h=>..) -/
 | ext (φ:Heap->Prop)
abbrev Hp:=Addr->Option HO
def upd(H:Hp)(a:Addr)(o:HO):Hp:=fun b=>if b=a then some o else H b
theorem qb:upd H a o a=some o:=by unfold upd;rw[yG rfl]
theorem qf(h:b≠a):upd H a o b=H b:=by unfold upd;rw[yB h]
theorem qaL{u:HO}(h:H a=some o)(h':H b=some u)(d:o≠u):a≠b:=by
 intro e;subst e;rw[h] at h';show d (ym h')
theorem qJ(h:H a=some o)(h':H b=none):a≠b:=by
 intro e;subst e;rw[h] at h';cases h'
section
variable(P:Program)(w:World)
def ObjOk(H:Hp)(h:Heap)(a:Addr):HO->Prop
 | .lst xs=>xs.length<=sizeLine/\∃(b:List Value) (n:Nat),Vals xs b/\h.get? a=some { cls:=.type "list",data:=.seq b.toArray n }
 | .tup xs=>xs.length<=sizeLine/\∃ b:List Value,Vals xs b/\IsTup h a b.toArray
 | .dK kvs=>kvs.length<=sizeLine/\(a==sysModules)=false/\∃ vs,KV kvs vs/\h.DictOf (jh P w) a vs
 | .dT kvs=>kvs.length<=sizeLine/\(a==sysModules)=false/\∃ xs:List (List Key×Addr×Value),
   Paired (fun(p:List Key×V) (q:List Key×Addr×Value)=>p.1=q.1/\H q.2.1=some (.tup (p.1.map kV))/\RelV p.2 q.2.2) kvs xs /\
   ∃ o es ep,h.get? a=some o/\o.ExactDict/\o.data=.dict es ep/\es.toList=xs.map (entryOfKey (tupleKind (jh P w)))/\(xs.map (·.1)).Nodup
 | .set S n=>h.SetOf (intKind P w) a S n
 | .ins C dx fs=>H dx=some (.own a)/\fs.length<=1000/\dx≠a/\h.get? a=some (PySem.W.instObj C dx) /\
   ∃ mA,h.Ns1 dx mA/\(∀ f,RelO (fs.lookup f) (mA f))/\PySem.Within mA (fs.map (·.1))
 | .own _=>∃ o,h.get? a=some o
 | .xd fs=>∃ mA,h.Ns1 a mA/\∀ f,RelO (fs.lookup f) (mA f)
 | .rng lo hi=>∃ t u v,h.get? a=some { cls:=.type "range",data:=.fields #[.int lo t,.int hi u,.int 1 v] }
 | .frz o u=>h.get? a=some o/\ObjOk H h a u
 | .tbl ps=>h.get? a=some { cls:=.none,data:=.fields ps }
 | .met f x=>h.get? a=some (PySem.W.methodObj (.ref f) (.ref x))
 | .ext φ=>φ h/\(∃ o,h.get? a=some o)/\∀ h1 c:Heap,φ h1->(∀ o,h1.get? a=some o->c.get? a=some o)->φ c
def HOk(H:Hp)(h:Heap):Prop:=∀ a o,H a=some o->ObjOk P w H h a o
end
section
variable{P:Program}{w:World}{H H':Hp}{h h':Heap}{a:Addr}{o:HO}
theorem ObjOk.lt(x:ObjOk P w H h a o):a<h.objs.size:=by
 cases o with
 | lst xs=>obtain⟨_,_,_,_,e⟩:=x;show yN e
 | tup xs=>obtain⟨_,_,_,p⟩:=x;show p.lt
 | dK kvs=>obtain⟨_,_,_,_,o,_,_,e,_⟩:=x;show yN e
 | dT kvs=>obtain⟨_,_,_,_,o,_,_,e,_⟩:=x;show yN e
 | set S n=>obtain⟨o,_,_,_,e,_⟩:=x;show yN e
 | ins C dx fs=>obtain⟨_,_,_,e,_⟩:=x;show yN e
 | own y=>obtain⟨_,e⟩:=x;show yN e
 | xd fs=>obtain⟨_,⟨_,_,_,e,_⟩,_⟩:=x;show yN e
 | rng lo hi=>obtain⟨_,_,_,e⟩:=x;show yN e
 | frz ob u=>obtain⟨e,_⟩:=x;show yN e
 | tbl ps=>show yN (show h.get? a=some _ from x)
 | met f y=>show yN (show h.get? a=some _ from x)
 | ext φ=>obtain⟨_,⟨_,e⟩,_⟩:=x;show yN e
theorem Paired.mapP{c:Type}{F G:α->c->Prop}:∀{l₁:List α} {l₂:List c},Paired F l₁ l₂->(∀ a b,F a b->G a b)->Paired G l₁ l₂
 | _,_,.nil,_=>.nil
 | _,_,.cons r t,f=>.cons (f _ _ r) (Paired.mapP t f)
theorem ObjOk.stay(x:ObjOk P w H h a o)(k:∀ b u,(b=a\/H b=some (.own a))->h.get? b=some u->h'.get? b=some u)
  (l:∀ b,H b=some (.own a)->H' b=some (.own a)) (m:∀ b xs,H b=some (.tup xs)->H' b=some (.tup xs)):ObjOk P w H' h' a o:=by
 induction o with
 | lst xs=>obtain⟨z,i,n,r,e⟩:=x;show⟨z,i,n,r,k _ _ (.inl rfl) e⟩
 | tup xs=>obtain⟨z,i,r,g,e,c⟩:=x;show⟨z,i,r,g,k _ _ (.inl rfl) e,c⟩
 | dK kvs=>obtain⟨z,y,vs,r,g,es,ep,e,c⟩:=x;show⟨z,y,vs,r,g,es,ep,k _ _ (.inl rfl) e,c⟩
 | dT kvs =>
  obtain⟨z,y,xs,r,g,es,ep,e,c⟩:=x;show⟨z,y,xs,Paired.mapP r fun p q z=>⟨z.1,m _ _ z.2.1,z.2.2⟩,g,es,ep,k _ _ (.inl rfl) e,c⟩
 | set S n=>obtain⟨g,es,ep,t,e,c⟩:=x;show⟨g,es,ep,t,k _ _ (.inl rfl) e,c⟩
 | ins C dx fs =>
  obtain⟨d,z,ne,e,mA,⟨od,es,ep,j,c⟩,r⟩:=x;show⟨l _ d,z,ne,k _ _ (.inl rfl) e,mA,⟨od,es,ep,k _ _ (.inr d) j,c⟩,r⟩
 | own y=>obtain⟨g,e⟩:=x;show⟨g,k _ _ (.inl rfl) e⟩
 | xd fs=>obtain⟨mA,⟨od,es,ep,e,c⟩,r⟩:=x;show⟨mA,⟨od,es,ep,k _ _ (.inl rfl) e,c⟩,r⟩
 | rng lo hi=>obtain⟨t,u,v,e⟩:=x;show⟨t,u,v,k _ _ (.inl rfl) e⟩
 | frz g u ih=>obtain⟨e,q⟩:=x;show⟨k _ _ (.inl rfl) e,ih q⟩
 | tbl ps =>
  have e:h.get? a=some { cls:=.none,data:=.fields ps }:=x;show h'.get? a=some { cls:=.none,data:=.fields ps };show k a _ (.inl rfl) e
 | met f y =>
  have e:h.get? a=some (PySem.W.methodObj (.ref f) (.ref y)):=x;show h'.get? a=some (PySem.W.methodObj (.ref f) (.ref y));show k a _ (.inl rfl) e
 | ext φ=>obtain⟨p,⟨o,e⟩,st⟩:=x;show⟨st _ _ p fun o q=>k _ _ (.inl rfl) q,⟨o,k _ _ (.inl rfl) e⟩,st⟩
theorem HOk.lt(x:HOk P w H h)(e:H a=some o):a<h.objs.size:=(x a o e).lt
theorem HOk.fresh(x:HOk P w H h)(e:h.objs.size<=a):H a=none:=by
 cases q:H a with
 | none=>rfl
 | some u=>show absurd (yj (x.lt q) e) (YB _)
theorem HOk.kept(x:HOk P w H h)(k:∀ b u,h.get? b=some u->h'.get? b=some u):HOk P w H h':=fun a o e =>
 (x a o e).stay (fun b u _ q=>k b u q) (fun _ q=>q) fun _ _ q=>q
theorem HOk.laid(x:HOk P w H h)(k:∀ b u,h.get? b=some u->h'.get? b=some u)(g:h.objs.size<=a)(new:ObjOk P w (upd H a o) h' a o):HOk P w (upd H a o) h':=fun b u e=>by
 have f:=x.fresh g;by_cases d:b=a
 .subst d;rw[qb] at e;cases e;show new
 .rw [qf d] at e;show(x b u e).stay (fun c v _ q=>k c v q) (fun c q=>by rw[qf (qJ q f)];show q) fun c xs q=>by rw[qf (qJ q f)];show q
end
def Rd(H:Hp)(a:Addr)(u:HO):Prop:=H a=some u\/∃ o,H a=some (.frz o u)
theorem Rd.of{u:HO}(h:H a=some u):Rd H a u:=.inl h
theorem Rd.ok{u:HO}(r:Rd H a u)(x:HOk P w H h):ObjOk P w H h a u:=by
 rcases r with r | ⟨o,r⟩
 .show x a u r
 .obtain⟨_,q⟩:=x a _ r;show q
def Mut:Option HO->Prop
 | some (.lst _)=>True
 | some (.dK _)=>True
 | some (.dT _)=>True
 | some (.set _ _)=>True
 | some (.ins _ _ _)=>True
 | some (.ext _)=>True
 | _=>False
section
variable{P:Program}{w:World}{H:Hp}{h h':Heap}{x e:Addr}{o':HO}
theorem HOk.write(ok:HOk P w H h)(i:Mut (H x))(l:e=x\/H e=some (.own x))(k:∀ b u,b≠e->h.get? b=some u->h'.get? b=some u)(j:∃ u,h'.get? e=some u)
  (new:ObjOk P w (upd H x o') h' x o'):HOk P w (upd H x o') h':=fun b u q=>by
 have d:∀ c y,H c=some (.own y)->c≠x:=fun c y r z=>by subst z;rw[r] at i;show i
 have f:∀ c xs,H c=some (.tup xs)->c≠x:=fun c xs r z=>by subst z;rw[r] at i;show i
 by_cases g:b=x
 .subst g;rw[qb] at q;cases q;show new
 .rw [qf g] at q;by_cases a:b=e
  .have m:H b=some (.own x):=by
    rcases l with z | z
    .show absurd (a.trans z) g
    .rw [a];show z
   rw[q] at m;cases m;obtain⟨v,hv⟩:=j;show⟨v,by rw[a];show hv⟩
  .show(ok b u q).stay (fun c v hc r=>k c v ?_ r) (fun c r=>by rw[qf (d c b r)];show r) fun c xs r=>by rw[qf (f c xs r)];show r
   rcases hc with rfl | hc
   .show a
   .rintro rfl;rcases l with z | z
    .show d c b hc z
    .rw [hc] at z;cases z;show g rfl
end
structure Un(fs ex:LQ)(H H':Hp)(h h':Heap):Prop where
 keep:∀ b o,h.get? b=some o->H b=none->b∉fs->b∉ex->h'.get? b=some o
 slot:∀ b o,h.get? b=some o->H b=none->b∈fs->b∉ex->∃ sl,h'.get? b=some { o with slots:=sl }
 free:∀ b o,h.get? b=some o->H b=none->b∉ex->H' b=none
 there:∀ b o,h.get? b=some o->b∉ex->∃ o',h'.get? b=some o'
 tups:∀ b xs,H b=some (.tup xs)->H' b=some (.tup xs)
 frzs:∀ b o u,H b=some (.frz o u)->H' b=some (.frz o u)
 tbls:∀ b ps,H b=some (.tbl ps)->∃ more,H' b=some (.tbl (ps++more))
section
variable{fs fs' ex ex':LQ}{H H1 H2:Hp}{h h1 h2 h':Heap}{a x e:Addr}{o:HO}
theorem Un.any(u:Un fs ex H H1 h h1){a:Obj}(q:h.get? b=some a)(n:H b=none)(d:b∉ex):∃ e,h1.get? b=some { a with slots:=e }:=by
 by_cases c:b∈fs
 .show u.slot b a q n c d
 .show⟨a.slots,u.keep b a q n c d⟩
theorem Un.kept(k:∀ b u,h.get? b=some u->h'.get? b=some u):Un fs ex H H h h':=
 ⟨fun b a q _ _ _=>k b a q,fun b a q _ _ _=>⟨a.slots,k b a q⟩,fun _ _ _ n _=>n,fun b a q _=>⟨a,k b a q⟩,fun _ _ q=>q,fun _ _ _ q=>q,fun _ ps q=>⟨#[],by rw[q];simp⟩⟩
theorem Un.refl:Un fs ex H H h h:=Un.kept fun _ _ q=>q
theorem Un.laid(k:∀ b u,h.get? b=some u->h'.get? b=some u)(d:h.objs.size<=a)(c:H a=none):Un fs ex H (upd H a o) h h' where
 keep:=fun b u q _ _ _=>k b u q
 slot:=fun b u q _ _ _=>⟨u.slots,k b u q⟩
 free:=fun b u q n _=>by rw[qf (yT (yj (yN q) d))];show n
 there:=fun b u q _=>⟨u,k b u q⟩
 tups:=fun b xs q=>by rw[qf (qJ q c)];show q
 frzs:=fun b u xs q=>by rw[qf (qJ q c)];show q
 tbls:=fun b ps q=>⟨#[],by rw[qf (qJ q c),q];simp⟩
theorem Un.write(c:Mut (H x))(j:e=x\/H e=some (.own x))(k:∀ b u,b≠e->h.get? b=some u->h'.get? b=some u)(d:∃ u,h'.get? e=some u):Un fs ex H (upd H x o) h h':=by
 have i:∀ b,H b=none->b≠x:=fun b n z=>by subst z;rw[n] at c;show c
 have g:∀ b,H b=none->b≠e:=fun b n z=>by
  subst z;rcases j with r | r
  .show i b n r
  .rw [n] at r;cases r
 have f:∀ b u,H b=some u->¬ Mut (some u)->b≠x:=fun b u q l z=>by subst z;rw[q] at c;show l c
 show⟨fun b u q n _ _=>k b u (g b n) q,fun b u q n _ _=>⟨u.slots,k b u (g b n) q⟩,fun b u q n _=>by rw[qf (i b n)];show n,fun b u q _=>?_,
  fun b xs q=>by rw[qf (f b _ q fun z=>z)];show q,fun b u xs q=>by rw[qf (f b _ q fun z=>z)];show q,fun b ps q=>⟨#[],by rw[qf (f b _ q fun z=>z),q];simp⟩⟩
 by_cases a:b=e
 .subst a;show d
 .show⟨u,k b u a q⟩
end
def trk(h:Heap)(H:Hp):LQ:=(List.range h.objs.size).filter fun a=>(H a).isSome
def qfp(h:Heap)(H:Hp):Heap:=PySem.W.hideAll h (trk h H)
theorem hidT_size(h:Heap)(H:Hp):(qfp h H).objs.size=h.objs.size:=PySem.W.hideAll_size _ _
theorem hidT_get{o:Obj}(e:h.get? b=some o)(n:H b=none):(qfp h H).get? b=some o:=
 PySem.W.hideAll_get _ e fun a=>by
  have q:(H b).isSome=true:=(yp.mp a).2;rw[n] at q;simp at q
theorem of_hidT{o:Obj}(e:(qfp h H).get? b=some o):h.get? b=some o/\H b=none:=by
 have a:h.get? b=some o:=PySem.W.of_hideAll (trk h H) e;show⟨a,?_⟩
 cases q:H b with
 | none=>rfl
 | some x =>
  have c:b∈trk h H:=yp.mpr ⟨Yo.mpr (yN a),by simp[q]⟩;have z:(qfp h H).get? b=none:=PySem.W.hideAll_none (trk h H) c;rw[z] at e;cases e
def allNews(g h:Heap)(L:Addr):List (Addr×Obj):=(List.range h.objs.size).filterMap fun a=>if a=L\/(g.get? a).isSome=true then none else(h.get? a).map fun o=>(a,o)
def qex(g h:Heap)(L d:Addr):List (Addr×Obj):=(allNews g h L).filter fun p=>decide (p.1≠d)
structure Mod(K:yg)(mg:Str->Option Value)(base:Heap):Prop where
 kin:K.In base
 glob:base.Ns mainGlobals mg
 blt:∃ mb,base.Ns builtinsNs mb/\∀ x:Str,x≠"__name__"->mb x=bootBuiltins x
 nolimit:base.NoLimit
structure Cx where
 prog:Program
 w:World
 K:yg
 mg:Str->Option Value
 base:Heap
 A:Around
 N:LS
 s₀:Shared
 H₀:Hp
 env:Env
 outer:List Env
 stack:List Env
 ex:LQ
 fn:Str->Bool
 calm:Bool
 pn:List (Addr×Obj)
 xe:Value->Shared->Prop
def frs(l:List Env):LQ:=l.filterMap (·.frame)
abbrev Cx.fs(X:Cx):LQ:=frs X.outer
def Vis(sc:Scope)(x:Str):Prop:=sc.names.lookup x=some .local\/sc.names.lookup x=some .cell\/sc.names.lookup x=some .free
def Loc(sc:Scope)(x:Str):Prop:=sc.names.lookup x=some .local\/sc.names.lookup x=some .cell
def Look(env:Env)(h:Heap)(m:Str->Option Value)(x:Str)(u:Value):Prop:=
 (env.kindOf x=some .local/\m x=some u)\/((env.kindOf x=some .cell\/env.kindOf x=some .free)/\∃ c,env.cells.lookup x=some c/\h.IsCell c (some u))
structure Cx.Ok(X:Cx):Prop where
 mod:Mod X.K X.mg X.base
 kind:X.env.scope.kind=.function
 glob:X.env.globals=mainGlobals
 blt:X.env.builtins=builtinsNs
 above:X.s₀.heap.objs.size<=X.env.locals
 inj:∀ x y c,X.env.cells.lookup x=some c->X.env.cells.lookup y=some c->x=y
 has:∀ x,(X.env.kindOf x=some .cell\/X.env.kindOf x=some .free)->∃ c,X.env.cells.lookup x=some c
 cab:∀ x c,X.fn x=true->X.env.cells.lookup x=some c->X.s₀.heap.objs.size<=c
 hd:X.calm=true->X.A.handled=none
 frames:X.A.frames=some X.stack
 stk:X.stack=X.outer\/(X.stack=X.env::X.outer/\X.env.frame=some X.env.locals)
 exf:∀ b∈X.ex,b≠X.env.locals/\∀ x c,X.env.cells.lookup x=some c->c≠b
 bs:∀ b o,X.base.get? b=some o->X.s₀.heap.get? b=some o/\X.H₀ b=none
 bsz:X.base.objs.size<=X.s₀.heap.objs.size
 noex:∀ b o,X.base.get? b=some o->b∉X.ex
 exfs:∀ b∈X.ex,b∉X.fs
 funs:X.s₀.heap.FunFrames X.base X.outer
 frf:∀ b∈X.fs,X.H₀ b=none
structure Inv(X:Cx)(pins:List (Addr×Obj))(σ:List (Option V))(H:Hp)(s:Shared):Prop where
 ok:X.Ok
 os:s.os=X.s₀.os
 bare:AllBare s.gens
 base:Un X.fs X.ex X.H₀ H X.s₀.heap s.heap
 loc:∃ m,s.heap.Ns X.env.locals m/\∀(i:Nat) (x:Str) (v:V),X.N[i]?=some x->σ[i]?=some (some v)->Vis X.env.scope x->∃ u,RelV v u/\Look X.env s.heap m x u
 cell:∀ x c,X.env.cells.lookup x=some c->∃ v,s.heap.IsCell c v
 free:H X.env.locals=none
 freeC:∀ x c,X.env.cells.lookup x=some c->H c=none
 pin:∀ p∈X.pn++pins,s.heap.get? p.1=some p.2/\H p.1=none/\p.1≠X.env.locals/\p.1∉X.fs/\∀ v,p.2.data≠.cell v
 hok:HOk X.prog X.w H s.heap
 len:σ.length=X.N.length
section
variable{X:Cx}{pins:List (Addr×Obj)}{σ:List (Option V)}{H H':Hp}{s:Shared}{h':Heap}
theorem Cx.Ok.nofr(ok:X.Ok){o:Obj}(e:X.base.get? b=some o):b∉X.fs:=fun a=>by
 have:=(ok.funs.mem a).1;rw[e] at this;cases this
theorem Inv.bs(I:Inv X pins σ H s):∀ b o,X.base.get? b=some o->s.heap.get? b=some o/\H b=none:=fun b o e =>
 ⟨I.base.keep b o (I.ok.bs b o e).1 (I.ok.bs b o e).2 (I.ok.nofr e) (I.ok.noex b o e),I.base.free b o (I.ok.bs b o e).1 (I.ok.bs b o e).2 (I.ok.noex b o e)⟩
theorem Inv.bk(I:Inv X pins σ H s):∀ b o,X.base.get? b=some o->s.heap.get? b=some o:=fun b o e=>(I.bs b o e).1
theorem Inv.mod(I:Inv X pins σ H s):Mod X.K X.mg X.base:=I.ok.mod
theorem Inv.kIn(I:Inv X pins σ H s):X.K.In s.heap:=I.ok.mod.kin.keeps I.bk
theorem Inv.lt(I:Inv X pins σ H s):X.env.locals<s.heap.objs.size:=let ⟨_,hn,_⟩:=I.loc;hn.lt
theorem Inv.sz(I:Inv X pins σ H s):X.s₀.heap.objs.size<=s.heap.objs.size:=yi I.ok.above (yX I.lt)
theorem Inv.nofs(I:Inv X pins σ H s)(h:s.heap.objs.size<=a):a∉X.fs:=fun b=>by
 obtain⟨_,o,c,_⟩:=I.ok.funs.mem b;show absurd (yj (yN c) (yi I.sz h)) (YB _)
theorem Inv.cne(I:Inv X pins σ H s):∀ x c,X.env.cells.lookup x=some c->c≠X.env.locals:=fun x c e z=>by
 obtain⟨v,o,f,d⟩:=I.cell x c e;obtain⟨m,⟨g,es,ep,b,a,_⟩,_⟩:=I.loc;rw[z,b] at f;cases f;rw[a] at d;cases d
theorem Inv.funs(I:Inv X pins σ H s):s.heap.FunFrames X.base X.outer:=by
 have all:∀(l:List Env),(∀ b∈frs l,b∈X.fs)->X.s₀.heap.FunFrames X.base l->s.heap.FunFrames X.base l:=by
  intro l
  induction l with
  | nil=>intro _ _;trivial
  | cons env r ih =>
   intro f hl;obtain⟨h,⟨L,o,d,i,j,g⟩,m⟩:=hl;have a:L∈X.fs:=f L (by unfold frs;rw[XJ,d];show yU);obtain⟨n,e⟩:=I.base.slot L o j (I.ok.frf L a) a fun z=>I.ok.exfs L z a;show⟨h,⟨L,_,d,i,e,g⟩,ih (fun b c=>f b (by unfold frs;rw[XJ,d];show yC _ c)) m⟩
 show all X.outer (fun _ c=>c) I.ok.funs
theorem Inv.stack(I:Inv X pins σ H s):s.heap.FunFrames X.base X.stack:=by
 rcases I.ok.stk with e | ⟨e,hf⟩
 .rw [e];show I.funs
 .rw [e];obtain⟨m,a,_⟩:=I.loc;show .cons (by rw[I.ok.kind];decide) hf a ?_ I.funs;show Heap.get?_none_of_le (yi I.ok.bsz I.ok.above)
theorem Inv.stkSub(I:Inv X pins σ H s):∀ b∈frs X.stack,b∈X.env.locals::X.fs:=fun b a=>by
 rcases I.ok.stk with e | ⟨e,hf⟩
 .rw [e] at a;show yC _ a
 .rw [e] at a;unfold frs at a;rw[XJ,hf] at a;show a
theorem Inv.stkFree(I:Inv X pins σ H s):∀ b∈frs X.stack,H b=none:=fun b hb=>by
 rcases yx.mp (I.stkSub b hb) with e | hb
 .rw [e];show I.free
 .obtain⟨_,o,a,_⟩:=I.ok.funs.mem hb;show I.base.free b o a (I.ok.frf b hb) fun z=>I.ok.exfs b z hb
theorem Inv.step(I:Inv X pins σ H s)
  (f:∀ b∈ch,(b∈X.ex\/X.s₀.heap.objs.size<=b)/\b≠X.env.locals/\(∀ x c,X.env.cells.lookup x=some c->c≠b)/\∀ p∈X.pn++pins,p.1≠b)
  (keep:∀ b o,b≠X.env.locals->b∉X.fs->b∉ch->s.heap.get? b=some o->H b=none->h'.get? b=some o)
  (t:∀ b o,b≠X.env.locals->b∈X.fs->b∉ch->s.heap.get? b=some o->H b=none->∃ N,h'.get? b=some { o with slots:=N }) (free:∀ b o,b∉ch->s.heap.get? b=some o->H b=none->H' b=none)
  (A:∀ b o,b∉ch->s.heap.get? b=some o->∃ G,h'.get? b=some G)
  (K:∀ b xs,H b=some (.tup xs)->H' b=some (.tup xs)) (D:∀ b o u,H b=some (.frz o u)->H' b=some (.frz o u)) (J:∀ b ps,H b=some (.tbl ps)->∃ E,H' b=some (.tbl (ps++E)))
  (ns:∀ m,s.heap.Ns X.env.locals m->h'.Ns X.env.locals m) (M:HOk X.prog X.w H' h') (T:AllBare g') :
  Inv X pins σ H' { s with heap:=h',gens:=g',drawn:=d',toks:=t' }:=by
 have F:∀ b o,X.s₀.heap.get? b=some o->b≠X.env.locals:=fun b o e=>yT (yj (yN e) I.ok.above)
 have j:∀ b o,X.s₀.heap.get? b=some o->b∉X.ex->b∉ch:=fun b o e a y=>by
  rcases(f b y).1 with z | z
  .show a z
  .show absurd (yj (yN e) z) (YB _)
 have cellK:∀ x c,X.env.cells.lookup x=some c->∀ v,s.heap.IsCell c v->h'.IsCell c v:=fun x c e v ⟨o,B,L⟩=>by
  have g:c∉ch:=fun z=>(f c z).2.2.1 x c e rfl;by_cases hc:c∈X.fs
  .obtain⟨N,q⟩:=t c o (I.cne x c e) hc g B (I.freeC x c e);show⟨_,q,L⟩
  .show⟨o,keep c o (I.cne x c e) hc g B (I.freeC x c e),L⟩
 show⟨I.ok,I.os,T,⟨fun b o e n y a=>?_,fun b o e n y a=>?_,fun b o e n a=>?_,fun b o e a=>?_,fun b xs e=>K b xs (I.base.tups b xs e),fun b o xs e=>D b o xs (I.base.frzs b o xs e),fun b ps e=>?_⟩,?_,fun x c e=>?_,?_,fun x c e=>?_,fun p P=>?_,M,I.len⟩
 .show keep b o (F b o e) y (j b o e a) (I.base.keep b o e n y a) (I.base.free b o e n a)
 .obtain⟨N,h⟩:=I.base.slot b o e n y a;obtain⟨O,C⟩:=t b _ (F b o e) y (j b o e a) h (I.base.free b o e n a);show⟨O,C⟩
 .obtain⟨G,h⟩:=I.base.there b o e a;show free b G (j b o e a) h (I.base.free b o e n a)
 .obtain⟨G,h⟩:=I.base.there b o e a;show A b G (j b o e a) h
 .obtain⟨W,h⟩:=I.base.tbls b ps e;obtain⟨Y,C⟩:=J b _ h;show⟨W++Y,by rw[C,Array.append_assoc]⟩
 .obtain⟨m,U,hl⟩:=I.loc;show⟨m,ns m U,fun i x v h C S=>?_⟩;obtain⟨u,r,l⟩:=hl i x v h C S;show⟨u,r,?_⟩;rcases l with l | ⟨k,c,e,z⟩
  .show .inl l
  .show .inr ⟨k,c,e,cellK x c e _ z⟩
 .obtain⟨v,z⟩:=I.cell x c e;show⟨v,cellK x c e v z⟩
 .obtain⟨m,⟨o,_,_,B,_⟩,_⟩:=I.loc;show free _ o (fun z=>(f _ z).2.1 rfl) B I.free
 .obtain⟨v,o,B,L⟩:=I.cell x c e;show free c o (fun z=>(f c z).2.2.1 x c e rfl) B (I.freeC x c e)
 .obtain⟨e,n,ne,R,d⟩:=I.pin p P;have g:p.1∉ch:=fun z=>(f p.1 z).2.2.2 p P rfl;show⟨keep p.1 p.2 ne R g e n,free p.1 p.2 g e n,ne,R,d⟩
theorem Inv.un(I:Inv X pins σ H s)(u:Un X.fs [] H H' s.heap h')(g:HOk X.prog X.w H' h'):Inv X pins σ H' { s with heap:=h',toks:=t' }:=by
 obtain⟨m,⟨o,es,ep,h,r⟩,_⟩:=id I.loc;obtain⟨q,i⟩:=u.any h I.free (by simp)
 show I.step (g':=s.gens) (d':=s.drawn) (ch:=[]) (fun _ z=>nomatch z) (fun b o _ f _ e n=>u.keep b o e n f (by simp)) (fun b o _ f _ e n=>u.slot b o e n f (by simp)) (fun b o _ e n=>u.free b o e n (by simp)) (fun b o _ e=>u.there b o e (by simp)) u.tups u.frzs u.tbls (fun l j=>by
  obtain⟨p,d,c,a,r'⟩:=j;rw[h] at a;cases a;show⟨_,d,c,i,r'⟩) g I.bare
theorem Inv.call(I:Inv X pins σ H s)(u:Un (frs X.stack) ch H H' s.heap h')(i:HOk X.prog X.w H' h')(q:AllBare g')
  (a:∀ b∈ch,(b∈X.ex\/X.s₀.heap.objs.size<=b)/\b≠X.env.locals/\(∀ x c,X.env.cells.lookup x=some c->c≠b)/\∀ p∈X.pn++pins,p.1≠b) :
  Inv X pins σ H' { s with heap:=h',gens:=g',drawn:=d',toks:=t' }:=by
 obtain⟨m,⟨o,es,ep,j,r⟩,_⟩:=id I.loc;obtain⟨A,h⟩:=u.any j I.free fun z=>(a _ z).2.1 rfl
 show I.step (ch:=ch) a (fun b o h l hc e n=>u.keep b o e n (fun z=>(yx.mp (I.stkSub b z)).elim h l) hc) (fun b o _ _ hc e n=>u.any e n hc) (fun b o hc e n=>u.free b o e n hc) (fun b o hc e=>u.there b o e hc) u.tups u.frzs u.tbls (fun v t=>by
  obtain⟨y,g,f,d,r'⟩:=t;rw[j] at d;cases d;show⟨_,g,f,h,r'⟩) i q
theorem Inv.turned(I:Inv X pins σ H s)(k:∀ b o,b≠it->s.heap.get? b=some o->h'.get? b=some o)(j:H it=none)(d:it≠X.env.locals)
  (h1:it∈X.ex\/X.s₀.heap.objs.size<=it) (f:∀ x c,X.env.cells.lookup x=some c->c≠it) (g:∀ p∈X.pn++pins,p.1≠it):Inv X pins σ H { s with heap:=h',toks:=t' }:=by
 have a:∀ b u,H b=some u->b≠it:=fun b u e z=>by rw[z,j] at e;cases e
 show I.step (g':=s.gens) (d':=s.drawn) (ch:=[it]) (fun b h=>?_) (fun b o _ _ hc e _=>k b o (fun z=>hc (by simp[z])) e) (fun b o _ _ hc e _=>⟨o.slots,k b o (fun z=>hc (by simp[z])) e⟩) (fun _ _ _ _ n=>n)
  (fun b o hc e=>⟨o,k b o (fun z=>hc (by simp[z])) e⟩) (fun _ _ e=>e) (fun _ _ _ e=>e) (fun b ps e=>⟨#[],by rw[e];simp⟩) (fun m i=>?_) (fun b u e=>?_) I.bare
 .have e:b=it:=by simpa using h
  subst e;show⟨h1,d,f,g⟩
 .obtain⟨o,es,ep,l,r⟩:=i;show⟨o,es,ep,k _ o (Ym d) l,r⟩
 .show(I.hok b u e).stay (fun c v hc q=>k c v ?_ q) (fun _ q=>q) fun _ _ q=>q;rcases hc with z | z
  .rw [z];show a b u e
  .show a c _ z
theorem Inv.tok(I:Inv X pins σ H s)(t:Nat):Inv X pins σ H { s with toks:=t }:=I.un (h':=s.heap) (t':=t) Un.refl I.hok
theorem Inv.kept(I:Inv X pins σ H s)(k:∀ b u,s.heap.get? b=some u->h'.get? b=some u):Inv X pins σ H { s with heap:=h',toks:=t' }:=I.un (Un.kept k) (I.hok.kept k)
theorem Inv.laid(I:Inv X pins σ H s)(k:∀ b u,s.heap.get? b=some u->h'.get? b=some u)(c:s.heap.objs.size<=a)(new:ObjOk X.prog X.w (upd H a o) h' a o) :
  Inv X pins σ (upd H a o) { s with heap:=h',toks:=t' }:=I.un (Un.laid k c (I.hok.fresh c)) (I.hok.laid k c new)
theorem Inv.write{x e:Addr}(I:Inv X pins σ H s)(d:Mut (H x))(c:e=x\/H e=some (.own x))(k:∀ b u,b≠e->s.heap.get? b=some u->h'.get? b=some u)(a:∃ u,h'.get? e=some u)
  (new:ObjOk X.prog X.w (upd H x o) h' x o):Inv X pins σ (upd H x o) { s with heap:=h',toks:=t' }:=I.un (Un.write d c k a) (I.hok.write d c k a new)
theorem Inv.weak{a:List (Option V)}(I:Inv X pins σ H s)(hl:a.length=σ.length)(w:∀(i:Nat) v,a[i]?=some (some v)->σ[i]?=some (some v)):Inv X pins a H s:=
 ⟨I.ok,I.os,I.bare,I.base,let ⟨m,hn,hl'⟩:=I.loc;⟨m,hn,fun i x v b c d=>hl' i x v b (w i v c) d⟩,I.cell,I.free,I.freeC,I.pin,I.hok,hl.trans I.len⟩
theorem Inv.pins_of{pins':List (Addr×Obj)}(I:Inv X pins σ H s)(h:∀ p∈pins',s.heap.get? p.1=some p.2/\H p.1=none/\p.1≠X.env.locals/\p.1∉X.fs/\∀ v,p.2.data≠.cell v):Inv X pins' σ H s:=
 ⟨I.ok,I.os,I.bare,I.base,I.loc,I.cell,I.free,I.freeC,fun p a=>(yA.mp a).elim (fun z=>I.pin p (yR _ z)) (h p),I.hok,I.len⟩
theorem qdQ(e:N.Nodup)(a:N[i]?=some x)(b:N[j]?=some x):i=j:=by
 obtain⟨h1,c⟩:=yc.mp a;obtain⟨f,d⟩:=yc.mp b;show(List.getElem_inj e).mp (c.trans d.symm)
theorem qcF{Q:Unit->Shared->Prop}(I:Inv X pins σ H s)(hN:X.N.Nodup)(P:X.N[i]?=some x)(t:Loc X.env.scope x)(r:RelV v u)
  (h:∀ s',Inv X pins (σ.set i (some v)) H s'->(∃ a,Heap.SameBut a s.heap s'.heap/\(a=X.env.locals\/X.env.cells.lookup x=some a))->Q () s') (hf:X.fn x=true\/X.env.scope.names.lookup x=some .local:=by first | show .inl rfl | show .inr rfl | assumption):wpAny M A (storeName X.env x u) Q E s:=by
 obtain⟨m,Y,hl⟩:=id I.loc;have O:(X.env.scope.kind==.class||(X.env.scope.kind==.module&&X.env.locals != X.env.globals))=false:=by rw[I.ok.kind];rfl
 have D:i<σ.length:=by rw[I.len];show(yc.mp P).1
 have cne:=I.cne
 have l:∀{a:Addr} {h':Heap},(∃ o,s.heap.get? a=some o/\H a=none)->Heap.SameBut a s.heap h'->HOk X.prog X.w H h':=fun{a h'} ha f b ob e=>by
  obtain⟨_,_,B⟩:=ha;show(I.hok b ob e).stay (fun c U hc q=>(f.2 c ?_).trans q) (fun _ q=>q) fun _ _ q=>q;rintro rfl;rcases hc with rfl | hc
  .rw [B] at e;cases e
  .rw [B] at hc;cases hc
 rcases t with hk | hk
 .show wpAny_storeName_local hk Y (fun h' Z f=>?_) O;obtain⟨oL,_,_,aa,_⟩:=id Y;show h _ ⟨I.ok,I.os,I.bare,⟨fun b o e n F t=>?_,fun b o e n F t=>?_,I.base.free,fun b o e t=>?_,I.base.tups,I.base.frzs,I.base.tbls⟩,⟨_,Z,fun j y v' g C W=>?_⟩,fun y c e=>?_,I.free,I.freeC,fun p hp=>?_,l ⟨oL,aa,I.free⟩ f,by simpa using I.len⟩ ⟨_,f,.inl rfl⟩
  .show(f.2 b (yT (yj (yN e) I.ok.above))).trans (I.base.keep b o e n F t)
  .obtain⟨sl,g⟩:=I.base.slot b o e n F t;show⟨sl,(f.2 b (yT (yj (yN e) I.ok.above))).trans g⟩
  .obtain⟨o',g⟩:=I.base.there b o e t;show⟨o',(f.2 b (yT (yj (yN e) I.ok.above))).trans g⟩
  .by_cases J:j=i
   .subst J;rw[P] at g;cases g;rw[List.getElem?_set_self D] at C;cases C;show⟨u,r,.inl ⟨hk,by simp⟩⟩
   .rw [xQ (Ym J)] at C;obtain⟨u',r',q⟩:=hl j y v' g C W;show⟨u',r',?_⟩;rcases q with⟨k,e⟩ | ⟨k,c,e,z⟩
    .show .inl ⟨k,?_⟩;have:y≠x:=fun e=>J (qdQ hN g (e ▸ P));simp[this,e]
    .show .inr ⟨k,c,e,z.sameBut f (cne y c e)⟩
  .obtain⟨U,z⟩:=I.cell y c e;show⟨U,z.sameBut f (cne y c e)⟩
  .obtain⟨e,n,ne,nf,d⟩:=I.pin p hp;show⟨(f.2 p.1 ne).trans e,n,ne,nf,d⟩
 .have G:X.fn x=true:=by
   rcases hf with z | z
   .show z
   .rw [z] at hk;cases hk
  obtain⟨c,hc⟩:=I.ok.has x (.inl hk);obtain⟨U,z⟩:=I.cell x c hc;show wpAny_storeName_cell I.ok.kind hk hc z (fun h' K f=>?_);obtain⟨oc,R,S⟩:=id z;show h { s with heap:=h' } ⟨I.ok,I.os,I.bare,⟨fun b o e n F t=>?_,fun b o e n F t=>?_,I.base.free,fun b o e t=>?_,I.base.tups,I.base.frzs,I.base.tbls⟩,⟨m,Y.sameBut f (Ym (cne x c hc)),fun j y v' g C W=>?_⟩,fun y T e=>?_,I.free,I.freeC,fun p hp=>?_,l ⟨oc,R,I.freeC x c hc⟩ f,by simpa using I.len⟩ ⟨c,f,.inr hc⟩
  .show(f.2 b (yT (yj (yN e) (I.ok.cab x c G hc)))).trans (I.base.keep b o e n F t)
  .obtain⟨sl,g⟩:=I.base.slot b o e n F t;show⟨sl,(f.2 b (yT (yj (yN e) (I.ok.cab x c G hc)))).trans g⟩
  .obtain⟨o',g⟩:=I.base.there b o e t;show⟨o',(f.2 b (yT (yj (yN e) (I.ok.cab x c G hc)))).trans g⟩
  .by_cases J:j=i
   .subst J;rw[P] at g;cases g;rw[List.getElem?_set_self D] at C;cases C;show⟨u,r,.inr ⟨.inl hk,c,hc,K⟩⟩
   .rw [xQ (Ym J)] at C;obtain⟨u',r',q⟩:=hl j y v' g C W;show⟨u',r',?_⟩;rcases q with q | ⟨k,T,e,z'⟩
    .show .inl q
    .show .inr ⟨k,T,e,z'.sameBut f ?_⟩;rintro rfl;show J (qdQ hN g (I.ok.inj _ _ _ e hc ▸ P))
  .by_cases L:T=c
   .subst L;show⟨_,K⟩
   .obtain⟨w2,z2⟩:=I.cell y T e;show⟨w2,z2.sameBut f L⟩
  .obtain⟨e,n,ne,nf,d⟩:=I.pin p hp;show⟨(f.2 p.1 ?_).trans e,n,ne,nf,d⟩;intro q;rw[q,R] at e;have q':oc=p.2:=ym e;show d U (by rw[<- q'];show S)
theorem qdR{Q:Unit->Shared->Prop}(I:Inv X pins σ H s)(b:X.N.Nodup)(d:X.N[i]?=some x)(e:Loc X.env.scope x)(r:RelV v u)
  (h:∀ s',Inv X pins (σ.set i (some v)) H s'->Q () s') (c:X.fn x=true\/X.env.scope.names.lookup x=some .local:=by first | show .inl rfl | show .inr rfl | assumption):wpAny M A (storeName X.env x u) Q E s:=
 qcF I b d e r (fun s' a _=>h s' a) c
theorem Inv.call'(I:Inv X pins σ H s)(g:s'.os=s.os)(u:Un (frs X.stack) ch H H' s.heap s'.heap)(d:HOk X.prog X.w H' s'.heap)(f:AllBare s'.gens)
  (a:∀ b∈ch,(b∈X.ex\/X.s₀.heap.objs.size<=b)/\b≠X.env.locals/\(∀ x c,X.env.cells.lookup x=some c->c≠b)/\∀ p∈X.pn++pins,p.1≠b):Inv X pins σ H' s':=by
 obtain⟨h',g',d',t',h⟩:=s';have e:h=s.os:=g;subst e;show I.call (g':=g') (t':=t') (d':=d') u d f a
end
abbrev XK:=Value->Option Addr->Hp->Prop
abbrev St:=List (Option V)
abbrev VK:=V->Hp->Prop
abbrev TE:=St->Hp->VK->Prop
abbrev TT:=St->Hp->(Bool->Hp->Prop)->Prop
abbrev TA:=St->Hp->(List V->Hp->Prop)->Prop
structure Ends where
 nx:St->Hp->Prop
 rt:VK
 bk:St->Hp->Prop:=fun _ _=>False
 ct:St->Hp->Prop:=fun _ _=>False
abbrev TS:=Ends->St->Hp->Prop
def EP(X:Cx)(pins:List (Addr×Obj))(σ:St)(Q:VK)(u:Value)(s':Shared):Prop:=∃ v H',Inv X pins σ H' s'/\RelV v u/\Q v H'
def TP(X:Cx)(pins:List (Addr×Obj))(σ:St)(Q:Bool->Hp->Prop)(b:Bool)(s':Shared):Prop:=∃ H',Inv X pins σ H' s'/\Q b H'
def AP(X:Cx)(pins:List (Addr×Obj))(σ:St)(Q:List V->Hp->Prop)(us:List Value)(s':Shared):Prop:=∃ vs H',Inv X pins σ H' s'/\Vals vs us/\Q vs H'
def SP(X:Cx)(pins:List (Addr×Obj))(D:Ends)(f:Flow)(s':Shared):Prop:=
 match f with
 | .next=>∃ a H',Inv X pins a H' s'/\D.nx a H'
 | .brk=>∃ a H',Inv X pins a H' s'/\D.bk a H'
 | .cont=>∃ a H',Inv X pins a H' s'/\D.ct a H'
 | .ret u=>∃ v a H',Inv X pins a H' s'/\RelV v u/\D.rt v H'
def PE(X:Cx)(e:Expr)(t:TE):Prop:=
 ∀(pins:List (Addr×Obj)) (s:Shared) (σ:St) (H:Hp) (Q:VK),Inv X pins σ H s->t σ H Q->wpAny (model X.prog X.w) X.A (eval e X.env) (EP X pins σ Q) X.xe s
def PT(X:Cx)(e:Expr)(t:TT):Prop:=
 ∀(pins:List (Addr×Obj)) (s:Shared) (σ:St) (H:Hp) (Q:Bool->Hp->Prop),Inv X pins σ H s->t σ H Q->wpAny (model X.prog X.w) X.A (isTrue e X.env (eval e X.env)) (TP X pins σ Q) X.xe s
def PW(X:Cx)(e:Expr)(t:TT):Prop:=
 ∀(a:Sem Value) (pins:List (Addr×Obj)) (s:Shared) (σ:St) (H:Hp) (Q:Bool->Hp->Prop),Inv X pins σ H s->t σ H Q->wpAny (model X.prog X.w) X.A (isTrue e X.env a) (TP X pins σ Q) X.xe s
theorem PW.pt{t:TT}(h:PW X e t):PT X e t:=h _
def PA(X:Cx)(es:List Expr)(t:TA):Prop:=
 ∀(pos:Pos) (pins:List (Addr×Obj)) (s:Shared) (σ:St) (H:Hp) (Q:List V->Hp->Prop),Inv X pins σ H s->t σ H Q->wpAny (model X.prog X.w) X.A (spliced (backTo pos (starEach es X.env))) (AP X pins σ Q) X.xe s
def PS(X:Cx)(st:Stmt)(t:TS):Prop:=
 ∀(pins:List (Addr×Obj)) (s:Shared) (σ:St) (H:Hp) (D:Ends),Inv X pins σ H s->t D σ H->wpAny (model X.prog X.w) X.A (exec st X.env) (SP X pins D) X.xe s
def PSs(X:Cx)(st:List Stmt)(t:TS):Prop:=
 ∀(pins:List (Addr×Obj)) (s:Shared) (σ:St) (H:Hp) (D:Ends),Inv X pins σ H s->t D σ H->wpAny (model X.prog X.w) X.A (execs st X.env) (SP X pins D) X.xe s
theorem thn{t:Sem α}{Q b:α->Shared->Prop}(h:wpAny M A t Q E s)(c:∀ a s,Q a s->b a s):wpAny M A t b E s:=YY h c fun _ _ x=>x
section
variable{X:Cx}
def qeA(i:Nat):TE:=fun σ H Q=>∃ v,σ[i]?=some (some v)/\Q v H
def tC(v:V):TE:=fun _ H Q=>Q v H
theorem pe_var(g:X.N[i]?=some x)(hv:Vis X.env.scope x)(f:(x==("__debug__":Str))=false:=by decide)(d:(x==("__classdict__":Str))=false:=by decide):PE X (.Name x pos) (qeA i):=by
 intro pins s σ H Q I h;obtain⟨v,e,h⟩:=h;obtain⟨m,n,hl⟩:=I.loc;obtain⟨u,r,l⟩:=hl i x v g e hv;have b:EP X pins σ Q u s:=⟨v,H,I,r,h⟩;rcases l with⟨hk,j⟩ | ⟨hk,c,hc,a⟩
 .show wpAny_Name (wpAny_loadName_local I.ok.kind hk n j b) f
 .rcases hk with hk | hk
  .show wpAny_Name (wpAny_loadName_cell I.ok.kind hk hc a b) f
  .show wpAny_Name (wpAny_loadName_free I.ok.kind hk hc a b d) f
theorem qh{i j pos}:PE X (.Constant (.int i) j pos) (tC (.int i)):=fun _ _ _ H _ I h=>wpAny_Constant_int ⟨.int i,H,I.tok _,⟨_,rfl⟩,h⟩
theorem jS{b j pos}:PE X (.Constant (.bool b) j pos) (tC (.bl b)):=fun _ _ _ H _ I h=>Constant_bool ⟨.bl b,H,I,rfl,h⟩
theorem qag{j pos}:PE X (.Constant .none j pos) (tC .non):=fun _ _ _ H _ I h=>Constant_none ⟨.non,H,I,rfl,h⟩
theorem jo{x j pos}:PE X (.Constant (.str x) j pos) (tC (.str x)):=fun _ _ _ H _ I h=>Calls.Constant_str ⟨.str x,H,I.tok _,⟨_,rfl⟩,h⟩
def Gl(X:Cx)(x:Str):Prop:=X.env.kindOf x=some .globalImplicit
theorem qdp{Q:Value->Shared->Prop}(I:Inv X pins σ H s)(b:Gl X x)(c:X.mg x=some u)(h:Q u s)
  (a:(x==("__debug__":Str))=false:=by decide):wpAny (model X.prog X.w) X.A (eval (.Name x pos) X.env) Q E s:=
 Calls.Name_function_global I.ok.kind b (Calls.loadGlobal_global (by rw[I.ok.glob];show I.mod.glob.keeps I.bk) c h) a
theorem qaM{Q:Value->Shared->Prop}(I:Inv X pins σ H s)(c:Gl X x)(d:X.mg x=none)(hv:bootBuiltins x=some u)(h:Q u s)
  (e:x≠"__name__":=by decide) (b:(x==("__debug__":Str))=false:=by decide):wpAny (model X.prog X.w) X.A (eval (.Name x pos) X.env) Q E s:=by
 obtain⟨f,h1,a⟩:=I.mod.blt;show Calls.Name_function_global I.ok.kind c (Calls.loadGlobal_builtin (by rw[I.ok.glob];show I.mod.glob.keeps I.bk) d (by rw[I.ok.blt];show h1.keeps I.bk) ((a x e).trans hv) h) b
theorem pe_glob(b:Gl X x)(c:X.mg x=some u)(r:RelV v u)(a:(x==("__debug__":Str))=false:=by decide):PE X (.Name x pos) (tC v):=
 fun _ _ _ H _ I h=>qdp I b c ⟨v,H,I,r,h⟩ a
theorem zd(b:Gl X x)(c:X.mg x=none)(hv:bootBuiltins x=some u)(r:RelV v u)(d:x≠"__name__":=by decide)(a:(x==("__debug__":Str))=false:=by decide):PE X (.Name x pos) (tC v):=
 fun _ _ _ H _ I h=>qaM I b c hv ⟨v,H,I,r,h⟩ d a
variable{a b:Expr}{ta tb:TE}{pos:Pos}
def tB(t:TE):TT:=fun σ H Q=>t σ H fun x a=>∃ c,x=.bl c/\Q c a
theorem jd(h:PE X e t)(f:∀ a,isTrue e X.env a=(do let v <- a;standAt e.pos;holding [v] (truthy v)):=by intro _;rfl):PT X e (tB t):=by
 intro pins s σ H Q I hw;show isTrue_plain (thn (h pins s σ H _ I hw) fun v j ⟨x,b,c,i,g⟩=>?_) (f _);obtain⟨d,rfl,q⟩:=g;cases i;show xR ⟨b,c,q⟩
variable{tA tB':TT}{qex:List Expr}
def qg3(t u:TT):TT:=fun σ H Q=>t σ H fun c a=>if c=true then u σ a Q else Q false a
def tOr(t u:TT):TT:=fun σ H Q=>t σ H fun c a=>if c=true then Q true a else u σ a Q
def qg4(t:TT):TT:=fun σ H Q=>t σ H fun c a=>Q (!c) a
theorem qba(b:PT X a tA):PW X (.BoolOp .And [a] pos) tA:=by
 intro f pins s σ H Q I h;show isTrue_and (thn (b pins s σ H Q I h) fun c d e=>?_)
 cases c with
 | true=>show isTrue_and_nil e
 | false=>show e
theorem qah(b:PT X a tA):PW X (.BoolOp .Or [a] pos) tA:=by
 intro f pins s σ H Q I h;show isTrue_or (thn (b pins s σ H Q I h) fun c d e=>?_)
 cases c with
 | false=>show isTrue_or_nil e
 | true=>show e
theorem qbi(g:PT X a tA)(i:PW X (.BoolOp .And (b::qex) pos) tB'):PW X (.BoolOp .And (a::b::qex) pos) (qg3 tA tB'):=by
 intro l pins s σ H Q I h;show isTrue_and (thn (g pins s σ H _ I h) fun c j ⟨d,e,f⟩=>?_)
 cases c with
 | true=>show i l pins j σ d Q e f
 | false=>show⟨d,e,f⟩
theorem qbm(g:PT X a tA)(i:PW X (.BoolOp .Or (b::qex) pos) tB'):PW X (.BoolOp .Or (a::b::qex) pos) (tOr tA tB'):=by
 intro l pins s σ H Q I h;show isTrue_or (thn (g pins s σ H _ I h) fun c j ⟨d,e,f⟩=>?_)
 cases c with
 | true=>show⟨d,e,f⟩
 | false=>show i l pins j σ d Q e f
theorem jk(d:PT X a tA):PT X (.UnaryOp .Not a pos) (qg4 tA):=by
 intro pins s σ H Q I h;show isTrue_not (d pins s σ H (fun c b=>Q (!c) b) I h)
def qgh(ta tb:TE):TE:=fun σ H Q=>ta σ H fun x a=>∃ c,x=.bl c/\if c=true then tb σ a Q else Q (.bl false) a
def tOrV(ta tb:TE):TE:=fun σ H Q=>ta σ H fun x a=>∃ c,x=.bl c/\if c=true then Q (.bl true) a else tb σ a Q
def tNotV(ta:TE):TE:=fun σ H Q=>ta σ H fun x a=>∃ c,x=.bl c/\Q (.bl (!c)) a
theorem qcG{op}(h:PE X a t):PE X (.BoolOp op [a] pos) t:=fun pins s σ H Q I hw=>BoolOp_one (h pins s σ H Q I hw)
theorem qcH(g:PE X a ta)(i:PE X (.BoolOp .And (b::qex) pos) tb):PE X (.BoolOp .And (a::b::qex) pos) (qgh ta tb):=by
 intro pins s σ H Q I h;show BoolOp_and (thn (g pins s σ H _ I h) fun v l ⟨x,e,f,j,d⟩=>?_);obtain⟨c,rfl,d⟩:=d;cases j;show xR ?_
 cases c with
 | true=>show i pins l σ e Q f d
 | false=>show⟨.bl false,e,f,rfl,d⟩
def tIf(t:TT)(ta tb:TE):TE:=fun σ H Q=>t σ H fun c a=>if c=true then ta σ a Q else tb σ a Q
theorem qcg(hc:PT X c tA)(j:PE X a ta)(l:PE X b tb):PE X (.IfExp c a b pos) (tIf tA ta tb):=by
 intro pins s σ H Q I h;show wpAny_IfExp (thn (hc pins s σ H _ I h) fun d i ⟨e,f,g⟩=>?_)
 cases d with
 | true=>show j pins i σ e Q f g
 | false=>show l pins i σ e Q f g
end
def SqL(K:yg)(H:Hp)(a:Addr)(xs:List V):Prop:=
 Rd H a (.lst xs) \/
  ∃(o:Obj) (b:Array Value) (n:Nat),K.lookup a=some o/\o.cls=.type "list"/\o.dict=none/\o.data=.seq b n/\b.size<=sizeLine/\Vals xs b.toList
def SqT(K:yg)(H:Hp)(a:Addr)(xs:List V):Prop:=
 Rd H a (.tup xs) \/
  ∃(o:Obj) (b:Array Value) (n:Nat),K.lookup a=some o/\o.cls=.type "tuple"/\o.data=.seq b n/\b.size<=sizeLine/\Vals xs b.toList
def absV:Value->Option V
 | .none=>some .non
 | .bool b=>some (.bl b)
 | .int i _=>some (.int i)
 | .str x _=>some (.str x)
 | .bytes b _=>some (.byt b)
 | .float b _=>some (.flt b)
 | .ref a=>some (.ref a)
 | .type n=>some (.ty n)
 | _=>none
theorem RelV.abs{x:V}(r:RelV x u):absV u=some x:=by
 cases x with
 | non=>cases r;rfl
 | bl _=>cases r;rfl
 | int _=>obtain⟨t,rfl⟩:=r;rfl
 | str _=>obtain⟨t,rfl⟩:=r;rfl
 | byt _=>obtain⟨t,rfl⟩:=r;rfl
 | flt _=>obtain⟨t,rfl⟩:=r;rfl
 | ref _=>cases r;rfl
 | ty _=>cases r;rfl
theorem RelV.inj{x:V}(r:RelV x u)(q:RelV y u):x=y:=ym (r.abs.symm.trans q.abs)
theorem Vals.inj:∀{xs ys:List V} {us:List Value},Vals xs us->Vals ys us->xs=ys
 | _,_,_,.nil,.nil=>rfl
 | _,_,_,.cons r t,.cons r' t'=>by rw[r.inj r',Vals.inj t t']
section
variable{X:Cx}{pins:List (Addr×Obj)}{σ:St}{H:Hp}{s:Shared}{a:Addr}{xs ys:List V}
theorem SqL.of{K:yg}(h:H a=some (.lst xs)):SqL K H a xs:=.inl (.inl h)
theorem SqT.of{K:yg}(h:H a=some (.tup xs)):SqT K H a xs:=.inl (.inl h)
theorem Inv.list(I:Inv X pins σ H s)(h:SqL X.K H a xs):∃ b:List Value,Vals xs b/\PlainL s.heap a b.toArray/\xs.length<=sizeLine:=by
 rcases h with h | ⟨o,b,n,hk,hc,hd,hs,hz,r⟩
 .obtain⟨z,b,n,r,e⟩:=h.ok I.hok;show⟨b,r,⟨_,n,e,rfl,rfl,rfl⟩,z⟩
 .show⟨b.toList,r,⟨o,n,I.kIn a o hk,hc,hd,by simpa using hs⟩,?_⟩;have e:=r.length;simp only[xW] at e;lk
theorem Inv.tuple(I:Inv X pins σ H s)(h:SqT X.K H a xs):∃ b:List Value,Vals xs b/\IsTup s.heap a b.toArray/\xs.length<=sizeLine:=by
 rcases h with h | ⟨o,b,n,hk,hc,hs,hz,r⟩
 .obtain⟨z,b,r,p⟩:=h.ok I.hok;show⟨b,r,p,z⟩
 .show⟨b.toList,r,⟨o,I.kIn a o hk,hc,n,by simpa using hs⟩,?_⟩;have e:=r.length;simp only[xW] at e;lk
theorem Inv.list_inj(I:Inv X pins σ H s)(h:SqL X.K H a xs)(h':SqL X.K H a ys):xs=ys:=by
 obtain⟨b,r,⟨o,n,e,_,_,d⟩,_⟩:=I.list h;obtain⟨its',r',⟨g,f,c,_,_,d'⟩,_⟩:=I.list h';rw[e] at c;cases c;rw[d] at d'
 injection d' with d1 _
 have:b=its':=by simpa using congrArg Array.toList d1
 subst this;show r.inj r'
theorem Inv.tuple_inj(I:Inv X pins σ H s)(h:SqT X.K H a xs)(h':SqT X.K H a ys):xs=ys:=by
 obtain⟨b,r,⟨o,e,_,n,d⟩,_⟩:=I.tuple h;obtain⟨its',r',⟨g,c,_,f,d'⟩,_⟩:=I.tuple h';rw[e] at c;cases c;rw[d] at d'
 injection d' with d1 _
 have:b=its':=by simpa using congrArg Array.toList d1
 subst this;show r.inj r'
end
abbrev Cx.wish(X:Cx)(E:Value->Shared->Prop):Cx:={ X with xe:=E }
abbrev Cx.nox(X:Cx):Cx:=X.wish fun _ _=>False
theorem Cx.Ok.wish(ok:X.Ok)(E:Value->Shared->Prop):(X.wish E).Ok:=
 ⟨ok.mod,ok.kind,ok.glob,ok.blt,ok.above,ok.inj,ok.has,ok.cab,ok.hd,ok.frames,ok.stk,ok.exf,ok.bs,ok.bsz,ok.noex,ok.exfs,ok.funs,ok.frf⟩
theorem Cx.Ok.unwish(ok:(X.wish E).Ok):X.Ok:=
 ⟨ok.mod,ok.kind,ok.glob,ok.blt,ok.above,ok.inj,ok.has,ok.cab,ok.hd,ok.frames,ok.stk,ok.exf,ok.bs,ok.bsz,ok.noex,ok.exfs,ok.funs,ok.frf⟩
section
variable{X:Cx}{pins:List (Addr×Obj)}{σ:St}{H:Hp}{s:Shared}{E:Value->Shared->Prop}
theorem Inv.wish(I:Inv X pins σ H s)(E:Value->Shared->Prop):Inv (X.wish E) pins σ H s:=⟨I.ok.wish E,I.os,I.bare,I.base,I.loc,I.cell,I.free,I.freeC,I.pin,I.hok,I.len⟩
theorem Inv.unwish(I:Inv (X.wish E) pins σ H s):Inv X pins σ H s:=⟨I.ok.unwish,I.os,I.bare,I.base,I.loc,I.cell,I.free,I.freeC,I.pin,I.hok,I.len⟩
theorem SP.unwish{f:Flow}(h:SP (X.wish E) pins D f s'):SP X pins D f s':=by
 cases f with
 | next=>obtain⟨a,H',I,q⟩:=h;show⟨a,H',I.unwish,q⟩
 | brk=>obtain⟨a,H',I,q⟩:=h;show⟨a,H',I.unwish,q⟩
 | cont=>obtain⟨a,H',I,q⟩:=h;show⟨a,H',I.unwish,q⟩
 | ret u=>obtain⟨v,a,H',I,r,q⟩:=h;show⟨v,a,H',I.unwish,r,q⟩
theorem PSs.nox{st:List Stmt}{t:TS}(h:PSs X.nox st t):PSs X st t:=fun pins s σ H D I hw =>
 YY (h pins s σ H D (I.wish _) hw) (fun _ _ q=>q.unwish) fun _ _ z=>False.elim z
end
section
variable{X:Cx}{st:Stmt}{qex:List Stmt}{t u:TS}{e:Expr}{te:TE}{pos:Pos}
def qgi:TS:=fun D σ H=>D.nx σ H
def qgS(t u:TS):TS:=fun D σ H=>t { D with nx:=u D } σ H
theorem qw:PSs X [] qgi:=fun _ _ σ H _ I h=>kg ⟨σ,H,I,h⟩
theorem qc(h1:PS X st t)(c:PSs X qex u):PSs X (st::qex) (qgS t u):=by
 intro pins s σ H D I h;show wpAny_execs_cons (thn (h1 pins s σ H { D with nx:=u D } I h) fun f d q=>?_)
 cases f with
 | next =>
  obtain⟨a,H',b,q⟩:=q;show c pins d a H' D b q
 | ret v=>show q
 | brk=>show q
 | cont=>show q
theorem qe(h1:PS X st t):PSs X [st] t:=by
 intro pins s σ H D I h;show wpAny_execs_cons (thn (h1 pins s σ H D I h) fun f a q=>?_)
 cases f with
 | next=>show kg q
 | ret v=>show q
 | brk=>show q
 | cont=>show q
theorem Inv.quiet(I:Inv X pins σ H s):interactive X.env=false:=by simp[interactive,I.ok.kind]
def qgj(te:TE):TS:=fun D σ H=>te σ H fun _ a=>D.nx σ a
theorem qP(c:PE X e te)(d:swapsWith e none pos.line X.env=pure false:=by rfl):PS X (.Expr e pos) (qgj te):=by
 intro pins s σ H D I h;show wpAny_Expr_any (thn (c pins s σ H _ I h) fun v i ⟨x,a,b,g,f⟩=>⟨σ,a,b,f⟩) I.quiet d
def qg5(te:TE):TS:=fun D σ H=>te σ H D.rt
theorem qo(c:PE X e te):PS X (.Return (some e) pos) (qg5 te):=by
 intro pins s σ H D I h;show wpAny_Return_some (thn (c pins s σ H _ I h) fun v g ⟨x,a,b,f,d⟩=>⟨x,σ,a,b,f,d⟩)
def qgk:TS:=fun D _ H=>D.rt .non H
theorem ps_retN:PS X (.Return none pos) qgk:=fun _ _ σ H _ I h=>wpAny_Return_none ⟨.non,σ,H,I,rfl,h⟩
def qg6(c:TT)(t u:TS):TS:=fun D σ H=>c σ H fun b a=>if b=true then t D σ a else u D σ a
theorem qR{a b:List Stmt}(hc:PT X c tc)(j:PSs X a t)(l:PSs X b u):PS X (.If c a b pos) (qg6 tc t u):=by
 intro pins s σ H D I h;show wpAny_If (thn (hc pins s σ H _ I h) fun d i ⟨e,f,g⟩=>?_)
 cases d with
 | true=>show j pins i σ e D f g
 | false=>show l pins i σ e D f g
def tNever:TS:=fun _ _ _=>False
theorem jr:PS X st tNever:=fun _ _ _ _ _ _ h=>h.elim
end
abbrev TG:=V->St->Hp->(St->Hp->Prop)->Prop
abbrev TGs:=List V->St->Hp->(St->Hp->Prop)->Prop
def PG(X:Cx)(a:Expr)(t:TG):Prop:=
 ∀(pins:List (Addr×Obj)) (s:Shared) (σ:St) (H:Hp) (v:V) (u:Value) (Q:St->Hp->Prop),Inv X pins σ H s->RelV v u->t v σ H Q ->
  wpAny (model X.prog X.w) X.A (assign a X.env u) (fun _ s'=>∃ b H',Inv X pins b H' s'/\Q b H') X.xe s
def PGs(X:Cx)(b:List Expr)(t:TGs):Prop:=
 ∀(pins:List (Addr×Obj)) (s:Shared) (σ:St) (H:Hp) (vs:List V) (us:List Value) (Q:St->Hp->Prop),Inv X pins σ H s->Vals vs us->t vs σ H Q ->
  wpAny (model X.prog X.w) X.A (assignInOrder ((assignEach b X.env).map (·.2)) us) (fun _ s'=>∃ a H',Inv X pins a H' s'/\Q a H') X.xe s
abbrev qgl:=V->V->V->Hp->(Hp->Prop)->Prop
def qgT(X:Cx)(t:qgl):Prop:=
 ∀(pins:List (Addr×Obj)) (s:Shared) (σ:St) (H:Hp) (o i v:V) (b a u:Value) (Q:Hp->Prop),Inv X pins σ H s->RelV o b->RelV i a->RelV v u->t o i v H Q ->
  wpAny (model X.prog X.w) X.A (setItem b a u) (fun _ s'=>∃ H',Inv X pins σ H' s'/\Q H') X.xe s
section
variable{X:Cx}{pos:Pos}
def qb2(i:Nat):TG:=fun v σ H Q=>Q (σ.set i (some v)) H
theorem qm(b:X.N.Nodup)(d:X.N[i]?=some x)(e:Loc X.env.scope x)(c:X.fn x=true\/X.env.scope.names.lookup x=some .local:=by first | show .inl rfl | show .inr rfl | assumption):PG X (.Name x pos) (qb2 i):=by
 intro pins s σ H v u Q I r h;show wpAny_assign_Name (qdR I b d e r (fun s' a=>⟨_,H,a,h⟩) c)
def qg7:TGs:=fun vs σ H Q=>vs=[]/\Q σ H
def qfX(t:TG)(u:TGs):TGs:=fun vs σ H Q=>∃ v r,vs=v::r/\t v σ H fun a H'=>u r a H' Q
theorem qbb:PGs X [] qg7:=by
 intro pins s σ H vs us Q I r h;obtain⟨e,h⟩:=h;subst e;cases r;show assignInOrder_nil ⟨σ,H,I,h⟩
theorem jC{t:TG}{u:TGs}(h1:PG X e t)(f:PGs X es u)
  (g:(assignEach (e::es) X.env).map (·.2)=assign e X.env::(assignEach es X.env).map (·.2):=by rfl):PGs X (e::es) (qfX t u):=by
 intro pins s σ H vs us Q I r h;obtain⟨v,l,d,h⟩:=h;subst d
 cases r with
 | cons r rr =>
  rw[g];show assignInOrder_cons (thn (h1 pins s σ H _ _ _ I r h) fun _ j ⟨a,b,c,i⟩=>?_);show f pins j a b _ _ Q c rr i
def qg8(K:yg)(n:Nat)(t:TGs):TG:=fun v σ H Q=>∃ a xs,v=.ref a/\SqT K H a xs/\xs.length=n/\t xs σ H Q
theorem qb6{k:Nat}{t:TGs}(hc:X.calm=true)(h:PGs X es t)
  (i:(assignEach es X.env).length=n:=by rfl) (c:(assignEach es X.env).findIdx? (·.1)=none:=by rfl):PG X (.Tuple es k pos) (qg8 X.K n t):=by
 intro pins s σ H v u Q I r hw;obtain⟨a,xs,g,j,hl,hw⟩:=hw;subst g;cases r;obtain⟨p,d,l,hz⟩:=I.tuple j;show assign_Tuple_tuple (I.ok.hd hc) l (by simp[i,<- hl,d.length]) c fun h' m=>?_;have f:Inv X pins σ H { s with heap:=h' }:=I.kept (t':=s.toks) fun b o e=>m b o (yT (yN e)) e;show h pins _ σ H xs _ Q f (by simpa using d) hw
def qg9(to d:TE)(t:qgl):TG:=fun v σ H Q=>to σ H fun o a=>d σ a fun i b=>t o i v b fun c=>Q σ c
theorem jH{o i:Expr}{to c:TE}{t:qgl}(p:PE X o to)(n:PE X i c)(q:qgT X t)
  (m:∀ v,assign (.Subscript o i pos) X.env v=(do
   let a <- holding [v] (eval o X.env);let b <- holding [v,a] (eval i X.env)
   standAt pos
   holding [v,a,b] (setItem a b v)
   release [v,a,b] []):=by intro _;rfl):PG X (.Subscript o i pos) (qg9 to c t):=by
 intro pins s σ H v u Q I r h;rw[m];show yr (Yz (thn (p pins s σ H _ I h) fun a D ⟨x,d,g,B,w⟩=>?_));show yr (Yz (thn (n pins D σ d _ g w) fun b E ⟨y,e,j,C,z⟩=>?_));show yr (wpAny_standAt (yr (Yz (thn (q pins E σ e x y v a b u _ j B C r z) fun _ F ⟨f,l,A⟩=>?_))));show wpAny_release ⟨σ,f,l,A⟩
def qgm(te:TE)(g:TG):TS:=fun D σ H=>te σ H fun x a=>g x σ a D.nx
theorem jI(c:PE X e te)(d:PG X tg g)(f:swapsWithSole [tg] e pos.line X.env=pure false:=by rfl)(hw:swappedStores [tg] e X.env=pure none:=by rfl)
  (h1:(assignEach [tg] X.env).map (·.2)=[assign tg X.env]:=by rfl):PS X (.Assign [tg] e pos) (qgm te g):=by
 intro pins s σ H D I h;show wpAny_Assign_stores (thn (c pins s σ H _ I h) fun v l ⟨x,a,b,j,i⟩=>?_) f hw;rw[h1];show thn (d pins l σ a x v _ b j i) fun _ m q=>q
theorem qk{a:Pos}(f:X.N.Nodup)(l:X.N[i]?=some x)(n:Loc X.env.scope x)(g:PE X e te)(m:swapsWith e (some (.Name x a)) pos.line X.env=pure false:=by rfl)(j:X.fn x=true\/X.env.scope.names.lookup x=some .local:=by first | show .inl rfl | show .inr rfl | assumption) :
  PS X (.Assign [.Name x a] e pos) (qgm te (qb2 i)):=by
 intro pins s σ H D I h;show wpAny_Assign_Name (thn (g pins s σ H _ I h) fun v q ⟨y,b,c,p,o⟩=>?_) m;show qdR c f l n p (fun r d=>⟨_,b,d,o⟩) j
end
section
variable{X:Cx}{pos:Pos}
def tWhile(c:TT)(tb:TS):TS:=fun D σ H=>∃ W:Nat->St->Hp->Prop,(∃ m,W m σ H)/\∀ m σ H,W m σ H ->
 c σ H fun b d=>if b=true then ∃ N:St->Hp->Prop,(∀ a H',N a H'->∃ e,e<m/\W e a H')/\tb { D with nx:=N,ct:=N,bk:=D.nx } σ d else D.nx σ d
theorem qao(x:PassesOwn (model X.prog X.w) X.A X.env X.xe)(hc:PT X c tc)(z:PSs X body tb):PS X (.While c body [] pos) (tWhile tc tb):=by
 intro pins s σ H D I h;obtain⟨W,⟨B,F⟩,turn⟩:=h;show wpAny_While (codeAny_whileLoop (fun n s'=>∃ g H',Inv X pins g H' s'/\W n g H') ?_ B ⟨σ,H,I,F⟩);rintro n C ⟨d,q,y,G⟩;show xL x (thn (hc pins C d q _ y (turn n d q G)) fun b E ⟨r,t,i⟩=>?_)
 cases b with
 | true =>
  obtain⟨N,u,i⟩:=i;rw[yG rfl];show xL x (thn (z pins E d r _ t i) fun f J j=>?_)
  cases f with
  | next =>
   obtain⟨a,e,l,p⟩:=j;obtain⟨o,m,w3⟩:=u a e p;show⟨o,m,a,e,l,w3⟩
  | cont =>
   obtain⟨a,e,l,p⟩:=j;obtain⟨o,m,w3⟩:=u a e p;show⟨o,m,a,e,l,w3⟩
  | brk=>show j
  | ret v=>show j
 | false =>
  rw[yB Yu];show kg ⟨d,r,t,i⟩
end
structure It where
 go:Nat->Hp->Prop
 yld:Nat->Hp->V->Hp->Prop
 stop:Nat->Hp->Prop
def qdo(X:Cx)(pins:List (Addr×Obj))(H:Hp)(b:Addr):Prop:=
 H b=none/\b≠X.env.locals/\b∉X.fs/\(b∈X.ex\/X.s₀.heap.objs.size<=b)/\(∀ x c,X.env.cells.lookup x=some c->c≠b)/\∀ p∈X.pn++pins,p.1≠b
theorem Inv.fpOk{H':Hp}(I:Inv X pins σ H s)(a:s.heap.objs.size<=b)(d:H' b=none):qdo X pins H' b:=by
 show⟨d,Yj (yj I.lt a),I.nofs a,.inr (yi I.sz a),fun x c e z=>?_,fun p f z=>?_⟩
 .obtain⟨v,q⟩:=I.cell x c e;show absurd (yj q.lt (by rw[z];show a)) (YB _)
 .show absurd (yj (yN (I.pin p f).1) (by rw[z];show a)) (YB _)
structure Turn(P:Program)(w:World)(K:yg)(tg:Expr)(J:It)(fp:LQ)(it:Addr)(tn:Nat->Heap->Prop):Prop where
 mem:it∈fp
 obj:∀ i h,tn i h->∀ b∈fp,∃ o,h.get? b=some o/\∀ v,o.data≠.cell v
 keep:∀ i h h',tn i h->(∀ b∈fp,∀ o,h.get? b=some o->h'.get? b=some o)->tn i h'
 item:∀(X:Cx),X.prog=P->X.w=w->X.K=K->X.calm=true->∀(i:Nat) (pins:List (Addr×Obj)) (s:Shared) (σ:St) (H:Hp) (E:Value->Shared->Prop),Inv X pins σ H s->(∀ b∈fp,qdo X pins H b)->tn i s.heap->J.go i H ->
  wpAny (model P w) X.A (pyNext (.ref it)) (fun r s1=>∃ u,r=some u /\
   wpAny (model P w) X.A (letOwnedTupleGo tg (.ref it) u) (fun _ s2=>∃ x H',Inv X pins σ H' s2/\RelV x u/\J.yld i H x H'/\tn (i+1) s2.heap/\∀ b∈fp,H' b=none) E s1) E s
 done:∀(X:Cx),X.prog=P->X.w=w->X.K=K->X.calm=true->∀(i:Nat) (pins:List (Addr×Obj)) (s:Shared) (σ:St) (H:Hp) (E:Value->Shared->Prop),Inv X pins σ H s->(∀ b∈fp,qdo X pins H b)->tn i s.heap->J.stop i H ->
  wpAny (model P w) X.A (pyNext (.ref it)) (fun r s1=>r=none/\Inv X pins σ H s1) E s
 self:∀(A:Around) (i:Nat) (s:Shared) (Q:Value->Shared->Prop) (E:Value->Shared->Prop),tn i s.heap->Q (.ref it) s->wpAny (model P w) A (pyIter (.ref it)) Q E s
abbrev TI:=St->Hp->(It->Hp->Prop)->Prop
def PIE(X:Cx)(pins:List (Addr×Obj))(σ:St)(tg:Expr)(R:It->Hp->Prop)(a:Value)(c:Shared):Prop:=
 ∃(it:Addr) (fp:LQ) (tn:Nat->Heap->Prop) (J:It) (H':Hp),a=.ref it/\Inv X pins σ H' c/\Turn X.prog X.w X.K tg J fp it tn/\tn 0 c.heap/\(∀ b∈fp,qdo X pins H' b)/\R J H'
def PI(X:Cx)(tg a:Expr)(c:TI):Prop:=
 ∀(pins:List (Addr×Obj)) (s:Shared) (σ:St) (H:Hp) (R:It->Hp->Prop),Inv X pins σ H s->c σ H R ->
  wpAny (model X.prog X.w) X.A (eval a X.env) (fun v b=>wpAny (model X.prog X.w) X.A (pyIter v) (PIE X pins σ tg R) X.xe b) X.xe s
theorem qfY{o:Obj}{n:String}{vs:Array Value}{Q:Unit->Shared->Prop}(d:s.heap.get? it=some o)(hc:o.cls=.type n)(b:o.data=.fields vs)
    (c:["enumerate","zip","dict_itemiterator","dict_reverseitemiterator","odict_iterator","itertools.zip_longest","itertools.pairwise"].contains n=false) (a:Q () s):wpAny M A (letOwnedTupleGo tg (.ref it) u) Q E s:=by
  unfold letOwnedTupleGo;cases tg<;>first
    | show yv a
    | (cases u<;>first
        | show yv a
        | (show yr (wpAny_load d ?_)
           rw[hc,b];show wpAny M A (if (["enumerate","zip","dict_itemiterator","dict_reverseitemiterator","odict_iterator","itertools.zip_longest","itertools.pairwise"].contains n&&vs[0]?==some (rawInt _))=true then _ else _) Q E s;rw[yB (by intro h;rw[c,Bool.false_and] at h;cases h)];show yv a))
def Itl(K:yg)(a:Addr):It:=
 ⟨fun i H=>∃ xs x,SqL K H a xs/\xs[i]?=some x,fun i H x H'=>H'=H/\∀ xs,SqL K H a xs->xs[i]?=some x,fun i H=>∃ xs,SqL K H a xs/\xs.length<=i⟩
def Itt(K:yg)(a:Addr):It:=
 ⟨fun i H=>∃ xs x,SqT K H a xs/\xs[i]?=some x,fun i H x H'=>H'=H/\∀ xs,SqT K H a xs->xs[i]?=some x,fun i H=>∃ xs,SqT K H a xs/\xs.length<=i⟩
def Itr(lo:Int)(n:Nat):It:=⟨fun i _=>i<n,fun i H x H'=>H'=H/\x=.int (lo+i),fun i _=>n<=i⟩
theorem qcI{K:yg}(a it:Addr):Turn P w K tg (Itl K a) [it] it (fun i h=>h.IsListIter it a i) where
 mem:=by simp
 obj:=fun i h st b f=>by
  have e:b=it:=by simpa using f
  subst e;obtain⟨o,e,c,d⟩:=st;show⟨o,e,fun v z=>by rw[d] at z;cases z⟩
 keep:=fun i h h' st k=>st.at fun o e=>k it (by simp) o e
 item:=by
  intro X A hw y hc i pins s σ H E I j st B;subst A hw y;obtain⟨xs,x,l,C⟩:=B;obtain⟨D,F,p,hz⟩:=I.list l;obtain⟨u,M,O⟩:=F.get C;obtain⟨m,n,L,q,r,t⟩:=j it (by simp);show wpAny_pyNext_list_item st p.isList (x:=u) (by simpa using M) fun h' g R=>?_;have G:Inv X pins σ H { s with heap:=h' }:=I.turned (t':=s.toks) (fun b o f e=>(R.2 b f).trans e) m n q r t;obtain⟨o,e,c,d⟩:=id g;show⟨u,rfl,qfY (s:={ s with heap:=h' }) e c d (by decide) ⟨x,H,G,O,⟨rfl,fun ys N=>by rw[I.list_inj N l];show C⟩,g,fun b f=>(j b f).1⟩⟩
 done:=by
  intro X A hw y hc i pins s σ H E I j st B;subst A hw y;obtain⟨xs,l,C⟩:=B;obtain⟨D,F,p,hz⟩:=I.list l;obtain⟨m,n,L,q,r,t⟩:=j it (by simp);have hl:=F.length;show wpAny_pyNext_list_end (I.ok.hd hc) st p.isList (by simp;lk) fun h' J=>⟨rfl,I.turned (t':=s.toks) (fun b o f e=>J b o f e) m n q r t⟩
 self:=fun _ _ _ _ _ st h=>wpAny_pyIter_listiter st h
theorem turn_tuple{K:yg}(a it:Addr):Turn P w K tg (Itt K a) [it] it (fun i h=>h.IsTupleIter it a i) where
 mem:=by simp
 obj:=fun i h st b f=>by
  have e:b=it:=by simpa using f
  subst e;obtain⟨o,e,c,d⟩:=st;show⟨o,e,fun v z=>by rw[d] at z;cases z⟩
 keep:=fun i h h' st k=>st.at fun o e=>k it (by simp) o e
 item:=by
  intro X B hw A hc i pins s σ H E I l st C;subst B hw A;obtain⟨xs,x,m,D⟩:=C;obtain⟨g,F,p,hz⟩:=I.tuple m;obtain⟨u,M,O⟩:=F.get D;obtain⟨n,q,L,r,t,y⟩:=l it (by simp);show wpAny_pyNext_tuple_item st (show s.heap.IsTuple a g.toArray from p) (x:=u) (by simpa using M) fun h' j R=>?_;have G:Inv X pins σ H { s with heap:=h' }:=I.turned (t':=s.toks) (fun b o f e=>(R.2 b f).trans e) n q r t y;obtain⟨o,e,c,d⟩:=id j;show⟨u,rfl,qfY (s:={ s with heap:=h' }) e c d (by decide) ⟨x,H,G,O,⟨rfl,fun ys N=>by rw[I.tuple_inj N m];show D⟩,j,fun b f=>(l b f).1⟩⟩
 done:=by
  intro X B hw A hc i pins s σ H E I l st C;subst B hw A;obtain⟨xs,m,D⟩:=C;obtain⟨g,F,p,hz⟩:=I.tuple m;obtain⟨n,q,L,r,t,y⟩:=l it (by simp);have hl:=F.length;show wpAny_pyNext_tuple_end (I.ok.hd hc) st (show s.heap.IsTuple a g.toArray from p) (by simp;lk) fun h' J=>⟨rfl,I.turned (t':=s.toks) (fun b o f e=>J b o f e) n q r t y⟩
 self:=fun _ _ _ _ _ st h=>wpAny_pyIter_tupleiter st h
theorem turn_range{K:yg}(it:Addr)(lo:Int)(n:Nat):Turn P w K tg (Itr lo n) [it] it (fun i h=>IsRangeIter h it (lo+(i:Nat)*1) ((n:Int)-(i:Nat)) 1) where
 mem:=by simp
 obj:=fun i h st b a=>by
  have e:b=it:=by simpa using a
  subst e
  show⟨_,st,fun v z=>by
   have B:Data.fields _=Data.cell v:=z;cases B⟩
 keep:=fun i h h' st k=>k it (by simp) _ st
 item:=by
  intro X q hw p hc i pins s σ H E I d st r;subst q hw p;obtain⟨f,g,y,j,l,m⟩:=d it (by simp);have W:=Walks.range (prog:=X.prog) (w:=X.w) (I.ok.hd hc) it lo 1 n;show W.item i s _ _ r st fun v h' tk hv c A=>?_;obtain⟨t,rfl⟩:=hv;have u:Inv X pins σ H { s with heap:=h',toks:=tk }:=I.turned (fun b o a e=>A b o (by simpa using a) e) f g j l m;show⟨_,rfl,qfY (s:={ s with heap:=h',toks:=tk }) (n:="range_iterator") c rfl rfl (by decide) ⟨.int (lo+i),H,u,⟨t,?_⟩,⟨rfl,rfl⟩,c,fun b a=>(d b a).1⟩⟩;rw[Int.mul_one]
 done:=by
  intro X q hw p hc i pins s σ H E I d st r;subst q hw p;obtain⟨f,g,y,j,l,m⟩:=d it (by simp);show wpAny_pyNext_range_end (I.ok.hd hc) st (by have:n<=i:=r;lk) fun h' x=>⟨rfl,I.turned (t':=s.toks) (fun b o a e=>x b o a e) f g j l m⟩
 self:=fun _ _ _ _ _ st h=>wpAny_pyIter_rangeiter st h
section
variable{X:Cx}{tg:Expr}
theorem qdS{R:It->Hp->Prop}{a:Int}{t u v:Tok}{tk:Nat}(I:Inv X pins σ H s)(h1:-(2 ^ 62)<=lo)(g:lo<2 ^ 62)(h:-(2 ^ 62)<=a)(i:a<2 ^ 62)
  (q:R (Itr lo (a-lo).toNat) H):wpAny (model X.prog X.w) X.A (pyIter (.ref s.heap.objs.size)) (PIE X pins σ tg R) E { s with heap:=s.heap.push { cls:=.type "range",data:=.fields #[.int lo t,.int a u,.int 1 v] },toks:=tk }:=by
 show wpAny_pyIter_range (IsRange.new ..) (small_one h1 g h i) ?_;have c:Inv X pins σ H { s with heap:=s.heap.push { cls:=.type "range",data:=.fields #[.int lo t,.int a u,.int 1 v] },toks:=tk }:=I.kept fun b o e=>yw _ e;show⟨(s.heap.push { cls:=.type "range",data:=.fields #[.int lo t,.int a u,.int 1 v] }).objs.size,[(s.heap.push { cls:=.type "range",data:=.fields #[.int lo t,.int a u,.int 1 v] }).objs.size],_,_,H,rfl,
  c.kept (t':=tk) fun b o e=>yw _ e,turn_range _ lo (a-lo).toNat,?_,fun b j=>?_,q⟩
 .have d:lo+((0:Nat):Int)*1=lo:=by simp
  have f:(((a-lo).toNat:Nat):Int)-((0:Nat):Int)=Builtin.Range.rangeSize lo a 1:=by rw[rangeSize_one];split<;>lk
  show IsRangeIter _ _ (lo+((0:Nat):Int)*1) ((((a-lo).toNat:Nat):Int)-((0:Nat):Int)) 1;rw[d,f];show yZ _ rfl
 .have e:b=(s.heap.push { cls:=.type "range",data:=.fields #[.int lo t,.int a u,.int 1 v] }).objs.size:=by simpa using j
  subst e;show c.fpOk (yh _) (c.hok.fresh (yh _))
def qgn(ta:TA):TI:=fun σ H R=>ta σ H fun vs a=>∃ j:Int,vs=[.int j]/\-(2 ^ 62)<=j/\j<2 ^ 62/\R (Itr 0 j.toNat) a
def qgo(ta:TA):TI:=fun σ H R=>ta σ H fun vs a=>∃ i j:Int,vs=[.int i,.int j]/\(-(2 ^ 62)<=i/\i<2 ^ 62/\-(2 ^ 62)<=j/\j<2 ^ 62)/\R (Itr i (j-i).toNat) a
theorem jl{a:Expr}(f:Gl X "range")(g:X.mg "range"=none)(d:PA X [a] ta)(i:starEach [a] X.env=[(false,eval a X.env)]:=by rfl):PI X tg (.Call (.Name "range" p) [a] [] pos) (qgn ta):=by
 intro pins s σ H R I h;show Call_ (qaM I f g boot_range (YD (thn (d pos pins s σ H _ I h) fun us o ⟨vs,n,c,m,b⟩=>?_) i rfl));obtain⟨j,e,b,l,q⟩:=b;subst e
 cases m with
 | cons r rr =>
  cases rr;obtain⟨t,rfl⟩:=r;show call_range_1 (qdS c (by lk) (by lk) b l (by simpa using q))
theorem qbF{a b:Expr}(l:Gl X "range")(m:X.mg "range"=none)(g:PA X [a,b] ta)(n:starEach [a,b] X.env=[(false,eval a X.env),(false,eval b X.env)]:=by rfl)(c:starEach [b] X.env=[(false,eval b X.env)]:=by rfl) :
  PI X tg (.Call (.Name "range" p) [a,b] [] pos) (qgo ta):=by
 intro pins s σ H R I h;show Call_ (qaM I l m boot_range (YD (thn (g pos pins s σ H _ I h) fun us y ⟨vs,x,f,w,d⟩=>?_) (by rw[n,c]) (by rw[c];rfl)));obtain⟨i,j,e,⟨d,o,u,v⟩,q⟩:=d;subst e
 cases w with
 | cons r rr =>
  cases rr with
  | cons r' rr =>
   cases rr;obtain⟨t,rfl⟩:=r;obtain⟨t',rfl⟩:=r';show call_range_2 (qdS f d o u v q)
def qha(f:TI)(g:TG)(tb:TS):TS:=fun D σ H=>f σ H fun J d=>∃ W:Nat->Nat->St->Hp->Prop,(∃ m,W 0 m σ d)/\∀ i m σ H,W i m σ H ->
 (J.stop i H/\D.nx σ H)\/(J.go i H/\∃ N:St->Hp->Prop,(∀ a H',N a H'->∃ c,c<m/\W (i+1) c a H')/\∀ x H',J.yld i H x H'->g x σ H' fun b e=>tb { D with nx:=N,ct:=N,bk:=D.nx } b e)
def qcJ(fp:LQ)(h:Heap):List (Addr×Obj):=fp.filterMap fun b=>(h.get? b).map fun o=>(b,o)
theorem qap{o:Obj}(a:b∈fp)(e:h.get? b=some o):(b,o)∈qcJ fp h:=List.mem_filterMap.mpr ⟨b,a,by rw[e];rfl⟩
theorem of_pinsAt{p:Addr×Obj}(d:p∈qcJ fp h):p.1∈fp/\h.get? p.1=some p.2:=by
 obtain⟨b,c,e⟩:=List.mem_filterMap.mp d
 cases q:h.get? b with
 | none=>rw[q] at e;cases e
 | some o =>
  rw[q] at e;have a:(b,o)=p:=ym e;subst a;show⟨c,q⟩
theorem Inv.pinned(I:Inv X pins σ H s)(i:∀ b∈fp,qdo X pins H b)(j:∀ b∈fp,∃ o,s.heap.get? b=some o/\∀ v,o.data≠.cell v):Inv X (pins++qcJ fp s.heap) σ H s:=
 I.pins_of fun p l=>(yA.mp l).elim (fun z=>I.pin p (yV _ z)) fun z=>by
  obtain⟨c,e⟩:=of_pinsAt z;obtain⟨f,g,h,_⟩:=i p.1 c;obtain⟨o,a,d⟩:=j p.1 c;rw[e] at a;cases a;show⟨e,f,g,h,d⟩
theorem Inv.unpinned{pl:List (Addr×Obj)}(I:Inv X (pins++pl) σ H s):Inv X pins σ H s:=I.pins_of fun p a=>I.pin p (yV _ (yR _ a))
theorem qX{p:Expr}{wi:TI}(E:PassesOwn (model X.prog X.w) X.A X.env X.xe)(hc:X.calm=true)(hi:PI X tg p wi)(hg:PG X tg g)(l:PSs X body tb)
  (hs:∀ x,foldedSetIterable p X.env x=pure x:=by intro _;rfl):PS X (.For tg p body [] pos) (qha wi g tb):=by
 intro pins s σ H D I h;show wpAny_For (thn (hi pins s σ H _ I h) fun v s1 h1=>thn h1 fun aa s2 h2=>?_) hs;obtain⟨it,fp,tn,J,H2,e,I2,T,S,f2,W,⟨m0,w0⟩,turn⟩:=h2;subst e;have q:∀{H':Hp},(∀ b∈fp,H' b=none)->∀ b∈fp,qdo X pins H' b:=fun hn b l=>⟨hn b l,(f2 b l).2⟩;show codeAny_forLoop_any (fun n s'=>∃ i t H',Inv X pins t H' s'/\tn i s'.heap/\(∀ b∈fp,H' b=none)/\W i n t H') ?_ m0 ⟨0,σ,H2,I2,S,fun b l=>(f2 b l).1,w0⟩;rintro n s3 ⟨i,y,L,Z,G,C,w3⟩;rcases turn i n y L w3 with⟨K,qn⟩ | ⟨go,N,hN,step⟩
 .show xL E (thn (T.done X rfl rfl rfl hc i pins s3 y L X.xe Z (q C) G K) fun r s4 ⟨P,I4⟩=>?_);subst P;show kg ⟨y,L,I4,qn⟩
 .show xL E (thn (T.item X rfl rfl rfl hc i pins s3 y L X.xe Z (q C) G go) fun r s4 ⟨u,P,h4⟩=>?_);subst P;show xL E (thn h4 fun _ s5 ⟨x,Y,I5,r5,y5,B,O⟩=>?_);have M:=I5.pinned (q O) (T.obj _ _ B);show xL E (thn (hg _ s5 y Y x u _ M r5 (step x Y y5)) fun _ s6 ⟨U,H6,I6,q6⟩=>?_);show xL E (thn (l _ s6 U H6 _ I6 q6) fun f R z=>?_)
  have again:∀{a:St} {c:Hp},Inv X (pins++qcJ fp s5.heap) a c R->N a c->∃ m,m<n/\∃ i t H',Inv X pins t H' R/\tn i R.heap/\(∀ b∈fp,H' b=none)/\W i m t H':=fun{a c} j F=>by
   obtain⟨m',hm,w7⟩:=hN a c F;show⟨m',hm,i+1,a,c,j.unpinned,T.keep _ _ _ B fun b l o e=>(j.pin (b,o) (yV _ (yV _ (qap l e)))).1,fun b l=>?_,w7⟩;obtain⟨o,e,d⟩:=T.obj _ _ B b l;show(j.pin (b,o) (yV _ (yV _ (qap l e)))).2.1
  cases f with
  | next=>obtain⟨a,c,j,F⟩:=z;show again j F
  | cont=>obtain⟨a,c,j,F⟩:=z;show again j F
  | brk=>obtain⟨a,c,j,z⟩:=z;show⟨a,c,j.unpinned,z⟩
  | ret v=>obtain⟨x7,a,c,j,r7,z⟩:=z;show⟨x7,a,c,j.unpinned,r7,z⟩
end
theorem qQ{K:yg}(b:Nat->St->Hp->Prop)(l:b 0 σ H)(hl:∀ i σ H,i<=xs.length->b i σ H->SqL K H a xs)
  (r:∀ i x σ H,xs[i]?=some x->b i σ H->g x σ H fun d h=>tb { D with nx:=b (i+1),ct:=b (i+1),bk:=D.nx } d h) (n:∀ σ H,b xs.length σ H->D.nx σ H) :
  ∃ W:Nat->Nat->St->Hp->Prop,(∃ m,W 0 m σ H)/\∀ i m σ H,W i m σ H ->
   ((Itl K a).stop i H/\D.nx σ H)\/((Itl K a).go i H/\∃ N:St->Hp->Prop,(∀ c H',N c H'->∃ j,j<m/\W (i+1) j c H')/\∀ x H',(Itl K a).yld i H x H'->g x σ H' fun d h=>tb { D with nx:=N,ct:=N,bk:=D.nx } d h):=by
 show⟨fun i m σ H=>m=xs.length-i/\i<=xs.length/\b i σ H,⟨xs.length,by simp,YS _,l⟩,?_⟩;rintro i m σ H ⟨rfl,o,p⟩;have q:=hl i σ H o p;by_cases f:i<xs.length
 .show .inr ⟨⟨xs,xs[i],q,by simp[f]⟩,b (i+1),fun c H' s=>⟨xs.length-(i+1),by lk,rfl,f,s⟩,fun x H' y=>?_⟩;obtain⟨e,y⟩:=y;subst e;show r i x σ _ (y xs q) p
 .have e:i=xs.length:=by lk
  subst e;show .inl ⟨⟨xs,q,yh _⟩,n σ H p⟩
theorem j5(a:Nat->St->Hp->Prop)(j:a 0 σ H)
  (o:∀ i σ H,i<n->a i σ H->g (.int (lo+i)) σ H fun d f=>tb { D with nx:=a (i+1),ct:=a (i+1),bk:=D.nx } d f) (l:∀ σ H,a n σ H->D.nx σ H) :
  ∃ W:Nat->Nat->St->Hp->Prop,(∃ m,W 0 m σ H)/\∀ i m σ H,W i m σ H ->
   ((Itr lo n).stop i H/\D.nx σ H)\/((Itr lo n).go i H/\∃ N:St->Hp->Prop,(∀ c H',N c H'->∃ h,h<m/\W (i+1) h c H')/\∀ x H',(Itr lo n).yld i H x H'->g x σ H' fun d f=>tb { D with nx:=N,ct:=N,bk:=D.nx } d f):=by
 show⟨fun i m σ H=>m=n-i/\i<=n/\a i σ H,⟨n,by simp,YS _,j⟩,?_⟩;rintro i m σ H ⟨rfl,r,p⟩;by_cases b:i<n
 .show .inr ⟨b,a (i+1),fun c H' q=>⟨n-(i+1),by lk,rfl,b,q⟩,fun x H' y=>?_⟩;obtain⟨e,y⟩:=y;subst e y;show o i σ _ b p
 .have e:i=n:=by lk
  subst e;show .inl ⟨yh _,l σ H p⟩
abbrev R2:=V->V->Hp->VK->Prop
def OpR(X:Cx)(f:Value->Value->Sem Value)(r:R2):Prop:=
 ∀(pins:List (Addr×Obj)) (s:Shared) (σ:St) (H:Hp) (x y:V) (v u:Value) (Q:VK),Inv X pins σ H s->RelV x v->RelV y u->r x y H Q ->
  wpAny (model X.prog X.w) X.A (f v u) (EP X pins σ Q) X.xe s
def UnR(X:Cx)(f:Value->Sem Value)(r:V->Hp->VK->Prop):Prop:=
 ∀(pins:List (Addr×Obj)) (s:Shared) (σ:St) (H:Hp) (x:V) (v:Value) (Q:VK),Inv X pins σ H s->RelV x v->r x H Q ->
  wpAny (model X.prog X.w) X.A (f v) (EP X pins σ Q) X.xe s
def zU(X:Cx)(f:Value)(r:List V->Hp->VK->Prop):Prop:=
 ∀(pins:List (Addr×Obj)) (s:Shared) (σ:St) (H:Hp) (xs:List V) (us:List Value) (Q:VK),Inv X pins σ H s->Vals xs us->r xs H Q ->
  wpAny (model X.prog X.w) X.A (call f us) (EP X pins σ Q) X.xe s
def tOp(r:R2)(ta tb:TE):TE:=fun σ H Q=>ta σ H fun x a=>tb σ a fun y b=>r x y b Q
def tUn(r:V->Hp->VK->Prop)(ta:TE):TE:=fun σ H Q=>ta σ H fun x a=>r x a Q
def rI(C:Int->Int->Prop)(g:Int->Int->V):R2:=fun x y H Q=>∃ i j,x=.int i/\y=.int j/\C i j/\Q (g i j) H
def rI0(g:Int->Int->V):R2:=fun x y H Q=>∃ i j,x=.int i/\y=.int j/\Q (g i j) H
def rU(g:Int->V):V->Hp->VK->Prop:=fun x H Q=>∃ i,x=.int i/\Q (g i) H
section
variable{X:Cx}{a b c:Expr}{ta tb tc:TE}{pos:Pos}
theorem qgU(m:PE X a ta)(n:PE X b tb){R:V->V->Hp->Prop}(I:Inv X pins σ H s)
  (h:ta σ H fun x i=>tb σ i fun y c=>R x y c) {Q:Value->Shared->Prop}
  (o:∀ v u g x y c,Inv X pins σ c g->RelV x v->RelV y u->R x y c->wpAny (model X.prog X.w) X.A (f v u) Q X.xe g) :
  wpAny (model X.prog X.w) X.A (eval a X.env) (fun v d=>wpAny (model X.prog X.w) X.A (eval b X.env) (fun u e=>wpAny (model X.prog X.w) X.A (f v u) Q X.xe e) X.xe d) X.xe s:=by
 show thn (m pins s σ H _ I h) fun v z ⟨x,i,j,r,p⟩=>?_;show thn (n pins z σ i _ j p) fun u g ⟨y,c,l,t,q⟩=>?_;show o v u g x y c l r t q
theorem qu{op:Operator}(g:OpR X (binaryOp op) r)(e:PE X a ta)(f:PE X b tb):PE X (.BinOp a op b pos) (tOp r ta tb):=by
 intro pins s σ H Q I h;show wpAny_BinOp (qgU e f I h fun v u l x y c d i j q=>g pins l σ c x y v u Q d i j q)
theorem qaA{op:UnaryOp}{r:V->Hp->VK->Prop}(e:UnR X (unaryOp op) r)(d:PE X a ta):PE X (.UnaryOp op a pos) (tUn r ta):=by
 intro pins s σ H Q I h;show UnaryOp_ (thn (d pins s σ H _ I h) fun v i ⟨x,b,c,g,f⟩=>e pins i σ b x v Q c g f)
theorem opI{C:Int->Int->Prop}{g:Int->Int->Int}
  (a:∀(i j:Int) (t u:Tok) (s:Shared) (Q:Value->Shared->Prop) (E:Value->Shared->Prop),C i j->Q (.int (g i j) s.toks) { s with toks:=s.toks+1 }->wpAny (model X.prog X.w) X.A (f (.int i t) (.int j u)) Q E s) :
  OpR X f (rI C fun i j=>.int (g i j)):=by
 intro pins s σ H x y v u Q I b c h;obtain⟨i,j,rfl,rfl,hc,q⟩:=h;obtain⟨t,rfl⟩:=b;obtain⟨t',rfl⟩:=c;show a i j t t' s _ _ hc ⟨.int (g i j),H,I.tok _,⟨_,rfl⟩,q⟩
theorem qgN{g:Int->Int->Int}
  (a:∀(i j:Int) (t u:Tok) (s:Shared) (Q:Value->Shared->Prop) (E:Value->Shared->Prop),Q (.int (g i j) s.toks) { s with toks:=s.toks+1 }->wpAny (model X.prog X.w) X.A (f (.int i t) (.int j u)) Q E s) :
  OpR X f (rI0 fun i j=>.int (g i j)):=by
 intro pins s σ H x y v u Q I b c h;obtain⟨i,j,rfl,rfl,q⟩:=h;obtain⟨t,rfl⟩:=b;obtain⟨t',rfl⟩:=c;show a i j t t' s _ _ ⟨.int (g i j),H,I.tok _,⟨_,rfl⟩,q⟩
theorem qgV{g:Int->Int->Bool}
  (a:∀(i j:Int) (t u:Tok) (s:Shared) (Q:Value->Shared->Prop) (E:Value->Shared->Prop),Q (.bool (g i j)) s->wpAny (model X.prog X.w) X.A (f (.int i t) (.int j u)) Q E s) :
  OpR X f (rI0 fun i j=>.bl (g i j)):=by
 intro pins s σ H x y v u Q I b c h;obtain⟨i,j,rfl,rfl,q⟩:=h;obtain⟨t,rfl⟩:=b;obtain⟨t',rfl⟩:=c;show a i j t t' s _ _ ⟨.bl (g i j),H,I,rfl,q⟩
def CDiv(i j:Int):Prop:=0<j/\j<1073741824
def qhb(i j:Int):Prop:=0<=j/\j<=1000000/\i.natAbs<2 ^ 64
def CMul(i j:Int):Prop:=(-(2 ^ 64)<i/\i<2 ^ 64)\/(-(2 ^ 64)<j/\j<2 ^ 64)
theorem CMul.ok{i j:Int}(h:CMul i j):IntMulOk i j:=by
 rcases h with⟨h1,a⟩ | ⟨h1,a⟩
 .show .of_left (intBits_le_64 h1 a)
 .show .of_right (intBits_le_64 h1 a)
theorem two_pow_nn(k:Nat):(0:Int)<=2 ^ k:=by
 rw[two_pow_cast];show Int.natCast_nonneg _
theorem op_add:OpR X (binaryOp .Add) (rI0 fun i j=>.int (i+j)):=qgN fun _ _ _ _ _ _ _ q=>add_int q
theorem qb7:OpR X (binaryOp .Sub) (rI0 fun i j=>.int (i-j)):=qgN fun _ _ _ _ _ _ _ q=>sub_int q
theorem op_mul:OpR X (binaryOp .Mult) (rI CMul fun i j=>.int (i*j)):=opI fun _ _ _ _ _ _ _ hc q=>mul_int q hc.ok
theorem qeB:OpR X (binaryOp .FloorDiv) (rI CDiv fun i j=>.int (i / j)):=opI fun i j _ _ _ _ _ hc q=>by
 have h1:(0:Int)<j:=hc.1;have a:j<1073741824:=hc.2;show floordiv_int (by lk) (by rw[Int.fdiv_eq_ediv_of_nonneg i (by lk)];show q) (.inl (PyProof.noPylong_small (by lk)))
theorem zu:OpR X (binaryOp .Mod) (rI (fun _ j=>0<j) fun i j=>.int (i % j)):=opI fun i j _ _ _ _ _ hc q=>by
 have h1:(0:Int)<j:=hc;show mod_int' (by lk) (by rw[Int.fmod_eq_emod_of_nonneg i (by lk)];show q)
theorem op_pow:OpR X (binaryOp .Pow) (rI qhb fun i j=>.int (i ^ j.toNat)):=opI fun _ _ _ _ _ _ _ hc q=>pow_int_small hc.1 hc.2.1 hc.2.2 q
theorem zv:OpR X (binaryOp .LShift) (rI qhb fun i j=>.int (i*2 ^ j.toNat)):=opI fun _ _ _ _ _ _ _ hc q=>lshift_int_small hc.1 hc.2.1 hc.2.2 q
theorem qbj:OpR X (binaryOp .RShift) (rI (fun _ j=>0<=j) fun i j=>.int (i / 2 ^ j.toNat)):=opI fun i j _ _ _ _ _ hc q =>
 rshift_int hc (by rw[Int.fdiv_eq_ediv_of_nonneg i (two_pow_nn _)];show q)
theorem jT:OpR X (binaryOp .BitAnd) (rI0 fun i j=>.int (Builtin.bitAnd i j)):=qgN fun _ _ _ _ _ _ _ q=>and_int q
theorem qdq:OpR X (binaryOp .BitOr) (rI0 fun i j=>.int (Builtin.bitOr i j)):=qgN fun _ _ _ _ _ _ _ q=>or_int q
theorem unI{f:Value->Sem Value}{g:Int->Int}
  (a:∀(i:Int) (t:Tok) (s:Shared) (Q:Value->Shared->Prop) (E:Value->Shared->Prop),Q (.int (g i) s.toks) { s with toks:=s.toks+1 }->wpAny (model X.prog X.w) X.A (f (.int i t)) Q E s) :
  UnR X f (rU fun i=>.int (g i)):=by
 intro pins s σ H x v Q I b h;obtain⟨i,rfl,q⟩:=h;obtain⟨t,rfl⟩:=b;show a i t s _ _ ⟨.int (g i),H,I.tok _,⟨_,rfl⟩,q⟩
theorem qaN:UnR X (unaryOp .USub) (rU fun i=>.int (-i)):=unI fun _ _ _ _ _ q=>neg_int q
theorem qbG:UnR X (unaryOp .Invert) (rU fun i=>.int (Builtin.bitNot i)):=unI fun _ _ _ _ _ q=>invert_int q
end
def scal:V->V->Bool
 | .non,.non=>true | .non,.int _=>true | .int _,.non=>true | .non,.bl _=>true | .bl _,.non=>true | .non,.str _=>true | .str _,.non=>true
 | .int _,.int _=>true | .bl _,.bl _=>true | .str _,.str _=>true | .byt _,.byt _=>true
 | .int _,.str _=>true | .str _,.int _=>true | .bl _,.str _=>true | .str _,.bl _=>true
 | _,_=>false
def rEq:R2:=fun x y H Q=>scal x y=true/\Q (.bl (decide (x=y))) H
theorem dec_bl{i j:Bool}:decide (V.bl i=V.bl j)=(i==j):=by
 rw[Yn];simp
section
variable{X:Cx}{a b c:Expr}{ta tb tc:TE}{pos:Pos}
theorem qdT{Q:VK}{k k':Bool}(I:Inv X pins σ H s)(q:Q (.bl k) H)(e:k=k'):EP X pins σ Q (.bool k') s:=by
 subst e;show⟨.bl k,H,I,rfl,q⟩
theorem qeC:OpR X (compareOp .Lt) (rI0 fun i j=>.bl (decide (i<j))):=qgV fun _ _ _ _ _ _ _ q=>lt_int q
theorem op_le:OpR X (compareOp .LtE) (rI0 fun i j=>.bl (decide (i<=j))):=qgV fun _ _ _ _ _ _ _ q=>le_int q
theorem qfq:OpR X (compareOp .Gt) (rI0 fun i j=>.bl (decide (j<i))):=qgV fun _ _ _ _ _ _ _ q=>gt_int q
theorem op_isN:OpR X (compareOp .Is) (fun x y H Q=>y=.non/\Q (.bl (decide (x=.non))) H):=by
 intro pins s σ H x y v u Q I a b h;obtain⟨rfl,q⟩:=h;cases b;show is_none_gen (qdT I q ?_);cases x<;>first
  | (cases a;rfl)
  | (obtain⟨t,rfl⟩:=a;rfl)
theorem qdr:OpR X (compareOp .IsNot) (fun x y H Q=>y=.non/\Q (.bl (!decide (x=.non))) H):=by
 intro pins s σ H x y v u Q I a b h;obtain⟨rfl,q⟩:=h;cases b;show isnot_none_gen (qdT I q ?_);cases x<;>first
  | (cases a;rfl)
  | (obtain⟨t,rfl⟩:=a;rfl)
theorem qx(b:Expr)(h:op≠.In:=by decide)(d:op≠.NotIn:=by decide):behindInMarks op b=false:=by
 have a:(op==CmpOp.In)=false:=by cases op<;>first | rfl | show absurd rfl h
 have c:(op==CmpOp.NotIn)=false:=by cases op<;>first | rfl | show absurd rfl d
 cases b<;>simp[behindInMarks,a,c]
theorem ze(i:OpR X (compareOp op) r)(e:PE X a ta)(f:PE X b tb)(g:behindInMarks op b=false):PE X (.Compare a [op] [b] pos) (tOp r ta tb):=by
 intro pins s σ H Q I h;show wpAny_Compare1 (qgU e f I h fun v u m x y c d j l q=>i pins m σ c x y v u Q d j l q) g
def qfr(t:TE):TT:=fun σ H Q=>t σ H fun x H'=>∃ k,x=.bl k/\Q k H'
theorem qj(p:OpR X (compareOp op) r)(m:PE X a ta)(n:PE X b tb)(o:behindInMarks op b=false):PT X (.Compare a [op] [b] pos) (qfr (tOp r ta tb)):=by
 intro pins s σ H Q I h
 show wpAny_isTrue_Compare1 (thn (m pins s σ H _ I h) fun v D ⟨x,d,i,A,q⟩=>thn (n pins D σ d _ i q) fun u E ⟨y,f,j,B,t⟩ =>
  thn (p pins E σ f x y v u _ j A B t) fun c F ⟨z,g,l,C,k,e,w⟩=>?_) o
 subst e;cases C;show xR ⟨g,l,w⟩
def qeD(r r':R2)(ta tb tc:TE):TE:=fun σ H Q=>ta σ H fun x b=>tb σ b fun y c=>r x y c fun z a=>∃ k,z=.bl k /\
 (if k=true then tc σ a fun e d=>r' y e d Q else Q (.bl false) a)
theorem pe_chain(C:OpR X (compareOp op) r)(f:OpR X (compareOp op') r')(w:PE X a ta)(A:PE X b tb)(hc:PE X c tc)
  (B:lastMarks [op,op'] [b,c]=false:=by with_unfolding_all rfl):PE X (.Compare a [op,op'] [b,c] pos) (qeD r r' ta tb tc):=by
 intro pins s σ H Q I h
 show Compare_chain (thn (w pins s σ H _ I h) fun v L ⟨x,m,p,G,D⟩=>chain_link (thn (A pins L σ m _ p D) fun u M ⟨y,n,q,l,E⟩ =>
  thn (C pins M σ n x y v u _ q G l E) fun d N ⟨z,g,i,J,k,e,j⟩=>?_)) B
 subst e;cases J;show xR ?_
 cases k with
 | false=>show ite_ff ⟨.bl false,g,i,rfl,j⟩
 | true=>show ite_tt (chain_last (thn (hc pins N σ g _ i j) fun P O ⟨R,o,t,K,F⟩=>f pins O σ o y R u P Q t l K F))
theorem pt_chain(G:OpR X (compareOp op) r)(f:OpR X (compareOp op') r')(D:PE X a ta)(E:PE X b tb)(hc:PE X c tc)
  (F:lastMarks [op,op'] [b,c]=false:=by with_unfolding_all rfl):PT X (.Compare a [op,op'] [b,c] pos) (qfr (qeD r r' ta tb tc)):=by
 intro pins s σ H Q I h
 show isTrue_chain (thn (D pins s σ H _ I h) fun v T ⟨x,m,q,O,K⟩=>test_link (thn (E pins T σ m _ q K) fun u U ⟨y,n,t,l,L⟩ =>
  thn (G pins U σ n x y v u _ t O l L) fun d W ⟨z,g,i,P,k,e,j⟩=>?_)) F
 subst e;cases P;show xR ?_
 cases k with
 | false =>
  obtain⟨k',B,J⟩:=j;cases B;show ite_ff ⟨g,i,J⟩
 | true =>
  show ite_tt (test_last (thn (hc pins W σ g _ i j) fun Z Y ⟨z',o,w,R,M⟩=>thn (f pins Y σ o y z' u Z _ w l R M) fun d' s5 ⟨z2,p,A,S,k2,C,N⟩=>?_));subst C;cases S;show xR ⟨p,A,N⟩
theorem qb8:(sizeLine:Nat)<2 ^ 63:=by rw[YA];decide
theorem op_add_str:OpR X (binaryOp .Add) (fun x y H Q=>∃ i j,x=.str i/\y=.str j/\i.length+j.length<=sizeLine/\Q (.str (i++j)) H):=by
 intro pins s σ H x y v u Q I a b h;obtain⟨i,j,rfl,rfl,hz,q⟩:=h;obtain⟨t,rfl⟩:=a;obtain⟨t',rfl⟩:=b;show add_str (fun t' tk=>⟨.str (i++j),H,I.tok _,⟨_,rfl⟩,q⟩) hz
theorem qbH{x:V}(r:Vals [x] us):∃ u,us=[u]/\RelV x u:=by
 cases r with
 | cons r1 r2=>cases r2;show⟨_,rfl,r1⟩
theorem qfZ{x:V}(r:Vals [x,y] us):∃ u a,us=[u,a]/\RelV x u/\RelV y a:=by
 cases r with
 | cons r1 r2 =>
  cases r2 with
  | cons r3 r4=>cases r4;show⟨_,_,rfl,r1,r3⟩
theorem qbI(hc:X.calm=true):zU X (.builtin "max") (fun xs H Q=>∃ i j,xs=[.int i,.int j]/\Q (.int (if j>i then j else i)) H):=by
 intro pins s σ H xs us Q I r h;obtain⟨i,j,rfl,q⟩:=h;obtain⟨u,b,rfl,⟨t,rfl⟩,⟨t',rfl⟩⟩:=qfZ r;show max_two_ints (I.ok.hd hc) fun h' tk k=>⟨_,H,I.kept k,?_,q⟩;by_cases a:j>i
 .rw [yG a,yG a];show⟨_,rfl⟩
 .rw [yB a,yB a];show⟨_,rfl⟩
end
structure ObjM(h:Heap)(x dx C:Addr)(mA:Str->Option Value):Prop where
 obj:h.get? x=some (PySem.W.instObj C dx)
 ns:h.Ns1 dx mA
 ne:dx≠x
theorem qcK(n:h.Ns1 dx mA):∃ od,h.get? dx=some od/\∀ name,PySem.W.lookIn name od=some (mA name):=by
 obtain⟨o,es,ep,i,d,f,_,g⟩:=n;show⟨o,i,fun name=>?_⟩;have e:=g name;unfold nsFind findBy at e;rw[<- Array.find?_toList] at e;unfold PySem.W.lookIn;rw[d];dsimp only;split
 .rename_i y q
  rw[q] at e;show congrArg some e
 .rename_i q
  rw[q] at e
  have a:es.toList.any (·.refKey)=false:=by
   rw[List.any_eq_false];intro y j;obtain⟨z,t,b⟩:=f y (Array.mem_toList_iff.mp j);simp[DictEntry.refKey,b]
  have c:¬ es.toList.any (·.refKey)=true:=by rw[a];show Yu
  rw[yB c];show congrArg some e
theorem ObjM.look{x:Addr}(I:ObjM h x dx C mA):∃ od,PySem.W.InstAt h x (PySem.W.instObj C dx) C (some od)/\∀ name,PySem.W.lookIn name od=some (mA name):=
 let ⟨od,ho,hl⟩:=qcK I.ns
 ⟨od,⟨I.obj,rfl,rfl,ho⟩,hl⟩
section
variable{prog:Program}{w:World}{A:Around}{E:Value->Shared->Prop}{s:Shared}{K:yg}{x dx C f:Addr}{mA:Str->Option Value}{name:Str}{v:Value}
theorem get_map{a:Bool}{Q:Value->Shared->Prop}(X:K.In s.heap)(I:ObjM s.heap x dx C mA)(d:PySem.W.plainGet K C name=true)(e:PySem.W.hasDictIn K C=true)
  (c:PySem.W.findIn K (.ref C) name=some none) (hv:mA name=some v) (b:PySem.W.handedIn v=true) (h:Q v { s with toks:=s.toks+1 }) :
  wpAny (model prog w) A (getAttr (.ref x) name a) Q E s:=by
 obtain⟨od,J,hl⟩:=I.look;show PySem.W.get_value X J (kx d).1 (PySem.W.findObj_own e c rfl (by rw[hl,hv])) b h
theorem get_meth{pl:Sem Bool}{Q:Value×List Value->Shared->Prop}(X:K.In s.heap)(I:ObjM s.heap x dx C mA)(a:PySem.W.plainGet K C name=true)
  (b:PySem.W.findIn K (.ref C) name=some (some (.ref f))) (c:PySem.W.isFn K (.ref f)=true) (hv:mA name=none) (h:Q (.ref f,[.ref x]) s) :
  wpAny (model prog w) A (getMethod (.ref x) name pl) Q E s:=by
 obtain⟨od,J,hl⟩:=I.look;show PySem.W.method_fn X J (kx a).1 (kx a).2 b (Yy.mp c) (by show(PySem.W.lookIn name od).map (·.isSome)=some false;rw[hl,hv];rfl) h
theorem set_map{ns:LS}{Q:Unit->Shared->Prop}(X:K.In s.heap)(I:ObjM s.heap x dx C mA)
  (o:PySem.W.findIn K (.ref C) "__setattr__"=some (some (.builtin "object.__setattr__"))) (n:PySem.W.plainOver K C=true) (p:PySem.W.takerIn K C name=some none) (m:PySem.W.hasDictIn K C=true)
  (hw:PySem.Within mA ns) (hsz:ns.length<=sizeLine)
  (h:∀ h',ObjM h' x dx C (fun y=>if y=name then some v else mA y)->Heap.SameBut dx s.heap h'->Q () { s with heap:=h',toks:=s.toks+2 }) :
  wpAny (model prog w) A (setAttr (.ref x) name v) Q E s:=by
 obtain⟨od,J,hl⟩:=I.look;show PySem.W.set_plain X J o (PySem.W.osa_open (s:={ s with toks:=s.toks+1 }) (r:=none) X J n p fun b=>?_);obtain⟨t,hc,f⟩:=Xb m;have q:s.heap.get? x=some ⟨.ref C,some dx,.plain,#[]⟩:=I.obj;show yr (yv (yr (yr (wpAny_loadPart q (yr (PySem.W.Looks.here (s:={ s with toks:=s.toks+1 }) (ky X hc) ?_))))));rw[f];show yv (a:=some dx) (yr (yv (yr ?_)));show wpAny_nsSet1 (s:={ s with toks:=s.toks+1 }) I.ns fun h' c d=>?_;obtain⟨u,l,j,i,g,e⟩:=c.count (PySem.Within.cons name v hw);show yr (wpAny_lookBehind i (by rw[g];show pastItsLine_dict (yi e (by rw[yJ];lk))) ?_);show yv (h _ ⟨(d.2 _ (Ym I.ne)).trans I.obj,c,I.ne⟩ d)
theorem make_map{R:Result->Shared->Prop}{vs:List Value}(X:K.In s.heap)(c:PySem.W.makesIn K C=true)
  (b:PySem.W.findIn K (.ref C) "__init__"=some (some (.ref f))) (a:PySem.W.typeIn K (.ref f)=some (.type "function"))
  (h:codeAny (model prog w) (A.under (.builtin "type.__call__" ⟨.ref C::vs,kw⟩)) (.call (.ref f) ⟨.ref (s.heap.objs.size+1)::vs,kw⟩) (PySem.W.InitBack (s.heap.objs.size+1) R)
   { s with heap:=(s.heap.push PySem.W.emptyDict).push (PySem.W.instObj C s.heap.objs.size) }) :
  codeAny (model prog w) A (.call (.ref C) ⟨vs,kw⟩) R s:=by
 obtain⟨e,g,d,t,i⟩:=s;show PySem.W.make_core (PySem.W.makes_of X c) (xo X b) (fun self=>PySem.W.bind_fn X self a) (.inl rfl) h
end
def qI(f:Str)(v:V):List (Str×V)->List (Str×V)
 | []=>[(f,v)]
 | (g,x)::r=>if g=f then(g,v)::r else(g,x)::qI f v r
theorem qC(f g:Str)(v:V):∀ fs:List (Str×V),(qI f v fs).lookup g=if g=f then some v else fs.lookup g
 | []=>by
  show List.lookup g [(f,v)]=_;by_cases h:g=f
  .have a:(g==f)=true:=Yy.mpr h;simp only[List.lookup,a,yG h]
  .have a:(g==f)=false:=YR.mpr h;simp only[List.lookup,a,yB h]
 | (k,x)::r=>by
  have c:=qC f g v r;rw[show qI f v ((k,x)::r)=(if k=f then(k,v)::r else(k,x)::qI f v r) from rfl];by_cases b:k=f
  .rw [yG b];by_cases h:g=k
   .have a:(g==k)=true:=Yy.mpr h;simp only[List.lookup,a,yG (h.trans b)]
   .have a:(g==k)=false:=YR.mpr h;simp only[List.lookup,a,yB (fun e:g=f=>h (e.trans b.symm))]
  .rw [yB b];by_cases h:g=k
   .have a:(g==k)=true:=Yy.mpr h;simp only[List.lookup,a,yB (fun e:g=f=>b (h.symm.trans e))]
   .have a:(g==k)=false:=YR.mpr h;simp only[List.lookup,a];show c
theorem qbJ(f:Str)(v:V):∀ fs:List (Str×V),f∈(qI f v fs).map (·.1)/\∀ g,g∈fs.map (·.1)->g∈(qI f v fs).map (·.1)
 | []=>⟨by simp[qI],fun g h=>by simp at h⟩
 | (k,x)::r=>by
  obtain⟨b,c⟩:=qbJ f v r;rw[show qI f v ((k,x)::r)=(if k=f then(k,v)::r else(k,x)::qI f v r) from rfl];by_cases a:k=f
  .rw [yG a];subst a;show⟨by simp,fun g h=>by simpa using h⟩
  .rw [yB a];show⟨?_,fun g h=>?_⟩
   .rw [YC];show yC _ b
   .rw [YC] at h ⊢;rcases yx.mp h with e | e
    .show yx.mpr (.inl e)
    .show yC _ (c g e)
theorem jE(f:Str)(v:V):∀ fs:List (Str×V),(qI f v fs).length<=fs.length+1
 | []=>by simp[qI]
 | (k,x)::r=>by
  have b:=jE f v r;rw[show qI f v ((k,x)::r)=(if k=f then(k,v)::r else(k,x)::qI f v r) from rfl];by_cases a:k=f
  .rw [yG a,yJ,yJ];lk
  .rw [yB a,yJ,yJ];lk
theorem RelO.some_of{o:Option Value}(r:RelO (some v) o):∃ u,o=some u/\RelV v u:=by
 cases o with
 | none=>show(show False from r).elim
 | some u=>show⟨u,rfl,r⟩
theorem RelO.none_of{o:Option Value}(r:RelO none o):o=none:=by
 cases o with
 | none=>rfl
 | some u=>show(show False from r).elim
theorem qcL(r:RelV v u):PySem.W.handedIn u=true:=by
 cases v with
 | non=>cases (show u=Value.none from r);rfl
 | bl b=>cases (show u=Value.bool b from r);rfl
 | int i=>obtain⟨t,e⟩:=(show ∃ t,u=Value.int i t from r);cases e;rfl
 | str x=>obtain⟨t,e⟩:=(show ∃ t,u=Value.str x t from r);cases e;rfl
 | byt b=>obtain⟨t,e⟩:=(show ∃ t,u=Value.bytes b t from r);cases e;rfl
 | flt b=>obtain⟨t,e⟩:=(show ∃ t,u=Value.float b t from r);cases e;rfl
 | ref a=>cases (show u=Value.ref a from r);rfl
 | ty n=>cases (show u=Value.type n from r);rfl
section
variable{P:Program}{w:World}{H H':Hp}{h h':Heap}{a C dx:Addr}{fs fs':List (Str×V)}
theorem qbc(b:HOk P w H h)(e:H a=some (.ins C dx fs)):∃ mA,ObjM h a dx C mA/\(∀ f,RelO (fs.lookup f) (mA f))/\PySem.Within mA (fs.map (·.1))/\fs.length<=1000/\H dx=some (.own a):=by
 obtain⟨d,z,ne,c,mA,n,r,q⟩:=(show ObjOk P w H h a (.ins C dx fs) from b a _ e);show⟨mA,⟨c,n,ne⟩,r,q,z,d⟩
end
structure Cls(K:yg)(C:Addr):Prop where
 pg:PySem.W.plainGet K C Str.empty=true
 hd:PySem.W.hasDictIn K C=true
 po:PySem.W.plainOver K C=true
 sa:PySem.W.findIn K (.ref C) "__setattr__"=some (some (.builtin "object.__setattr__"))
theorem Cls.get{K:yg}(c:Cls K C)(f:Str):PySem.W.plainGet K C f=true:=c.pg
def NoAttr(K:yg)(C:Addr)(f:Str):Prop:=PySem.W.findIn K (.ref C) f=some none
theorem NoAttr.taker{K:yg}{f:Str}(n:NoAttr K C f):PySem.W.takerIn K C f=some none:=by
 unfold PySem.W.takerIn;rw[show PySem.W.findIn K (.ref C) f=some none from n];rfl
structure Con(K:yg)(C:Addr)(f:Str)(v:V)(u:Value):Prop where
 at_:PySem.W.findIn K (.ref C) f=some (some u)
 rel:RelV v u
 get:PySem.W.specialIn K u "__get__"=some none
 cp:PySem.W.copiedNames.contains f=false
structure Meth(K:yg)(C:Addr)(m:Str)(f:Addr):Prop where
 at_:PySem.W.findIn K (.ref C) m=some (some (.ref f))
 fn:PySem.W.isFn K (.ref f)=true
 kp:PySem.W.keepIn K (.ref f)=true
section
variable{X:Cx}{pins:List (Addr×Obj)}{σ:St}{H:Hp}{s:Shared}{a C dx:Addr}{fs:List (Str×V)}{f:Str}{v:V}{A:Around}{E:Value->Shared->Prop}
theorem getattr_ok{b:Bool}{Q:Value->Shared->Prop}(I:Inv X pins σ H s)(e:H a=some (.ins C dx fs))(c:Cls X.K C)(n:NoAttr X.K C f)(l:fs.lookup f=some v)
  (h:∀ u s',Inv X pins σ H s'->RelV v u->Q u s'):wpAny (model X.prog X.w) A (getAttr (.ref a) f b) Q E s:=by
 obtain⟨mA,O,r,_,_,_⟩:=qbc I.hok e;obtain⟨u,g,d⟩:=RelO.some_of (v:=v) (o:=mA f) (by rw[<- l];show r f);show get_map I.kIn O (c.get f) c.hd n g (qcL d) (h u _ (I.tok _) d)
theorem qb9{m:Str}{g:Addr}{pl:Sem Bool}{Q:Value×List Value->Shared->Prop}(I:Inv X pins σ H s)(e:H a=some (.ins C dx fs))(c:Cls X.K C)(k:Meth X.K C m g)(l:fs.lookup m=none)
  (h:Q (.ref g,[.ref a]) s):wpAny (model X.prog X.w) A (getMethod (.ref a) m pl) Q E s:=by
 obtain⟨mA,O,r,_,_,_⟩:=qbc I.hok e;have b:mA m=none:=RelO.none_of (by rw[<- l];show r m);show get_meth I.kIn O (c.get m) k.at_ k.fn b h
theorem setattr_ok{Q:Unit->Shared->Prop}(I:Inv X pins σ H s)(e:H a=some (.ins C dx fs))(c:Cls X.K C)(n:NoAttr X.K C f)(hl:fs.length<1000)(t:RelV y u)
  (h:∀ s',Inv X pins σ (upd H a (.ins C dx (qI f y fs))) s'->Q () s'):wpAny (model X.prog X.w) A (setAttr (.ref a) f u) Q E s:=by
 obtain⟨mA,O,r,j,_,i⟩:=qbc I.hok e;have hz:(fs.map (·.1)).length<=sizeLine:=by rw[ya,YA];lk
 show set_map I.kIn O c.sa c.po n.taker c.hd j hz fun h' d v=>h _ ?_;have m:∃ o,h'.get? dx=some o:=let ⟨o,_,_,e',_⟩:=d.ns;⟨o,e'⟩;show I.write (x:=a) (e:=dx) (by rw[e];show Y0) (.inr i) (fun b q l z=>(v.2 b l).trans z) m ?_;show⟨by rw[qf O.ne];show i,?_,O.ne,d.obj,_,d.ns,fun g=>?_,fun g p=>?_⟩
 .have:=jE f y fs;lk
 .show RelO ((qI f y fs).lookup g) (if g=f then some u else mA g);rw[qC];by_cases q:g=f
  .rw [yG q,yG q];show t
  .rw [yB q,yB q];show r g
 .by_cases q:g=f
  .rw [q];show(qbJ f y fs).1
  .show(qbJ f y fs).2 g (j g fun z=>p ?_);show(if g=f then some u else mA g)=none;rw[yB q];show z
theorem Inv.made(I:Inv X pins σ H s):Inv X pins σ (upd (upd H s.heap.objs.size (.own (s.heap.objs.size+1))) (s.heap.objs.size+1) (.ins C s.heap.objs.size []))
  { s with heap:=(s.heap.push PySem.W.emptyDict).push (PySem.W.instObj C s.heap.objs.size) }:=by
 have c:(s.heap.push PySem.W.emptyDict).get? s.heap.objs.size=some PySem.W.emptyDict:=yZ s.heap rfl
 have f:((s.heap.push PySem.W.emptyDict).push (PySem.W.instObj C s.heap.objs.size)).get? (s.heap.objs.size+1)=some (PySem.W.instObj C s.heap.objs.size):=by
  have:=yZ (s.heap.push PySem.W.emptyDict) (o:=PySem.W.instObj C s.heap.objs.size) rfl
  rwa[xF] at this
 have g:(s.heap.push PySem.W.emptyDict).Ns s.heap.objs.size (fun _=>none):=⟨PySem.W.emptyDict,#[],_,c,rfl,(fun e h=>absurd h (by simp)),fun _=>rfl⟩;have d:=I.laid (a:=s.heap.objs.size) (o:=.own (s.heap.objs.size+1)) (h':=s.heap.push PySem.W.emptyDict) (t':=s.toks) (fun b u q=>yw _ q) (yh _) ⟨_,c⟩;show d.laid (a:=s.heap.objs.size+1) (o:=.ins C s.heap.objs.size []) (t':=s.toks) (fun b u q=>yw _ q) (kB (xF _ _)) ?_;have ne:s.heap.objs.size≠s.heap.objs.size+1:=yT (X7 _);show⟨by rw[qf ne,qb],YS _,ne,f,fun _=>none,(Heap.Ns1.of_empty g).at fun o q=>yw _ q,fun _=>Y0,fun y i=>absurd rfl i⟩
theorem attr_of{prog:Program}{env:Env}{f:Str}{Q:Value->Shared->Prop}(b:attributeBase e f env (eval e env)=eval e env)
  (h:wpAny (model prog w) A (eval e env) (fun o a=>wpAny (model prog w) A (getAttr o f true) Q E a) E s):wpAny (model prog w) A (eval (.Attribute e f pos) env) Q E s:=
 Attribute_any_ h (by rw[arm_eval_Attribute,b])
end
section
variable{X:Cx}{o e value:Expr}{f:Str}{pos pos' tpos:Pos}{ta tv:TE}
end
section
variable{X:Cx}{pins:List (Addr×Obj)}{σ:St}{H:Hp}{s:Shared}{A:Around}{E:Value->Shared->Prop}{Q:Value->Shared->Prop}{c:Value}{b:Bool}
inductive TyOf(K:yg)(H:Hp):V->Value->Prop where
 | non:TyOf K H .non (.type "NoneType")
 | bl (x:Bool):TyOf K H (.bl x) (.type "bool")
 | int (i:Int):TyOf K H (.int i) (.type "int")
 | str (x:Str):TyOf K H (.str x) (.type "str")
 | flt (x:UInt64):TyOf K H (.flt x) (.type "float")
 | lst {a:Addr} {xs:List V} (e:H a=some (.lst xs)):TyOf K H (.ref a) (.type "list")
 | frz {a:Addr} {o:Obj} {xs:List V} (e:H a=some (.frz o (.lst xs))):TyOf K H (.ref a) (.type "list")
 | tup {a:Addr} {xs:List V} (e:H a=some (.tup xs)):TyOf K H (.ref a) (.type "tuple")
 | dK {a:Addr} {kvs:List (Key×V)} (e:H a=some (.dK kvs)):TyOf K H (.ref a) (.type "dict")
 | dT {a:Addr} {kvs:List (List Key×V)} (e:H a=some (.dT kvs)):TyOf K H (.ref a) (.type "dict")
 | ins {a C dx:Addr} {fs:List (Str×V)} (e:H a=some (.ins C dx fs)) (cl:Cls K C) (ha:PySem.W.findIn K (.ref C) "__class__"=some (some (.builtin "object.__class__")))
   (hn:PySem.W.specialIn K (.builtin "object.__class__") "__get__"=some (some (.builtin "getset_descriptor.__get__"))) (htk:PySem.W.takesIn K (.builtin "object.__class__")=some true)
   (hm:PySem.W.mroIn K C (.type "object")=some true):TyOf K H (.ref a) (.ref C)
end
structure Room(k:Nat)(A:Around):Prop where
 hd:A.handled=none
 dp:A.depth+3*k+5<recursionLimit
 un:A.units+16*k+200<cLine
 gd:A.guards=some []
theorem Room.mono{k:Nat}(r:Room k A)(h:j<=k):Room j A:=⟨r.hd,by have:=r.dp;lk,by have:=r.un;lk,r.gd⟩
theorem Room.deeper{k:Nat}(r:Room (k+1) A)(env:Env):Room k (A.deeper env):=
 ⟨r.hd,by have:=r.dp;show A.depth+1+3*k+5<_;lk,by have:=r.un;show A.units+3+16*k+200<_;lk,r.gd⟩
theorem make_depth:(A.under (.builtin "type.__call__" ⟨.ref C::us,kw⟩)).depth=A.depth+1:=by
 first | rfl | simp[Around.under,Code.weight,Code.isCreation,Code.isGuard,Code.isCaller,Code.frames,Code.isFrame,guardIds]
theorem make_units:(A.under (.builtin "type.__call__" ⟨.ref C::us,kw⟩)).units=A.units+1:=by
 first | rfl | simp[Around.under,Code.cUnits,Code.frames,Code.isFrame]
theorem make_guards:(A.under (.builtin "type.__call__" ⟨.ref C::us,kw⟩)).guards=A.guards:=by
 first | rfl | simp[Around.under,Code.guards,Code.isGuard,guardIds,pushGuards]
theorem Room.make{k:Nat}(r:Room (k+1) A)(C:Addr)(us:List Value)(kw:List (Str×Value)):Room k (A.under (.builtin "type.__call__" ⟨.ref C::us,kw⟩)):=
 ⟨r.hd,by have:=r.dp;rw[make_depth];lk,by have:=r.un;rw[make_units];lk,by rw[make_guards];show r.gd⟩
theorem Room.depth{k:Nat}(r:Room k A):A.depth<recursionLimit:=by have:=r.dp;lk
def qgO:TA:=fun _ H Q=>Q [] H
def qgp(ta:TE)(c:TA):TA:=fun σ H Q=>ta σ H fun x a=>c σ a fun xs b=>Q (x::xs) b
section
variable{X:Cx}{e:Expr}{es:List Expr}{te:TE}{t:TA}{pos:Pos}
theorem qd:PA X [] qgO:=fun _ _ _ _ H Q I h=>XZ ⟨[],H,I,.nil,h⟩
theorem qa(f:PE X e te)(g:PA X es t)(i:starEach (e::es) X.env=(false,eval e X.env)::starEach es X.env:=by rfl):PA X (e::es) (qgp te t):=by
 intro pos pins s σ H Q I h;rw[i];show wpAny _ _ (spliced ((false,eval e X.env)::backTo pos (starEach es X.env))) _ _ s;show Xl (thn (f pins s σ H _ I h) fun u o ⟨x,a,c,m,j⟩=>?_);show thn (g pos pins o σ a _ c j) fun us p ⟨xs,b,d,n,l⟩=>⟨x::xs,b,d,.cons m n,l⟩
inductive NewT(xs:List V)(H:Hp)(Q:VK):Prop|mk (_:xs.length<=sizeLine) (_:∀ p,H p=none->Q (.ref p) (upd H p (.tup xs)))
inductive NewL(xs:List V)(H:Hp)(Q:VK):Prop|mk (_:xs.length<=sizeLine) (_:∀ p,H p=none->Q (.ref p) (upd H p (.lst xs)))
def qhc(t:TA):TE:=fun σ H Q=>t σ H fun xs a=>NewT xs a Q
def qhd(t:TA):TE:=fun σ H Q=>t σ H fun xs a=>NewL xs a Q
theorem jU{x1}(h:PA X es t):PE X (.Tuple es x1 pos) (qhc t):=by
 intro pins s σ H Q I g;show wpAny_Tuple_spliced (thn (h pos pins s σ H _ I g) fun us a ⟨xs,c,d,r,z,q⟩=>⟨by rw[<- r.length];show z,?_⟩);have f:c a.heap.objs.size=none:=d.hok.fresh (yh _);show⟨.ref a.heap.objs.size,upd c a.heap.objs.size (.tup xs),d.laid (t':=a.toks) (fun b u e=>yw _ e) (yh _) ?_,rfl,q _ f⟩;show⟨z,us,r,⟨_,yZ _ rfl,rfl,_,rfl⟩⟩
theorem qS(h:PA X es t):PE X (.List es pos) (qhd t):=by
 intro pins s σ H Q I g;show wpAny_List_spliced (thn (h pos pins s σ H _ I g) fun us a ⟨xs,c,d,r,z,q⟩=>⟨by rw[<- r.length];show z,?_⟩);have f:c a.heap.objs.size=none:=d.hok.fresh (yh _);show⟨.ref a.heap.objs.size,upd c a.heap.objs.size (.lst xs),d.laid (t':=a.toks) (fun b u e=>yw _ e) (yh _) ?_,rfl,q _ f⟩;show⟨z,us,0,r,yZ _ rfl⟩
end
abbrev Sp:=List V->Hp->VK->XK->Prop
abbrev CXT:=List Env->Hp->Shared->XK->Value->Shared->Prop
structure Env0(P:Program)(w:World)(K:yg)(mg:Str->Option Value)(base:Heap)(A:Around)(outer:List Env)(s:Shared)(H:Hp):Prop where
 frames:A.frames=some outer
 mod:Mod K mg base
 bs:∀ b o,base.get? b=some o->s.heap.get? b=some o/\H b=none
 bsz:base.objs.size<=s.heap.objs.size
 funs:s.heap.FunFrames base outer
 frf:∀ b∈frs outer,H b=none
 hok:HOk P w H s.heap
 bare:AllBare s.gens
def CE(outer:List Env)(P:Program)(w:World)(H:Hp)(s:Shared)(Q:VK)(u:Value)(s':Shared):Prop:=
 ∃ v H',s'.os=s.os/\AllBare s'.gens/\Un (frs outer) [] H H' s.heap s'.heap/\HOk P w H' s'.heap/\RelV v u/\Q v H'
def CR(CX:CXT)(outer:List Env)(P:Program)(w:World)(H:Hp)(s:Shared)(Q:VK)(E:XK)(r:Result)(s':Shared):Prop:=
 match r with
 | .ok (.ret u)=>CE outer P w H s Q u s'
 | .ok _=>False
 | .error e=>CX outer H s E e s'
structure FnOk(P:Program)(w:World)(K:yg)(mg:Str->Option Value)(base:Heap)(CX:CXT)(k:Nat)(f:Addr)(fd:FuncData)(ps:LS)(sp:Sp):Prop where
 len:∀ vs H Q E,sp vs H Q E->vs.length=ps.length
 run:∀(A:Around) (outer:List Env) (s:Shared) (H:Hp) (args:Args) (us:List Value) (vs:List V) (Q:VK) (E:XK),Room k A->Env0 P w K mg base A outer s H->BindsTo s fd args (ps.zip us)->Vals vs us->sp vs H Q E ->
  codeAny (model P w) A (.call (.ref f) args) (CR CX outer P w H s Q E) s
theorem Env0.make{K:yg}(e:Env0 P w K mg base A outer s H)(C:Addr)(us:List Value)(kw:List (Str×Value)) :
  Env0 P w K mg base (A.under (.builtin "type.__call__" ⟨.ref C::us,kw⟩)) outer s H:=⟨by first | show e.frames | (simpa [Around.under,Code.envs,Code.isFrame,pushEnvs] using e.frames),e.mod,e.bs,e.bsz,e.funs,e.frf,e.hok,e.bare⟩
section
variable{X:Cx}{pins:List (Addr×Obj)}{σ:St}{H:Hp}{s s':Shared}
theorem Inv.env0(I:Inv X pins σ H s):Env0 X.prog X.w X.K X.mg X.base X.A X.stack s H:=
 ⟨I.ok.frames,I.ok.mod,I.bs,yi I.ok.bsz I.sz,I.stack,I.stkFree,I.hok,I.bare⟩
theorem Inv.after{Q:VK}(I:Inv X pins σ H s)(h:CE X.stack X.prog X.w H s Q u s'):EP X pins σ Q u s':=by
 obtain⟨v,H',i,a,un,c,r,q⟩:=h;obtain⟨f,g,d,t,e⟩:=s';obtain rfl:e=s.os:=i;show⟨v,H',I.call (h':=f) (g':=g) (d':=d) (t':=t) (ch:=[]) un c a (fun b z=>absurd z (by simp)),r,q⟩
end
def qf0(sp:Sp)(a:List V)(E:XK)(t:TA):TE:=fun σ H Q=>t σ H fun vs b=>sp (vs++a) b Q E
inductive MeR(C:Addr)(m:Str)(x:V)(H:Hp)(k:Prop):Prop|mk (a dx:Addr) (fs:List (Str×V)) (_:x=.ref a) (_:H a=some (.ins C dx fs)) (_:fs.lookup m=none) (_:k)
def qeE(C:Addr)(m:Str)(sp:Sp)(a:List V)(E:XK)(ta:TE)(t:TA):TE:=fun σ H Q=>ta σ H fun x b=>MeR C m x b (t σ b fun vs c=>sp (x::(vs++a)) c Q E)
def qf1(C:Addr)(sp:Sp)(b:List V)(E:XK)(t:TA):TE:=fun σ H Q=>t σ H fun vs a=>∀ x dx,a x=none->a dx=none->dx≠x ->
 sp (.ref x::(vs++b)) (upd (upd a dx (.own x)) x (.ins C dx [])) (fun v c=>v=.non/\Q (.ref x) c) E
def Binds(K:yg)(b:FuncData)(ps:LS)(a:List Value):Prop:=
 ∀(s:Shared) (us:List Value),K.In s.heap->(us++a).length=ps.length->BindsTo s b ⟨us,[]⟩ (ps.zip (us++a))
theorem Binds.all{K:yg}{a:FuncData}(h:∀ us:List Value,us.length=ps.length->bindArgs a ⟨us,[]⟩=pure (ps.zip us)):Binds K a ps []:=fun s us _ hl=>by
 rw[Ye] at hl ⊢;show .of_eq (h us hl)
def qbk(CX:CXT)(X:Cx)(E:XK):Prop:=∀(pins:List (Addr×Obj)) (σ:St) (H:Hp) (s:Shared) (e:Value) (s':Shared),Inv X pins σ H s->CX X.stack H s E e s'->X.xe e s'
section
variable{X:Cx}{CX:CXT}{k:Nat}{f C:Addr}{fd:FuncData}{ps:LS}{sp:Sp}{dvs:List V}{ds:List Value}{E:XK}{x m:Str}{p pos apos:Pos}{e o:Expr}{es:List Expr}{ta:TE}{t:TA}
theorem qeF{Q:VK}(F:FnOk X.prog X.w X.K X.mg X.base CX k f fd ps sp)(g:Room k X.A)(c:Binds X.K fd ps ds)(d:Vals dvs ds)(i:qbk CX X E)
  (I:Inv X pins σ H s) (r:Vals vs us) (h:sp (vs++dvs) H Q E):wpAny (model X.prog X.w) X.A (call (.ref f) us) (EP X pins σ Q) X.xe s:=by
 have b:Vals (vs++dvs) (us++ds):=r.append d;have hl:(us++ds).length=ps.length:=by rw[<- b.length];show F.len _ _ _ _ h
 show kD (kC (F.run X.A X.stack s H ⟨us,[]⟩ (us++ds) (vs++dvs) Q E g I.env0 (c s us I.kIn hl) b h) fun r s' a=>?_)
 cases r with
 | error e=>show i pins σ H s e s' I a
 | ok fl =>
  cases fl with
  | ret u=>show I.after a
  | next=>show False.elim a
  | brk=>show False.elim a
  | cont=>show False.elim a
theorem pe_call(F:FnOk X.prog X.w X.K X.mg X.base CX k f fd ps sp)(o:Room k X.A)(l:Gl X x)(n:X.mg x=some (.ref f))(m:PySem.W.keepIn X.K (.ref f)=true)(g:Binds X.K fd ps ds)(i:Vals dvs ds)(u:qbk CX X E)
  (d:PA X (e::es) t) (a:(x==("__debug__":Str))=false:=by decide) (j:starEach (e::es) X.env=(false,eval e X.env)::starEach es X.env:=by rfl) (b:(backTo pos (starEach es X.env)).any (·.1)=false:=by rfl) :
  PE X (.Call (.Name x p) (e::es) [] pos) (qf0 sp dvs E t):=by
 intro pins s σ H Q I h;show XV (qdp I l n ?_ a);show kE (h₀:=X.base) I.ok.mod.kin m (thn (d pos pins s σ H _ I h) fun us y ⟨vs,v,c,r,q⟩=>⟨c.kIn,?_⟩) j b;show qeF F o g i u c r q
theorem pe_meth{pl:Sem Bool}(B:PE X o ta)(c:Cls X.K C)(j:Meth X.K C m f)(F:FnOk X.prog X.w X.K X.mg X.base CX k f fd ps sp)(D:Room k X.A)(y:Binds X.K fd ps ds)(z:Vals dvs ds)(J:qbk CX X E)(v:PA X (e::es) t)
  (d:starEach (e::es) X.env=(false,eval e X.env)::starEach es X.env:=by rfl) (b:(backTo pos (starEach es X.env)).any (·.1)=false:=by rfl)
  (G:eval (.Call (.Attribute o m apos) (e::es) [] pos) X.env=(do
   let ov <- eval o X.env
   standAt apos.atName
   let (f,first) <- holding [ov] (getMethod ov m pl)
   callWith pos f first (backTo pos (starEach (e::es) X.env)) (backToKw pos (keywordEach [] X.env))):=by rfl) :
  PE X (.Call (.Attribute o m apos) (e::es) [] pos) (qeE C m sp dvs E ta t):=by
 intro pins s σ H Q I h;show PySem.W.methodCall_KW (pl:=pl) (thn (B pins s σ H _ I h) fun u N ⟨x,n,g,M,a,dx,fs,ex,p,l,q⟩=>?_) G;subst ex;obtain rfl:u=Value.ref a:=M;show qb9 g p c j l ?_;show kE (first:=[.ref a]) (h₀:=X.base) I.ok.mod.kin j.kp (thn (v pos pins N σ n _ g q) fun us P ⟨vs,O,i,r,L⟩=>⟨i.kIn,?_⟩) d b;show qeF (us:=.ref a::us) (vs:=.ref a::vs) F D y z J i (.cons rfl r) L
theorem pe_meth0{pl:Sem Bool}(j:PE X o ta)(c:Cls X.K C)(d:Meth X.K C m f)(F:FnOk X.prog X.w X.K X.mg X.base CX k f fd ps sp)(n:Room k X.A)(g:Binds X.K fd ps ds)(i:Vals dvs ds)(r:qbk CX X E)
  (p:eval (.Call (.Attribute o m apos) [] [] pos) X.env=(do
   let ov <- eval o X.env
   standAt apos.atName
   let (f,first) <- holding [ov] (getMethod ov m pl)
   callWith pos f first (backTo pos (starEach [] X.env)) (backToKw pos (keywordEach [] X.env))):=by rfl) :
  PE X (.Call (.Attribute o m apos) [] [] pos) (qeE C m sp dvs E ta qgO):=by
 intro pins s σ H Q I h;show PySem.W.methodCall_KW (pl:=pl) (thn (j pins s σ H _ I h) fun u y ⟨x,v,b,t,a,dx,fs,ex,e,l,q⟩=>?_) p;subst ex;obtain rfl:u=Value.ref a:=t;show qb9 b e c d l ?_;show PySem.W.callWith_K0 (first:=[.ref a]) b.kIn d.kp (qeF (us:=[.ref a]) (vs:=[.ref a]) F n g i r b (.cons rfl .nil) q)
structure Mk(K:yg)(C f:Addr):Prop where
 makes:PySem.W.makesIn K C=true
 init:PySem.W.findIn K (.ref C) "__init__"=some (some (.ref f))
 fn:PySem.W.isFn K (.ref f)=true
 kp:PySem.W.keepIn K (.ref C)=true
theorem run_make{Q:VK}(M:Mk X.K C f)(F:FnOk X.prog X.w X.K X.mg X.base CX k f fd ps sp)(n:Room (k+1) X.A)(l:Binds X.K fd ps ds)(m:Vals dvs ds)
  (o:qbk CX X E) (I:Inv X pins σ H s) (r:Vals vs us)
  (h:∀ x dx,H x=none->H dx=none->dx≠x->sp (.ref x::(vs++dvs)) (upd (upd H dx (.own x)) x (.ins C dx [])) (fun v g=>v=.non/\Q (.ref x) g) E) :
  wpAny (model X.prog X.w) X.A (call (.ref C) us) (EP X pins σ Q) X.xe s:=by
 have c:=h (s.heap.objs.size+1) s.heap.objs.size (I.hok.fresh (xS _)) (I.hok.fresh (yh _)) (yT (X7 _));have b:=Inv.made (C:=C) I;have d:Vals (V.ref (s.heap.objs.size+1)::(vs++dvs)) (Value.ref (s.heap.objs.size+1)::(us++ds)):=.cons rfl (r.append m)
 have hl:(Value.ref (s.heap.objs.size+1)::us++ds).length=ps.length:=by
  have e:=d.length;rw[F.len _ _ _ _ c] at e;show e.symm
 show kD (make_map (f:=f) I.kIn M.makes M.init (Yy.mp M.fn) (kC (F.run _ X.stack _ _ ⟨Value.ref (s.heap.objs.size+1)::us,[]⟩ (Value.ref (s.heap.objs.size+1)::(us++ds)) _ _ E (n.make C us [])
  (b.env0.make C us []) (l _ (Value.ref (s.heap.objs.size+1)::us) b.kIn hl) d c) fun r s' a=>?_))
 cases r with
 | error e=>show o pins σ _ _ e s' b a
 | ok fl =>
  cases fl with
  | ret u =>
   obtain⟨v,H',i,q,j,p⟩:=b.after a;subst j;show⟨q,⟨V.ref (s.heap.objs.size+1),H',i,rfl,p⟩⟩
  | next=>show False.elim a
  | brk=>show False.elim a
  | cont=>show False.elim a
theorem pe_make(M:Mk X.K C f)(F:FnOk X.prog X.w X.K X.mg X.base CX k f fd ps sp)(n:Room (k+1) X.A)(l:Gl X x)(m:X.mg x=some (.ref C))(g:Binds X.K fd ps ds)(i:Vals dvs ds)(o:qbk CX X E)
  (d:PA X (e::es) t) (a:(x==("__debug__":Str))=false:=by decide) (j:starEach (e::es) X.env=(false,eval e X.env)::starEach es X.env:=by rfl) (b:(backTo pos (starEach es X.env)).any (·.1)=false:=by rfl) :
  PE X (.Call (.Name x p) (e::es) [] pos) (qf1 C sp dvs E t):=by
 intro pins s σ H Q I h;show XV (qdp I l m ?_ a);show kE (h₀:=X.base) I.ok.mod.kin M.kp (thn (d pos pins s σ H _ I h) fun us v ⟨vs,u,c,r,q⟩=>⟨c.kIn,?_⟩) j b;show run_make M F n g i o c r q
end
section
variable{X:Cx}{CX:CXT}{k:Nat}{f C:Addr}{fd:FuncData}{ps ks:LS}{sp:Sp}{E:XK}{x m:Str}{p pos apos kpos:Pos}{e o:Expr}{es:List Expr}{kws:List Keyword}{te ta:TE}{t tk:TA}{nm:Option Str}
structure KBinds(K:yg)(fd:FuncData)(ps ks:LS)(g:List Value->List Value->List Value)(gV:List V->List V->List V):Prop where
 to:∀(s:Shared) (us ws:List Value),K.In s.heap->(g us ws).length=ps.length->BindsTo s fd ⟨us,ks.zip ws⟩ (ps.zip (g us ws))
 rel:∀{vs:List V} {us:List Value} {zs:List V} {ws:List Value},Vals vs us->Vals zs ws->Vals (gV vs zs) (g us ws)
variable{g:List Value->List Value->List Value}{gV:List V->List V->List V}
end
structure FnScope(N P:LS)(sc:Scope):Prop where
 kind:sc.kind=.function
 co:sc.isCoroutine=false
 gen:sc.isGenerator=false
 nd:N.Nodup
 pre:N.take P.length=P
 par:∀ x∈P,sc.names.lookup x=some .local\/sc.names.lookup x=some .cell
 nofree:∀ y∈sc.names,y.2≠.free
theorem fS{P:LS}(a:sc.kind=.function:=by rfl)(b:sc.isCoroutine=false:=by rfl)(c:sc.isGenerator=false:=by rfl)(d:N.Nodup:=by room)(e:N.take P.length=P:=by rfl)(f:∀ x∈P,sc.names.lookup x=some .local\/sc.names.lookup x=some .cell:=by room)(g:∀ y∈sc.names,y.2≠.free:=by room):FnScope N P sc:=⟨a,b,c,d,e,f,g⟩
theorem qcM:∀{binds:List (Str×Value)} {m:Str->Option Value},(∀ v,(x,v)∉binds)->bindL kindOf binds m x=m x
 | [],_,_=>rfl
 | (n,v)::r,m,h=>by
  unfold bindL;rw[qcM fun w hw=>h w (yC _ hw)];split
  .have:x≠n:=by rintro rfl;show h v yU
   simp[this]
  .rfl
theorem qcN:∀{binds:List (Str×Value)} {m:Str->Option Value},(∀ v,(x,v)∉binds)->bindC kindOf binds m x=m x
 | [],_,_=>rfl
 | (n,v)::r,m,h=>by
  unfold bindC;rw[qcN fun w hw=>h w (yC _ hw)];split
  .rfl
  .have:x≠n:=by rintro rfl;show h v yU
   simp[this]
theorem qcO{v:Value}:∀{P:LS} {vs:List Value} {i:Nat} {m:Str->Option Value},P.Nodup->P[i]?=some x->vs[i]?=some v->kindOf x=some .local ->
  bindL kindOf (P.zip vs) m x=some v
 | [],_,_,_,_,h,_,_=>by simp at h
 | _::_,[],_,_,_,_,h,_=>by simp at h
 | p::P,w::vs,0,m,nd,h1,h2,hk=>by
  simp at h1 h2;subst h1;subst h2;show bindL kindOf ((p,w)::P.zip vs) m p=_;unfold bindL;rw[qcM fun v hv=>(yo.mp nd).1 (k9 hv).1,yG hk];simp
 | p::P,w::vs,i+1,m,nd,h1,h2,hk=>by
  show bindL kindOf ((p,w)::P.zip vs) m x=_;unfold bindL;show qcO (i:=i) (yo.mp nd).2 (by simpa using h1) (by simpa using h2) hk
theorem qcP{v:Value}:∀{P:LS} {vs:List Value} {i:Nat} {m:Str->Option Value},P.Nodup->P[i]?=some x->vs[i]?=some v->kindOf x≠some .local ->
  bindC kindOf (P.zip vs) m x=some v
 | [],_,_,_,_,h,_,_=>by simp at h
 | _::_,[],_,_,_,_,h,_=>by simp at h
 | p::P,w::vs,0,m,nd,h1,h2,hk=>by
  simp at h1 h2;subst h1;subst h2;show bindC kindOf ((p,w)::P.zip vs) m p=_;unfold bindC;rw[qcN fun v hv=>(yo.mp nd).1 (k9 hv).1,yB hk];simp
 | p::P,w::vs,i+1,m,nd,h1,h2,hk=>by
  show bindC kindOf ((p,w)::P.zip vs) m x=_;unfold bindC;show qcP (i:=i) (yo.mp nd).2 (by simpa using h1) (by simpa using h2) hk
def start(N:LS)(vs:List V):St:=vs.map some++List.replicate (N.length-vs.length) none
def qgb(CX:CXT)(P:Program)(w:World)(K:yg)(mg:Str->Option Value)(base:Heap)(N:LS)(qual:Str)(scope:Scope)(f:Addr)(b:Value)(A:Around)(outer:List Env)(s:Shared)(H:Hp)(E:XK):Cx where
 prog:=P
 w:=w
 K:=K
 mg:=mg
 base:=base
 A:=A.deeper (envOfC qual scope s.heap.objs.size f b)
 N:=N
 s₀:=s
 H₀:=H
 env:=envOfC qual scope s.heap.objs.size f b
 outer:=outer
 stack:=envOfC qual scope s.heap.objs.size f b::outer
 ex:=[]
 calm:=true
 fn:=fun _=>true
 pn:=[]
 xe:=fun e s'=>wpAny (model P w) (A.deeper (envOfC qual scope s.heap.objs.size f b)) (leaving (envOfC qual scope s.heap.objs.size f b) e) (fun _ a=>CX outer H s E e a) (fun c a=>CX outer H s E c a) s'
theorem qdU(h:sc.names.lookup x=some .cell):∃ c,(cellsFrom n sc.names []).lookup x=some c:=by
 have q:=PySem.W.cellsFrom_some sc.names n [] (.inl h);show xj.mp q
theorem inv_start{K:yg}{f:Addr}{o:Value}{D:Shared}{E:XK}
  (S:FnScope N ps scope) (G:A.handled=none) (g:Env0 P w K mg base A outer s H) (hl:vs.length=ps.length) (r:Vals vs us)
  (x:InCallC s s.heap.objs.size (bindL (envOfC qual scope s.heap.objs.size f o).kindOf (ps.zip us) fun _=>none) (cellsFrom (s.heap.objs.size+1) scope.names []) (bindC (envOfC qual scope s.heap.objs.size f o).kindOf (ps.zip us) fun _=>none) D) :
  Inv (qgb CX P w K mg base N qual scope f o A outer s H E) [] (start N vs) H D:=by
 have I:ps.length<=N.length:=by have:=congrArg List.length S.pre;rw[yQ] at this;lk
 obtain⟨h1,tk,rfl,B⟩:=x.done;have j:∀ b:Addr,b∉(qgb CX P w K mg base N qual scope f o A outer s H E).ex:=fun b z=>absurd (show b∈([]:LQ) from z) (by simp);show⟨⟨g.mod,S.kind,rfl,rfl,yh _,fun y z c h1 d=>?_,fun y hy=>?_,fun y c _ h=>?_,fun _=>G,Around.frames_deeper g.frames,.inr ⟨rfl,rfl⟩,fun b z=>absurd z (j b),g.bs,g.bsz,fun b _ _=>j b,fun b z=>absurd z (j b),g.funs,g.frf⟩,
  rfl,g.bare,Un.kept B,⟨_,x.toInCall.ns,fun i y v h1 d L=>?_⟩,fun y c h=>⟨_,x.cell y c h⟩,g.hok.fresh (yh _),fun y c h=>?_,fun p l=>absurd (show p∈([]:List (Addr×Obj)) from l) (by simp),g.hok.kept B,?_⟩
 .show name_of_addr x.apart (xX h1) (xX d)
 .have hy:scope.names.lookup y=some .cell\/scope.names.lookup y=some .free:=hy;rcases hy with hy | hy
  .show qdU hy
  .show absurd rfl (S.nofree _ (xX hy))
 .show yX (x.above y c (xX h))
 .have t:i<vs.length:=by
   unfold start at d;by_cases t:i<vs.length
   .show t
   .rw [yO (by simpa using t)] at d;rw[Xc] at d;split at d<;>cases d
  have F:vs[i]?=some v:=by
   unfold start at d;rw[Yg (by simpa using t),yd] at d
   cases e:vs[i]? with
   | none=>rw[e] at d;cases d
   | some a=>rw[e] at d;cases d;rfl
  obtain⟨u,C,J⟩:=r.get F
  have l:ps[i]?=some y:=by
   rw[<- S.pre,List.getElem?_take_of_lt (by lk)];show h1
  have m:ps.Nodup:=by rw[<- S.pre];show S.nd.sublist (X0 _ _)
  show⟨u,J,?_⟩;rcases S.par y (ye l) with k | k
  .show .inl ⟨k,qcO m l C k⟩
  .obtain⟨c,e⟩:=qdU (n:=s.heap.objs.size+1) k;show .inr ⟨.inl k,c,e,?_⟩;have q:=x.cell y c e;rw[qcP m l C (by show scope.names.lookup y≠_;rw[k];decide)] at q;show q
 .show g.hok.fresh (yX (x.above y c (xX h)))
 .unfold start;show _=N.length;rw[yt,ya,YL];lk
theorem fn_of{K:yg}{k:Nat}{f:Addr}{name:Str}{c:Arguments}{O kV j R a ct oc:Value}{M od:Option Addr}
  {F:Array (Option Value)} {sp:Sp} (lk:K.lookup f=some ⟨oc,od,.func (PySem.W.fnOf name qual c body scope O kV j R M a ct),F⟩) (B:PySem.W.codeIn K a qual=true) (S:FnScope N ps scope)
  (z:∀ vs H Q E,sp vs H Q E->vs.length=ps.length)
  (g:∀(A:Around) (outer:List Env) (s:Shared) (H:Hp) (vs:List V) (Q:VK) (E:XK),Room k (A.deeper (envOfC qual scope s.heap.objs.size f a))->sp vs H Q E ->
   ∃ t,PSs (qgb CX P w K mg base N qual scope f a A outer s H E) body t/\t { nx:=fun _ H'=>Q .non H',rt:=Q } (start N vs) H) :
  FnOk P w K mg base CX (k+1) f (PySem.W.fnOf name qual c body scope O kV j R M a ct) ps sp:=by
 show⟨z,fun A outer s H args us vs Q E C l X r p=>?_⟩;have hl:=z _ _ _ _ p;have L:K.In s.heap:=l.mod.kin.keeps fun b o e=>(l.bs b o e).1;have D:s.heap.NoLimit:=l.mod.nolimit.keeps fun b o e=>(l.bs b o e).1
 have h:∀ y∈ps.zip us,scope.names.lookup y.1=some .local\/(scope.names.lookup y.1=some .cell/\((cellsFrom (s.heap.objs.size+1) scope.names []).lookup y.1).isSome=true):=fun⟨n,v⟩ hy=>by
  rcases S.par n (k9 hy).1 with q | q
  .show .inl q
  .show .inr ⟨q,PySem.W.cellsFrom_some _ _ _ (.inl q)⟩
 show codeAny_call_function C.depth (L _ _ lk) rfl S.co S.gen rfl (PySem.W.codeRec_of L B) (X _ _ _ _ ?_);show wpAny_newFunctionEnv_cells S.kind h fun env Y T x=>?_;subst Y;show⟨D.keeps x.toInCall.keep,codeAny_func ?_⟩;obtain⟨t,ht,Z⟩:=g A outer s H vs Q E (C.deeper _) p;have I:Inv (qgb CX P w K mg base N qual scope f a A outer s H E) [] (start N vs) H T:=inv_start S C.hd l hl r x;show YY (ht [] T (start N vs) H _ I Z) (fun U s' i=>?_) fun e s' i=>i
 have m:∀{d:St} {H':Hp} {v:V} {u:Value},Inv (qgb CX P w K mg base N qual scope f a A outer s H E) [] d H' s'->RelV v u->Q v H'->CE outer P w H s Q u s':=
  fun{d H' v u} J G q=>⟨v,H',J.os,J.bare,J.base,J.hok,G,q⟩
 cases U with
 | ret u =>
  obtain⟨v,d,H',J,G,q⟩:=i;show m J G q
 | next =>
  obtain⟨d,H',J,q⟩:=i;show m (v:=V.non) (u:=Value.none) J rfl q
 | brk =>
  obtain⟨_,_,_,q⟩:=i;show False.elim q
 | cont =>
  obtain⟨_,_,_,q⟩:=i;show False.elim q
section
variable{X:Cx}{x:Str}{p pos:Pos}{e:Expr}{es:List Expr}{t:TA}{id T:String}{r:List V->Hp->VK->Prop}
def tCB(r:List V->Hp->VK->Prop)(t:TA):TE:=fun σ H Q=>t σ H fun vs a=>r vs a Q
theorem qp(hc:zU X (.builtin id) r)(i:Gl X x)(j:X.mg x=none)(hv:bootBuiltins x=some (.builtin id))(f:PA X (e::es) t)(l:x≠"__name__":=by decide)(a:(x==("__debug__":Str))=false:=by decide)
  (g:starEach (e::es) X.env=(false,eval e X.env)::starEach es X.env:=by rfl) (b:(backTo pos (starEach es X.env)).any (·.1)=false:=by rfl):PE X (.Call (.Name x p) (e::es) [] pos) (tCB r t):=by
 intro pins s σ H Q I h;show XV (qaM I i j hv ?_ l a);show PyProof.Rows.callWith_builtin1 (thn (f pos pins s σ H _ I h) fun us o ⟨vs,c,d,n,m⟩=>hc pins o σ c vs us Q d n m) g b
theorem qaO(hc:zU X (.type T) r)(i:Gl X x)(j:X.mg x=none)(hv:bootBuiltins x=some (.type T))(f:PA X (e::es) t)(l:x≠"__name__":=by decide)(a:(x==("__debug__":Str))=false:=by decide)
  (g:starEach (e::es) X.env=(false,eval e X.env)::starEach es X.env:=by rfl) (b:(backTo pos (starEach es X.env)).any (·.1)=false:=by rfl):PE X (.Call (.Name x p) (e::es) [] pos) (tCB r t):=by
 intro pins s σ H Q I h;show XV (qaM I i j hv ?_ l a);show YD (thn (f pos pins s σ H _ I h) fun us o ⟨vs,c,d,n,m⟩=>hc pins o σ c vs us Q d n m) g b
end
end L2
namespace HT
open PySem PyProof.Rows
variable{hi lo:Option Int}{sl t:Addr}{vl vu:Value}
def lexLt:LX->LX->Bool
 | [],[]=>false
 | [],_::_=>true
 | _::_,[]=>false
 | x::xs,y::ys=>if x=y then lexLt xs ys else decide (x<y)
section
open PySem.SeqAt
open PySem.AutoSeq1 (wpAny_loadPart')
open PySem.MeetsSeq PySem.MeetsSeq2 PySem.MeetsSeq3
end
section
variable{prog:Program}{w:World}{A:Around}{E:Value->Shared->Prop}{s:Shared}
theorem cat_tup{b:Addr}{vs a:List Value}{Q:Value->Shared->Prop}(u:IsTup s.heap t vs.toArray)(r:IsTup s.heap b a.toArray)(hv:vs≠[])
  (h1:a=[]->Q (.ref t) s) (q:a≠[]->Q (.ref s.heap.objs.size) { s with heap:=s.heap.push { cls:=.type "tuple",data:=.seq (vs++a).toArray } })
  (hsz:vs.length+a.length<=sizeLine):wpAny (model prog w) A (binaryOp .Add (.ref t) (.ref b)) Q E s:=by
 obtain⟨⟨cls,m,data,sl⟩,i,hc,n,o⟩:=id u;obtain⟨⟨l,d,j,h⟩,c,f,p,g⟩:=id r;simp only at hc o f g;subst hc o f g;have e:vs.toArray++a.toArray=(vs++a).toArray:=by simp
 by_cases hw:a=[]
 .show concat_meets ⟨_,i,rfl⟩ ⟨_,c,rfl⟩ noFill_tuple_add seq_tuple_add PySem.F.slot_tuple_add PySem.F.entry_tuple_add (PySem.F.args_tuple_add_2 _ _)
   (tuple_addW1 t b vs.toArray a.toArray n p m d sl h (by simpa using hv) (by simp[hw])) ⟨i,c,h1 hw⟩
 .show concat_meets ⟨_,i,rfl⟩ ⟨_,c,rfl⟩ noFill_tuple_add seq_tuple_add PySem.F.slot_tuple_add PySem.F.entry_tuple_add (PySem.F.args_tuple_add_2 _ _)
   (tuple_addW2 t b vs.toArray a.toArray n p m d sl h (by simpa using hv) (by simpa using hw) (by rw[yz,yz];show hsz)) ⟨i,c,?_⟩
  rw[e];show q hw
def sIx(n d:Nat):Option Int->Nat
 | none=>d
 | some v=>if v<0 then(v+(n:Int)).toNat else min v.toNat n
theorem sIx_none(n d:Nat):sIx n d none=d:=rfl
theorem sIx_nat(n d k:Nat):sIx n d (some (k:Int))=min k n:=by
 show(if (k:Int)<0 then((k:Int)+(n:Int)).toNat else min (k:Int).toNat n)=min k n;rw[yB (by lk),y0]
theorem sIx_le(n d:Nat)(a:d<=n)(o:Option Int):sIx n d o<=n:=by
 cases o with
 | none=>show a
 | some v =>
  show(if v<0 then(v+(n:Int)).toNat else min v.toNat n)<=n;by_cases hv:v<0
  .rw [yG hv];lk
  .rw [yB hv];show kO _ _
theorem qeG(v:Int)(n d:Nat):(if v<0 then max (v+(n:Int)) 0 else min v (n:Int))=((sIx n d (some v):Nat):Int):=by
 show(if v<0 then max (v+(n:Int)) 0 else min v (n:Int))=(((if v<0 then(v+(n:Int)).toNat else min v.toNat n):Nat):Int);by_cases hv:v<0
 .simp only[yG hv];lk
 .simp only[yB hv];lk
theorem adjust_gen(lo hi:Option Int)(n:Nat):Builtin.Slice.sliceAdjust lo hi 1 (n:Int)=(((sIx n 0 lo:Nat):Int),((sIx n n hi:Nat):Int)):=by
 have h1:¬ ((1:Int)<0):=by lk
 unfold Builtin.Slice.sliceAdjust;simp only[h1,Xw];show Xd ?_ ?_
 .cases lo with
  | none=>rfl
  | some v=>show qeG v n 0
 .cases hi with
  | none=>rfl
  | some v=>show qeG v n n
theorem places_gen(i j:Nat):Builtin.Slice.slicePlaces (i:Int) (j:Int) 1=j-i:=by
 unfold Builtin.Slice.slicePlaces;have h1:(1:Int)>0:=by lk
 simp only[h1,XD,Int.ediv_one];split<;>lk
theorem qca{v:Value}{o:Option Int}{Q:Option Int->Shared->Prop}(p:IsPart v o)(h:Q o s):wpAny (model prog w) A (Builtin.Slice.slicePartIndex v) Q E s:=by
 cases p with
 | none=>show slicePart_none h
 | int i t=>show slicePart_int h
theorem sliceApplied_gen{n:Nat}{Q:Int×Int×Nat->Shared->Prop}(d:s.heap.IsSliceOf sl vl vu .none)(pl:IsPart vl lo)(e:IsPart vu hi)
  (h:Q (((sIx n 0 lo:Nat):Int),1,sIx n n hi-sIx n 0 lo) s):wpAny (model prog w) A (Builtin.Slice.sliceApplied (.ref sl) (pure (n:Int))) Q E s:=by
 obtain⟨f,b,c,a⟩:=id d;unfold Builtin.Slice.sliceApplied Builtin.Slice.sliceFields;show yr (yr (Xk b a (x:=vl) rfl (yr (Xk b a (x:=vu) rfl (yr (Xk b a (x:=.none) rfl (yv ?_)))))));show yr (slicePart_none ?_);show wpAny _ _ (if ((1:Int)==0)=true then _ else _) _ _ s;rw[yB (by decide)];show yr (qca pl (yr (qca e (yr (yv ?_)))));show wpAny _ _ (match Builtin.Slice.sliceAdjust lo hi 1 (n:Int) with | (lo,hi)=>pure (lo,(1:Int),Builtin.Slice.slicePlaces lo hi 1)) _ _ s;rw[adjust_gen lo hi n];show wpAny _ _ (pure (((sIx n 0 lo:Nat):Int),(1:Int),Builtin.Slice.slicePlaces ((sIx n 0 lo:Nat):Int) ((sIx n n hi:Nat):Int) 1)) _ _ s;rw[places_gen];show yv h
theorem pick_gen(xs:Array Value)(i k:Nat):((List.range k).filterMap fun(m:Nat)=>xs[((i:Int)+(m:Int)*1).toNat]?).toArray=((xs.toList.drop i).take k).toArray:=by
 have e:(fun(m:Nat)=>xs[((i:Int)+(m:Int)*1).toNat]?)=fun m=>xs[i+m]?:=by
  funext m;have:((i:Int)+(m:Int)*1).toNat=i+m:=by lk
  rw[this]
 rw[e];have:=pick_run xs i k;rw[List.filterMap_map] at this;have a:((fun x=>xs[x]?) ∘ fun x=>i+x)=fun m=>xs[i+m]?:=rfl;rw[a] at this;rw[this]
theorem getItem_tuple_cut{a:Array Value}{Q:Value->Shared->Prop}(c:IsTup s.heap t a)(i:s.heap.IsSliceOf sl vl vu .none)(pl:IsPart vl lo)(n:IsPart vu hi)
  (hw:¬ (sIx a.size 0 lo=0/\sIx a.size a.size hi=a.size))
  (h:Q (.ref s.heap.objs.size) { s with heap:=s.heap.push { cls:=.type "tuple",data:=.seq ((a.toList.drop (sIx a.size 0 lo)).take (sIx a.size a.size hi-sIx a.size 0 lo)).toArray } })
  (hsz:a.size<=sizeLine):wpAny (model prog w) A (getItem (.ref t) (.ref sl)) Q E s:=by
 have b:sizeOk (.seq ((a.toList.drop (sIx a.size 0 lo)).take (sIx a.size a.size hi-sIx a.size 0 lo)).toArray):=by
  show((a.toList.drop (sIx a.size 0 lo)).take (sIx a.size a.size hi-sIx a.size 0 lo)).toArray.size<=sizeLine;rw[yz,yQ,X8,xW];lk
 have o:sIx a.size a.size hi<=a.size:=sIx_le _ _ (yh _) hi;obtain⟨l,g,e,j⟩:=id i;have d:s.TypeIs (.ref sl) "slice":=⟨l,g,e⟩;unfold getItem
 try with_reducible show Yz ?_
 first | show yr (yv ?_) | skip
 show yr (wpAny_sequenceKey c.typeIs (by decide) ?_);show yr (XX (name:=Str.ofString "__getitem__") c.typeIs xV
  (XE xV c.typeIs entry_tuple_getitem ?_ (args_tuple_getitem _ _)))
 show wpAny _ _ (Builtin.Tuple.tupleItemsOf (.ref t)>>=_) _ _ s;show yr (tupleItemsOf_ c ?_);show yr (wpAny_typeOf d ?_);rw[yG (by decide)];show yr (sliceApplied_gen i pl n ?_)
 have f:¬ ((((sIx a.size 0 lo:Nat):Int)==0&&(1:Int)==1&&(sIx a.size a.size hi-sIx a.size 0 lo)==a.size)=true):=by
  intro q;rw[yY,yY] at q;have p:((sIx a.size 0 lo:Nat):Int)=0:=eq_of_beq q.1.1;have r:sIx a.size a.size hi-sIx a.size 0 lo=a.size:=eq_of_beq q.2;show hw ⟨by lk,by lk⟩
 show wpAny _ _ (if (((sIx a.size 0 lo:Nat):Int)==0&&(1:Int)==1&&(sIx a.size a.size hi-sIx a.size 0 lo)==a.size)=true then _ else _) _ _ s;rw[yB f,pick_gen]
 first
  | show yr (m:=Builtin.Tuple.tupleExact _) (xT (yv ⟨_,rfl,yv h⟩) b)
  | show yr (m:=Builtin.Tuple.tupleExact _) (xT (yr (yv (yv ⟨_,rfl,yv h⟩))) b)
  | show yr (yr (m:=Builtin.Tuple.tupleExact _) (xT (yv (yv ⟨_,rfl,yv h⟩)) b))
  | show yr (yr (m:=Builtin.Tuple.tupleExact _) (xT (yv ⟨_,rfl,yv h⟩) b))
end
end HT
namespace L2
open PySem PySem.Spec PyProof.Rows
variable{A:Around}{H H':Hp}{P:Program}{X:Cx}{a p:Addr}{h':Heap}{i:Int}{its its' us:List Value}{j n t':Nat}{kvs:List (List Key×V)}{o:Option V}{pins:List (Addr×Obj)}{r:R2}{s:Shared}{u v:Value}{w:World}{x y:V}{xs:List V}{α:Type}{σ:St}
abbrev TO:=St->Hp->(Option Int->Hp->Prop)->Prop
def PO(X:Cx)(e:Option Expr)(t:TO):Prop:=
 ∀(pins:List (Addr×Obj)) (s:Shared) (σ:St) (H:Hp) (Q:Option Int->Hp->Prop),Inv X pins σ H s->t σ H Q ->
  wpAny (model X.prog X.w) X.A (evalPart e X.env) (fun u a=>∃ o H',Inv X pins σ H' a/\IsPart u o/\Q o H') X.xe s
def qeH:TO:=fun _ H Q=>Q none H
def qgq(t:TE):TO:=fun σ H Q=>t σ H fun x a=>∃ i,x=.int i/\Q (some i) a
section
variable{X:Cx}{e:Expr}{te:TE}{lo hi:Option Expr}{tl th:TO}{pos p2:Pos}
theorem jV:PO X none qeH:=by
 intro pins s σ H Q I h;rw[evalPart_none];show yv ⟨none,H,I,.none,h⟩
theorem jF(h:PE X e te):PO X (some e) (qgq te):=by
 intro pins s σ H Q I hw;rw[evalPart_some];show thn (h pins s σ H _ I hw) fun u f ⟨x,a,b,d,c⟩=>?_;obtain⟨i,rfl,q⟩:=c;obtain⟨t,rfl⟩:=d;show⟨some i,a,b,.int i t,q⟩
def SlR(X:Cx)(r:V->Option Int->Option Int->Hp->VK->Prop):Prop:=
 ∀(pins:List (Addr×Obj)) (s:Shared) (σ:St) (H:Hp) (x:V) (v b c:Value) (lo hi:Option Int) (a:Addr) (Q:VK),Inv X pins σ H s->RelV x v->s.heap.IsSliceOf a b c .none->IsPart b lo->IsPart c hi->r x lo hi H Q ->
  ∃ T id,typeLookup (.type T) "__getitem__"=pure (some (.builtin id))/\s.TypeIs v T/\wpAny (model X.prog X.w) X.A (getItem v (.ref a)) (EP X pins σ Q) X.xe s
def tSl(r:V->Option Int->Option Int->Hp->VK->Prop)(te:TE)(tl th:TO):TE:=fun σ H Q=>te σ H fun x a=>tl σ a fun l b=>th σ b fun u c=>r x l u c Q
theorem jt{r:V->Option Int->Option Int->Hp->VK->Prop}(z:SlR X r)(t:PE X e te)(hl:PO X lo tl)(C:PO X hi th):PE X (.Subscript e (.Slice lo hi none p2) pos) (tSl r te tl th):=by
 intro pins s σ H Q I h;show Subscript_ (thn (t pins s σ H _ I h) fun v K ⟨x,g,j,J,E⟩=>?_);show wpAny_Slice (thn (hl pins K σ g _ j E) fun c L ⟨l,i,m,pl,F⟩=>thn (C pins L σ i _ m F) fun d a ⟨u,f,n,D,G⟩=>?_);rw[evalPart_none];show yv ?_;have o:Inv X pins σ f { a with heap:=a.heap.push { cls:=.type "slice",data:=.fields #[c,d,.none] } }:=n.kept (t':=a.toks) fun b M q=>yw _ q;obtain⟨T,id,p,B,y⟩:=z pins { a with heap:=a.heap.push { cls:=.type "slice",data:=.fields #[c,d,.none] } } σ f x v c d l u a.heap.objs.size Q o J (Heap.IsSliceOf.new ..) pl D G;show wpAny (model X.prog X.w) X.A (subscriptTail e (.Slice lo hi none p2) v (.ref a.heap.objs.size)) (EP X pins σ Q) X.xe { a with heap:=a.heap.push { cls:=.type "slice",data:=.fields #[c,d,.none] } };show tail_any (ops:=[.ref a.heap.objs.size,v]) B p y (by with_unfolding_all rfl)
def qcQ(xs:List V)(lo hi:Option Int):List V:=(xs.drop (HT.sIx xs.length 0 lo)).take (HT.sIx xs.length xs.length hi-HT.sIx xs.length 0 lo)
theorem qbK(xs:List V)(lo hi:Option Int):(qcQ xs lo hi).length<=xs.length:=by
 unfold qcQ;rw[yQ,X8];lk
inductive rSlT(K:yg)(x:V)(lo:Option Int)(hi:Option Int)(H:Hp)(Q:VK):Prop|mk (a xs:_) (_:x=.ref a) (_:SqT K H a xs) (_:¬ (HT.sIx xs.length 0 lo=0/\HT.sIx xs.length xs.length hi=xs.length)) (_:∀ p,H p=none->Q (.ref p) (upd H p (.tup (qcQ xs lo hi))))
theorem sl_tup:SlR X (rSlT X.K):=by
 intro pins s σ H x v m n lo hi l Q I i e pl g h;obtain⟨a,xs,rfl,f,hw,q⟩:=h;cases i;obtain⟨its,r,d,hz⟩:=I.tuple f;have c:its.toArray.size=xs.length:=by rw[yz];show r.length.symm
 show⟨"tuple",_,xV.lookup,d.typeIs,?_⟩;show HT.getItem_tuple_cut d e pl g (by rw[c];show hw) ?_ (by rw[c];show hz);rw[c];show⟨.ref s.heap.objs.size,_,I.laid (t':=s.toks) (o:=.tup (qcQ xs lo hi)) (fun b j q=>yw _ q) (yh _) ?_,rfl,q _ (I.hok.fresh (yh _))⟩;show⟨yi (qbK xs lo hi) hz,_,(r.drop (HT.sIx xs.length 0 lo)).take (HT.sIx xs.length xs.length hi-HT.sIx xs.length 0 lo),IsTup.new _ _⟩
inductive rLtT(K:yg)(x:V)(y:V)(H:Hp)(Q:VK):Prop|mk (a b ns ms:_) (_:x=.ref a) (_:y=.ref b) (_:SqT K H a (ns.map V.int)) (_:SqT K H b (ms.map V.int)) (_:Q (.bl (HT.lexLt ns ms)) H)
inductive rCatT(K:yg)(x:V)(y:V)(H:Hp)(Q:VK):Prop|mk (a b xs ys:_) (_:x=.ref a) (_:y=.ref b) (_:SqT K H a xs) (_:SqT K H b ys) (_:xs≠[]) (_:xs.length+ys.length<=sizeLine) (_:(ys=[]->Q (.ref a) H)) (_:(ys≠[]->∀ p,H p=none->Q (.ref p) (upd H p (.tup (xs++ys)))))
theorem Vals.nil_iff(r:Vals xs us):us=[]↔xs=[]:=by
 cases r with
 | nil=>simp
 | cons _ _=>simp
theorem op_catT:OpR X (binaryOp .Add) (rCatT X.K):=by
 intro pins s σ H x y v u Q I n p h;obtain⟨a,b,xs,ys,rfl,rfl,f,g,i,hz,l,m⟩:=h;cases n;cases p;obtain⟨its,d,j,_⟩:=I.tuple f;obtain⟨e,c,p2,_⟩:=I.tuple g;show HT.cat_tup j p2 (fun z=>i (d.nil_iff.mp z)) (fun z=>⟨.ref a,H,I,rfl,l (c.nil_iff.mp z)⟩) (fun z=>?_) (by rw[<- d.length,<- c.length];show hz);show⟨.ref s.heap.objs.size,_,I.laid (t':=s.toks) (o:=.tup (xs++ys)) (fun b r q=>yw _ q) (yh _) ?_,rfl,m (fun w=>z (c.nil_iff.mpr w)) _ (I.hok.fresh (yh _))⟩;show⟨by rw[yt];show hz,_,d.append c,IsTup.new _ _⟩
end
def ixN(n:Nat)(i:Int):Option Nat:=if 0<=i then(if i<n then some i.toNat else none) else if -(n:Int)<=i then some (i+n).toNat else none
def atI{α:Type}(xs:List α)(i:Int):Option α:=(ixN xs.length i).bind fun j=>xs[j]?
theorem qeI(h:ixN n i=some j):seqIndex? i n=some j/\j<n/\-(n:Int)<=i/\i<n:=by
 unfold ixN at h;by_cases a:0<=i
 .rw [yG a] at h;by_cases h1:i<n
  .rw [yG h1] at h;have e:i.toNat=j:=ym h;show⟨by rw[seqIndex_of a h1,e],by lk,by lk,h1⟩
  .rw [yB h1] at h;cases h
 .rw [yB a] at h;by_cases h1:-(n:Int)<=i
  .rw [yG h1] at h;have e:(i+n).toNat=j:=ym h;show⟨by rw[seqIndex_neg (by lk) h1,e],by lk,h1,by lk⟩
  .rw [yB h1] at h;cases h
theorem qds{xs:List α}{v:α}(h:atI xs i=some v):∃ j,seqIndex? i xs.length=some j/\xs[j]?=some v/\j<xs.length/\-(xs.length:Int)<=i/\i<xs.length:=by
 unfold atI at h
 cases e:ixN xs.length i with
 | none=>rw[e] at h;cases h
 | some j =>
  rw[e] at h;obtain⟨h1,a,b,c⟩:=qeI e;show⟨j,h1,h,a,b,c⟩
theorem qv{xs:List α}{v:α}(h:xs[j]?=some v):atI xs (j:Int)=some v:=by
 have a:j<xs.length:=(yc.mp h).1
 have e:ixN xs.length (j:Int)=some j:=by
  unfold ixN;rw[yG (by lk),yG (by lk)];simp
 unfold atI;rw[e];show h
theorem atI_last(xs:List α)(v:α):atI (xs++[v]) (-1)=some v:=by
 have hl:(xs++[v]).length=xs.length+1:=by simp
 have e:ixN (xs++[v]).length (-1)=some xs.length:=by
  unfold ixN;rw[hl,yB (by decide),yG (by lk)]
  congr 1
  lk
 unfold atI;rw[e];show(xs++[v])[xs.length]?=some v;simp
def PlainIx(b:Expr):Prop:=∀ o i,subscripted b false o i=operate [o,i] (getItem o i)
def IxR(X:Cx)(r:R2):Prop:=
 ∀(b a:Expr) (pins:List (Addr×Obj)) (s:Shared) (σ:St) (H:Hp) (x y:V) (v u:Value) (Q:VK),Inv X pins σ H s->RelV x v->RelV y u->r x y H Q ->
  subscripted a false v u=operate [v,u] (getItem v u)->wpAny (model X.prog X.w) X.A (subscriptTail b a v u) (EP X pins σ Q) X.xe s
def MtR(X:Cx)(id:String)(r:V->List V->Hp->VK->Prop):Prop:=
 ∀(pins:List (Addr×Obj)) (s:Shared) (σ:St) (H:Hp) (x:V) (xs:List V) (v:Value) (us:List Value) (Q:VK),Inv X pins σ H s->RelV x v->Vals xs us->r x xs H Q ->
  wpAny (model X.prog X.w) X.A (call (.builtin id) (v::us)) (EP X pins σ Q) X.xe s
section
variable{X:Cx}{a b:Expr}{ta tb:TE}{pos:Pos}
theorem IxR.or{d:R2}(h:IxR X r)(h':IxR X d):IxR X (fun x y H Q=>r x y H Q\/d x y H Q):=by
 intro b a pins s σ H x y v u Q I e f q c;rcases q with q | q
 .show h b a pins s σ H x y v u Q I e f q c
 .show h' b a pins s σ H x y v u Q I e f q c
theorem qr(g:IxR X r)(e:PE X a ta)(f:PE X b tb)(i:PlainIx b):PE X (.Subscript a b pos) (tOp r ta tb):=by
 intro pins s σ H Q I h;show Subscript_ (qgU e f I h fun v u m x y c d j l q=>g a b pins m σ c x y v u Q d j l q (i _ _))
inductive rIxL(K:yg)(x:V)(y:V)(H:Hp)(Q:VK):Prop|mk (p xs i v:_) (_:x=.ref p) (_:y=.int i) (_:SqL K H p xs) (_:atI xs i=some v) (_:Q v H)
inductive rIxT(K:yg)(x:V)(y:V)(H:Hp)(Q:VK):Prop|mk (p xs i v:_) (_:x=.ref p) (_:y=.int i) (_:SqT K H p xs) (_:atI xs i=some v) (_:Q v H)
inductive rIxS(x:V)(y:V)(H:Hp)(Q:VK):Prop|mk (z i c:_) (_:x=.str z) (_:y=.int i) (_:z.length<=sizeLine) (_:atI z.cps.toList i=some c) (_:Q (.str ⟨#[c]⟩) H)
theorem ix_list:IxR X (rIxL X.K):=by
 intro e d pins s σ H x y v u Q I C D h l;obtain⟨p,xs,i,z,rfl,rfl,B,A,q⟩:=h;cases C;obtain⟨t,rfl⟩:=D;obtain⟨its,r,pl,hz⟩:=I.list B;obtain⟨j,h1,m,F,n,o⟩:=qds A;obtain⟨w,f,c⟩:=r.get m;have hl:=r.length;have G:=qb8;have a:EP X pins σ Q w s:=⟨z,H,I,c,q⟩;by_cases g:0<=i
 .have b:i.toNat=j:=by
   rw[seqIndex_of g o] at h1;show ym h1
  show item_listR pl.isList g (by lk) (by rw[b];simpa using f) a l
 .have b:(i+(its.toArray.size:Int)).toNat=j:=by
   rw[seqIndex_neg (by lk) n] at h1;rw[yz,<- hl];show ym h1
  show subscriptTail_builtinR (x:=w) pl.isList.typeIs kH.lookup
   (wpAny_getItem_list_neg (Q:=fun r E=>r=w/\EP X pins σ Q r E) pl.isList (by lk) (by rw[yz]<;>lk) (by lk) (by rw[b];simpa using f) ⟨rfl,a⟩) l
theorem ix_tup:IxR X (rIxT X.K):=by
 intro d c pins s σ H x y v u Q I n o h m;obtain⟨p,xs,i,z,rfl,rfl,l,g,q⟩:=h;cases n;obtain⟨t,rfl⟩:=o;obtain⟨its,r,pl,hz⟩:=I.tuple l;obtain⟨j,h1,f,B,C,D⟩:=qds g;obtain⟨w,e,b⟩:=r.get f;have hl:=r.length;have E:=qb8;have a:EP X pins σ Q w s:=⟨z,H,I,b,q⟩;show subscriptTail_builtinR (x:=w) pl.typeIs slot_tuple_getitem.lookup
  (getItem_tuple (j:=j) (Q:=fun r A=>r=w/\EP X pins σ Q r A) pl (by lk) (by lk) (by rw[yz,<- hl];show h1) (by simpa using e) ⟨rfl,a⟩) m
theorem ix_str:IxR X rIxS:=by
 intro b a pins s σ H x y v u Q I o p h n;obtain⟨z,i,c,rfl,rfl,hz,m,q⟩:=h;obtain⟨t,rfl⟩:=o;obtain⟨t',rfl⟩:=p;obtain⟨j,h1,f,r,g,l⟩:=qds m;have hl:z.cps.toList.length=z.length:=by simp[Str.length]
 rw[hl] at h1 g l;have w:=qb8
 show tail_any (typeIs_str s z t) slot_str_getitem.lookup (getItem_str (c:=c) (by
  have d:decide (i < -(2 ^ 63:Int))=false:=yl (by lk);have e:decide (i ≥ 2 ^ 63)=false:=yl (by lk);rw[d,e,kK]) (by rw[h1];simpa using f) ⟨.str ⟨#[c]⟩,H,I.tok _,⟨_,rfl⟩,q⟩) n
def rIx(K:yg):R2:=fun x y H Q=>rIxL K x y H Q\/rIxT K x y H Q\/rIxS x y H Q
theorem ix_seq:IxR X (rIx X.K):=ix_list.or (ix_tup.or ix_str)
theorem mapSeq_set(its:List Value)(n j:Nat)(u:Value):Obj.mapSeq (·.setIfInBounds j u) { cls:=.type "list",data:=.seq its.toArray n }={ cls:=.type "list",data:=.seq (its.set j u).toArray n }:=by
 simp[Obj.mapSeq]
theorem Inv.lst(I:Inv X pins σ H s)(h:H p=some (.lst xs)) :
  ∃(its:List Value) (n:Nat),Vals xs its/\s.heap.get? p=some { cls:=.type "list",data:=.seq its.toArray n }/\xs.length<=sizeLine:=by
 obtain⟨z,its,n,r,e⟩:=I.hok p _ h;show⟨its,n,r,e,z⟩
theorem Inv.lstUpd{ys:List V}{a:Nat}{f:Obj->Obj}(I:Inv X pins σ H s)(h:H p=some (.lst xs))
  (g:s.heap.get? p=some { cls:=.type "list",data:=.seq its.toArray n }) (c:f { cls:=.type "list",data:=.seq its.toArray n }={ cls:=.type "list",data:=.seq its'.toArray a }) (r:Vals ys its') (hz:ys.length<=sizeLine) (t:Nat) :
  Inv X pins σ (upd H p (.lst ys)) { s with heap:=s.heap.update p f,toks:=t }:=by
 have e:(s.heap.update p f).get? p=some { cls:=.type "list",data:=.seq its'.toArray a }:=by
  rw[Y7 f g (by rw[c]<;>rfl),c]
 show I.write (x:=p) (e:=p) (by rw[h];trivial) (.inl rfl) (fun b u d q=>(Heap.get?_update_other _ _ (Ym d)).trans q) ⟨_,e⟩ ?_;show⟨hz,its',a,r,e⟩
inductive rSetL(o:V)(i:V)(v:V)(H:Hp)(Q:(Hp->Prop)):Prop|mk (p xs k j:_) (_:o=.ref p) (_:i=.int k) (_:H p=some (.lst xs)) (_:ixN xs.length k=some j) (_:Q (upd H p (.lst (xs.set j v))))
theorem set_list:qgT X rSetL:=by
 intro pins s σ H o i v B A u Q I w m x h;obtain⟨p,xs,k,j,rfl,rfl,g,l,q⟩:=h;cases w;obtain⟨t,rfl⟩:=m;obtain⟨its,n,r,b,hz⟩:=I.lst g;obtain⟨h1,y,e,f⟩:=qeI l;have hl:=r.length;have z:=qb8
 have c:Inv X pins σ (upd H p (.lst (xs.set j v))) { s with heap:=s.heap.update p (Obj.mapSeq (·.setIfInBounds j u)) }:=
  I.lstUpd g b (mapSeq_set its n j u) (r.set x j) (by rw[xM];show hz) s.toks
 by_cases d:0<=k
 .have a:k.toNat=j:=by
   rw[seqIndex_of d f] at h1;show ym h1
  show PySem.W.ki_setAt b d (by lk) (by rw[yz,<- hl];show f) (by rw[a];show⟨_,c,q⟩)
 .have a:(k+(its.toArray.size:Int)).toNat=j:=by
   rw[seqIndex_neg (by lk) e] at h1;rw[yz,<- hl];show ym h1
  show PySem.W.ki_setBack b (by lk) (by rw[yz,<- hl];show e) (by lk) (by rw[a];show⟨_,c,q⟩)
theorem slice_bounds(lo a:Option Int)(n:Nat):(sliceBounds lo a none n).1=((HT.sIx n 0 lo:Nat):Int)/\(sliceBounds lo a none n).2.1=((HT.sIx n n a:Nat):Int)/\(sliceBounds lo a none n).2.2=1:=by
 show⟨?_,?_,rfl⟩
 .cases lo with
  | none=>simp[sliceBounds,HT.sIx]
  | some i =>
   simp only[sliceBounds,HT.sIx,Option.getD_none,show(1:Int)>0 by decide,XD];by_cases h:i<0
   .simp only[h,XD]<;>lk
   .simp only[h,Xw]<;>lk
 .cases a with
  | none=>simp[sliceBounds,HT.sIx]
  | some i =>
   simp only[sliceBounds,HT.sIx,Option.getD_none,show(1:Int)>0 by decide,XD];by_cases h:i<0
   .simp only[h,XD]<;>lk
   .simp only[h,Xw]<;>lk
theorem slicePick_cut(its:List Value)(lo a:Option Int):slicePick its.toArray lo a none=((its.drop (HT.sIx its.length 0 lo)).take (HT.sIx its.length its.length a-HT.sIx its.length 0 lo)).toArray:=by
 obtain⟨h1,b,c⟩:=slice_bounds lo a its.toArray.size;unfold slicePick;rw[h1,b,c];simp only[sliceRange_one,pick_run,yz]<;>rfl
inductive rSlL(K:yg)(x:V)(lo:Option Int)(hi:Option Int)(H:Hp)(Q:VK):Prop|mk (a xs:_) (_:x=.ref a) (_:SqL K H a xs) (_:∀ p,H p=none->Q (.ref p) (upd H p (.lst (qcQ xs lo hi))))
theorem sl_list:SlR X (rSlL X.K):=by
 intro pins s σ H x v n p lo d m Q I j f pl i h;obtain⟨a,xs,rfl,g,q⟩:=h;cases j;obtain⟨its,r,e,hz⟩:=I.list g;have c:=r.length;show⟨"list",_,kH.lookup,e.isList.typeIs,?_⟩;show wpAny_getItem_list_slice e.isList f pl i .none (by simp) ?_ (by rw[yz]<;>lk);rw[slicePick_cut,<- c];show⟨.ref s.heap.objs.size,_,I.laid (t':=s.toks) (o:=.lst (qcQ xs lo d)) (fun b l q=>yw _ q) (yh _) ?_,rfl,q _ (I.hok.fresh (yh _))⟩;show⟨yi (qbK xs lo d) hz,_,0,(r.drop (HT.sIx xs.length 0 lo)).take (HT.sIx xs.length xs.length d-HT.sIx xs.length 0 lo),yZ _ rfl⟩
def qaB:V->Bool
 | .non=>true
 | .bl _=>true
 | .int _=>true
 | .str _=>true
 | _=>false
def eqV:V->V->Bool
 | .non,.non=>true
 | .bl a,.bl b=>a==b
 | .bl a,.int b=>(if a then 1 else 0)==b
 | .int a,.bl b=>a==(if b then 1 else 0)
 | .int a,.int b=>a==b
 | .str a,.str b=>a==b
 | _,_=>false
theorem qeJ(e:RelV y u)(c:RelV x v)(f:qaB y=true)(d:qaB x=true):SeqAt.EqAt A s u v (eqV y x):=by
 cases y with
 | non =>
  cases e
  cases x with
  | non=>cases c;show kh _
  | bl b=>cases c;show SeqAt.EqAt.none_bool b
  | int b=>obtain⟨t,rfl⟩:=c;show SeqAt.EqAt.none_int b t
  | str b=>obtain⟨t,rfl⟩:=c;show SeqAt.EqAt.none_str b t
  | _=>show absurd (show false=true from d) Yu
 | bl a =>
  cases e
  cases x with
  | non=>cases c;show SeqAt.EqAt.bool_none a
  | bl b=>cases c;show SeqAt.EqAt.bool_bool a b
  | int b=>obtain⟨t,rfl⟩:=c;show SeqAt.EqAt.bool_int a b t
  | str b=>obtain⟨t,rfl⟩:=c;show SeqAt.EqAt.bool_str a b t
  | _=>show absurd (show false=true from d) Yu
 | int a =>
  obtain⟨t',rfl⟩:=e
  cases x with
  | non=>cases c;show SeqAt.EqAt.int_none a t'
  | bl b=>cases c;show SeqAt.EqAt.int_bool a t' b
  | int b=>obtain⟨t,rfl⟩:=c;show SeqAt.EqAt.int_int a t' b t
  | str b=>obtain⟨t,rfl⟩:=c;show SeqAt.EqAt.int_str a t' b t
  | _=>show absurd (show false=true from d) Yu
 | str a =>
  obtain⟨t',rfl⟩:=e
  cases x with
  | non=>cases c;show SeqAt.EqAt.str_none a t'
  | bl b=>cases c;show SeqAt.EqAt.str_bool a t' b
  | int b=>obtain⟨t,rfl⟩:=c;show SeqAt.EqAt.str_int a t' b t
  | str b=>obtain⟨t,rfl⟩:=c;show SeqAt.EqAt.str_str a t' b t
  | _=>show absurd (show false=true from d) Yu
 | _=>show absurd (show false=true from f) Yu
def eqU(x:V)(u:Value):Bool:=match u with
 | .none=>eqV .non x
 | .bool b=>eqV (.bl b) x
 | .int i _=>eqV (.int i) x
 | .str z _=>eqV (.str z) x
 | _=>false
theorem qeK(r:RelV y u)(f:qaB y=true):eqU x u=eqV y x:=by
 cases y with
 | non=>cases r;rfl
 | bl b=>cases r;rfl
 | int i=>obtain⟨t,rfl⟩:=r;rfl
 | str z=>obtain⟨t,rfl⟩:=r;rfl
 | _=>show absurd (show false=true from f) Yu
theorem qbL:∀{xs:List V} {us:List Value},Vals xs us->xs.all qaB=true->us.any (eqU x)=xs.any fun y=>eqV y x
 | _,_,.nil,_=>rfl
 | y::xs,u::us,.cons r t,f=>by
  rw[ke,yY] at f;rw[Xs,Xs,qeK r f.1,qbL t f.2]
theorem qaq(b:RelV x v)(a:qaB x=true):∀{xs:List V} {us:List Value},Vals xs us->xs.all qaB=true->∀ u∈us,SeqAt.EqAt A s u v (eqU x u)
 | _,_,.nil,_=>fun u hu=>by cases hu
 | y::xs,u::us,.cons r t,f=>fun c hu=>by
  rw[ke,yY] at f;rcases yx.mp hu with rfl | hu
  .rw [qeK r f.1];show qeJ r b f.1 a
  .show qaq b a t f.2 c hu
def inV(x:V)(xs:List V):Bool:=xs.any fun y=>eqV y x
inductive rIn(K:yg)(neg:Bool)(x:V)(y:V)(H:Hp)(Q:VK):Prop|mk (p xs:_) (_:y=.ref p) (_:(SqL K H p xs\/SqT K H p xs)) (_:qaB x=true) (_:xs.all qaB=true) (_:Q (.bl (if neg then !inV x xs else inV x xs)) H)
theorem op_in_seq:OpR X (compareOp .In) (rIn X.K false):=by
 intro pins s σ H x y v u Q I b c h;obtain⟨p,xs,rfl,hq,a,fs,q⟩:=h;cases c;rcases hq with hq | hq
 .obtain⟨its,r,pl,hz⟩:=I.list hq;show SeqAt.in_listAt (eqU x) pl.isList (fun w hw=>qaq b a r fs w (by simpa using hw)) ⟨.bl _,H,I,rfl,?_⟩;rw[show its.toArray.any (eqU x)=its.any (eqU x) by simp,qbL r fs];show q
 .obtain⟨its,r,pl,hz⟩:=I.tuple hq;show SeqAt.in_tupleAt (eqU x) pl (fun w hw=>qaq b a r fs w (by simpa using hw)) ⟨.bl _,H,I,rfl,?_⟩;rw[show its.toArray.any (eqU x)=its.any (eqU x) by simp,qbL r fs];show q
theorem op_notIn_seq:OpR X (compareOp .NotIn) (rIn X.K true):=by
 intro pins s σ H x y v u Q I b c h;obtain⟨p,xs,rfl,hq,a,fs,q⟩:=h;cases c;rcases hq with hq | hq
 .obtain⟨its,r,pl,hz⟩:=I.list hq;show SeqAt.notIn_listAt (eqU x) pl.isList (fun w hw=>qaq b a r fs w (by simpa using hw)) ⟨.bl _,H,I,rfl,?_⟩;rw[show its.toArray.any (eqU x)=its.any (eqU x) by simp,qbL r fs];show q
 .obtain⟨its,r,pl,hz⟩:=I.tuple hq;show SeqAt.notIn_tupleAt (eqU x) pl (fun w hw=>qaq b a r fs w (by simpa using hw)) ⟨.bl _,H,I,rfl,?_⟩;rw[show its.toArray.any (eqU x)=its.any (eqU x) by simp,qbL r fs];show q
theorem call_len_seq:zU X (.builtin "len") (fun xs H Q=>∃ p ys,xs=[.ref p]/\(SqL X.K H p ys\/SqT X.K H p ys)/\Q (.int ys.length) H):=by
 intro pins s σ H xs us Q I r h;obtain⟨p,ys,rfl,hq,q⟩:=h;obtain⟨u,rfl,c⟩:=qbH r;cases c;have d:=qb8;rcases hq with hq | hq
 .obtain⟨its,b,pl,hz⟩:=I.list hq;have a:=b.length;show Calls.call_len_list pl.isList (by simp only[yz]<;>lk) ⟨.int ys.length,H,I.tok _,⟨s.toks+1,by rw[yz,a]⟩,q⟩
 .obtain⟨its,b,pl,hz⟩:=I.tuple hq;have a:=b.length;show len_tuple pl (by simp only[yz]<;>lk) ⟨.int ys.length,H,I.tok _,⟨s.toks+1,by rw[yz,a]⟩,q⟩
theorem call_len_str:zU X (.builtin "len") (fun xs H Q=>∃ z,xs=[.str z]/\z.length<=sizeLine/\Q (.int z.length) H):=by
 intro pins s σ H xs us Q I r h;obtain⟨z,rfl,hz,q⟩:=h;obtain⟨u,rfl,t,rfl⟩:=qbH r;have a:=qb8;show len_str (by lk) ⟨.int z.length,H,I.tok _,⟨_,rfl⟩,q⟩
theorem call_list_of:zU X (.type "list") (fun xs H Q=>∃ p ys,xs=[.ref p]/\(SqL X.K H p ys\/SqT X.K H p ys)/\∀ l,H l=none->Q (.ref l) (upd H l (.lst ys))):=by
 intro pins s σ H xs us Q I r h;obtain⟨p,ys,rfl,hq,q⟩:=h;obtain⟨u,rfl,t⟩:=qbH r;cases t;have d:∀(its:List Value),Vals ys its->ys.length<=sizeLine->∀(h':Heap) (a:Nat),(∀ b m,s.heap.get? b=some m->h'.get? b=some m) ->
   h'.get? s.heap.objs.size=some { cls:=.type "list",dict:=none,data:=.seq its.toArray a,slots:=#[] }->EP X pins σ Q (.ref s.heap.objs.size) { s with heap:=h' }:=fun its c hz h' a g e =>
  ⟨.ref s.heap.objs.size,_,I.laid (t':=s.toks) g (yh _) (show ObjOk X.prog X.w _ h' _ (.lst ys) from⟨hz,its,a,c,e⟩),rfl,q _ (I.hok.fresh (yh _))⟩
 rcases hq with hq | hq
 .obtain⟨its,c,pl,hz⟩:=I.list hq;have f:=c.length;obtain⟨o,j,hc,n,i⟩:=pl.isList;show call_list_seq p (.inl rfl) j hc i (fun h' a g e=>d its c hz h' a g e) (by simp only[yz]<;>lk)
 .obtain⟨its,c,pl,hz⟩:=I.tuple hq;have f:=c.length;obtain⟨o,j,hc,n,i⟩:=pl;show call_list_seq p (.inr rfl) j hc i (fun h' a g e=>d its c hz h' a g e) (by simp only[yz]<;>lk)
def tyV(K:yg)(T:String)(x:V)(H:Hp):Prop:=match x with
 | .str _=>T="str"
 | .int _=>T="int"
 | .ref p=>(T="list"/\∃ xs,SqL K H p xs)\/(T="tuple"/\∃ o,K.lookup p=some o/\o.cls=.type "tuple"/\o.dict=none) \/
   (T="dict"/\((∃ kvs,H p=some (.dK kvs))\/∃ kvs,H p=some (.dT kvs)))\/(T="set"/\∃ S n,H p=some (.set S n))
 | _=>False
theorem qfA{T:String}(I:Inv X pins σ H s)(r:RelV x v)(ty:tyV X.K T x H) :
  s.TypeIs v T/\∀ a,v=.ref a->∃ g,s.heap.get? a=some g/\g.dict=none:=by
 cases x with
 | str z =>
  obtain⟨t,rfl⟩:=r;cases (show T="str" from ty);show⟨typeIs_str s z t,fun _ e=>nomatch e⟩
 | int i =>
  obtain⟨t,rfl⟩:=r;cases (show T="int" from ty);show⟨typeIs_int s i t,fun _ e=>nomatch e⟩
 | ref p =>
  cases r;rcases ty with⟨rfl,xs,h⟩ | ⟨rfl,o,b,hc,f⟩ | ⟨rfl,b⟩ | ⟨rfl,S,n,b⟩
  .obtain⟨its,_,pl,_⟩:=I.list h;show⟨pl.isList.typeIs,fun a e=>?_⟩;cases e;obtain⟨o,n,e,c,f,_⟩:=pl;show⟨o,e,f⟩
  .show⟨⟨o,I.kIn p o b,hc⟩,fun a e=>?_⟩;cases e;show⟨o,I.kIn _ o b,f⟩
  .have z:∃ o,s.heap.get? p=some o/\o.ExactDict:=by
    rcases b with⟨kvs,b⟩ | ⟨kvs,b⟩
    .obtain⟨_,_,_,_,o,_,_,e,ex,_⟩:=I.hok p _ b;show⟨o,e,ex⟩
    .obtain⟨_,_,_,_,o,_,_,e,ex,_⟩:=I.hok p _ b;show⟨o,e,ex⟩
   obtain⟨o,e,ex⟩:=z;show⟨⟨o,e,ex.1⟩,fun a d=>?_⟩;cases d;show⟨o,e,ex.2.1⟩
  .obtain⟨o,_,_,_,e,ex,_⟩:=I.hok p _ b;show⟨⟨o,e,ex.1⟩,fun a d=>?_⟩;cases d;show⟨o,e,ex.2.1⟩
 | _=>show False.elim ty
def qgW(K:yg)(T:String)(r:V->List V->Hp->VK->Prop)(to:TE):TE:=fun σ H Q=>to σ H fun x a=>tyV K T x a/\r x [] a Q
def tBM(K:yg)(T:String)(r:V->List V->Hp->VK->Prop)(to:TE)(t:TA):TE:=fun σ H Q=>to σ H fun x a=>tyV K T x a/\t σ a fun xs b=>r x xs b Q
variable{o e:Expr}{es:List Expr}{to:TE}{t:TA}{name:Str}{apos cpos:Pos}{T id:String}{r:V->List V->Hp->VK->Prop}
theorem pe_bm0(m:PlainAttrs T)(c:Slot T name id)(d:typeOf (.builtin id)=pure (.type "method_descriptor"))(j:MtR X id r)(l:PE X o to)
  (a:attributeBase o name X.env (eval o X.env)=eval o X.env:=by rfl) (b:(apos.endLine==cpos.line)=true:=by rfl):PE X (.Call (.Attribute o name apos) [] [] cpos) (qgW X.K T r to):=by
 intro pins s σ H Q I h;show wpAny_Call_method0_late a b (thn (l pins s σ H _ I h) fun v p ⟨x,g,e,f,ty,n⟩=>?_);obtain⟨h1,i⟩:=qfA e f ty;show⟨T,id,m,c,d,h1,i,Xm rfl (PySem.evalArgs_none (j pins p σ g x [] v [] Q e f .nil n))⟩
theorem pe_bm(A:PlainAttrs T)(f:Slot T name id)(g:typeOf (.builtin id)=pure (.type "method_descriptor"))(w:MtR X id r)(y:PE X o to)(u:PA X (e::es) t)
  (b:attributeBase o name X.env (eval o X.env)=eval o X.env:=by rfl)
  (d:((backTo cpos (starEach (e::es) X.env)).all (fun x=>!x.1)&&(backToKw cpos (keywordEach [] X.env)).all (fun x=>x.1.isSome)
   && decide ((e::es).length+([]:List Keyword).length+(if ([]:List Keyword).isEmpty then 0 else 1)<30))=true:=by rfl)
  (c:(apos.endLine==cpos.line)=true:=by rfl) (z:starEach (e::es) X.env=(false,eval e X.env)::starEach es X.env:=by rfl) (a:(backTo cpos (starEach es X.env)).any (·.1)=false:=by rfl) :
  PE X (.Call (.Attribute o name apos) (e::es) [] cpos) (tBM X.K T r to t):=by
 intro pins s σ H Q I h;show wpAny_Call_method_late b d c rfl (thn (y pins s σ H _ I h) fun v E ⟨x,m,i,l,ty,B⟩=>?_);obtain⟨h1,q⟩:=qfA i l ty;show⟨T,id,A,f,g,h1,q,?_⟩;have j:=u cpos pins E σ m _ i B;rw[z] at j ⊢;show Xm (by show(false||(backTo cpos (starEach es X.env)).any (·.1))=false;rw[a]<;>rfl) (kf ?_);show thn j fun us F ⟨vs,n,p,D,C⟩=>w pins F σ n x vs v us Q p l D C
end
def MtM(X:Cx)(id:String)(r:V->List V->Hp->VK->Prop):Prop:=
 ∀(pins:List (Addr×Obj)) (s:Shared) (σ:St) (H:Hp) (x:V) (xs:List V) (v:Value) (us:List Value) (Q:VK),Inv X pins σ H s->RelV x v->Vals xs us->r x xs H Q ->
  wpAny (model X.prog X.w) X.A (call (.builtin id) (v::us)) (EP X pins σ Q) X.xe s
theorem Vals.one:∀{x:V} {us:List Value},Vals [x] us->∃ u,us=[u]/\RelV x u
 | _,_,.cons r .nil=>⟨_,rfl,r⟩
theorem Vals.zero:∀{us:List Value},Vals [] us->us=[]
 | _,.nil=>rfl
theorem Vals.dropLast(h:Vals xs us):Vals xs.dropLast us.dropLast:=by
 induction h with
 | nil=>show .nil
 | cons r t ih =>
  cases t with
  | nil=>show .nil
  | cons q t'=>show .cons r ih
theorem Vals.eraseIdx:∀{xs:List V} {us:List Value} (i:Nat),Vals xs us->Vals (xs.eraseIdx i) (us.eraseIdx i)
 | _,_,_,.nil=>.nil
 | _,_,0,.cons _ t=>t
 | _,_,i+1,.cons r t=>.cons r (Vals.eraseIdx i t)
theorem Vals.rep(h:Vals xs us):∀ k:Nat,Vals (List.replicate k xs).flatten (List.replicate k us).flatten
 | 0=>.nil
 | k+1=>by
  rw[xy,xy,xr,xr];show Vals.append h (Vals.rep h k)
theorem erase_last(l:List α):l.eraseIdx (l.length-1)=l.dropLast:=by
 induction l with
 | nil=>rfl
 | cons a r ih =>
  cases r with
  | nil=>rfl
  | cons b r =>
   have e:(a::b::r).length-1=((b::r).length-1)+1:=by
    have h1:(a::b::r).length=r.length+2:=rfl;have c:(b::r).length=r.length+1:=rfl;lk
   rw[e,List.eraseIdx_cons_succ,ih]
   all_goals rfl
theorem qcR:∀(l:List α) (i:Nat),(l.eraseIdx i).length<=l.length
 | [],_=>yh _
 | _::_,0=>xS _
 | _::r,i+1=>XF (qcR r i)
theorem qcS(its:List Value):∀(k:Nat) (acc:List Value),
  List.foldl (fun b c=>b++c) acc.toArray (List.replicate k its.toArray)=(acc++(List.replicate k its).flatten).toArray
 | 0,acc=>by simp
 | k+1,acc=>by
  have e:acc.toArray++its.toArray=(acc++its).toArray:=by simp
  have a:(acc++its)++(List.replicate k its).flatten=acc++(List.replicate (k+1) its).flatten:=by
   rw[xy,xr,Ys]
  rw[<- a,<- qcS its k (acc++its),<- e,xy,List.foldl_cons]
section
variable{X:Cx}{pins:List (Addr×Obj)}{σ:St}{H:Hp}{s:Shared}{l b:Addr}{xs ys zs:List V}
theorem Inv.lset{f:Array Value->Array Value}(I:Inv X pins σ H s)(a:H l=some (.lst xs))
  (e:s.heap.get? l=some { cls:=.type "list",data:=.seq its.toArray n }) (c:f its.toArray=its'.toArray) (hv:Vals ys its') (hz:ys.length<=sizeLine) :
  Inv X pins σ (upd H l (.lst ys)) { s with heap:=s.heap.update l (Obj.mapSeq f),toks:=t' }:=by
 have q:=PySem.IsL.update e f;rw[c] at q;show I.write (x:=l) (e:=l) (by rw[a];show trivial) (.inl rfl) (fun g u b d=>(Heap.get?_update_other s.heap (Obj.mapSeq f) (Ym b)).trans d) ⟨_,q⟩ ?_;show⟨hz,its',_,hv,q⟩
theorem Inv.lnew(I:Inv X pins σ H s)(hv:Vals ys its)(hz:ys.length<=sizeLine) :
  Inv X pins σ (upd H s.heap.objs.size (.lst ys)) { s with heap:=s.heap.push { cls:=.type "list",data:=.seq its.toArray },toks:=t' }:=
 I.laid (fun _ _ q=>yw _ q) (yh _) ⟨hz,its,0,hv,yZ _ rfl⟩
theorem Inv.fresh(I:Inv X pins σ H s):H s.heap.objs.size=none:=I.hok.fresh (yh _)
theorem Inv.lstM(I:Inv X pins σ H s)(a:H l=some (.lst xs)):xs.length<=sizeLine/\∃(its:List Value) (n:Nat),Vals xs its/\xs.length=its.length/\s.heap.get? l=some { cls:=.type "list",data:=.seq its.toArray n }:=by
 obtain⟨z,its,n,r,e⟩:=I.hok l _ a;show⟨z,its,n,r,r.length,e⟩
theorem qdV(h:n<=sizeLine):Builtin.List.listTooLong n=false:=by
 unfold Builtin.List.listTooLong;show yl (by lk)
end
section
variable{X:Cx}
inductive rAppend(x:V)(vs:List V)(H:Hp)(Q:VK):Prop|mk (l xs y:_) (_:x=.ref l) (_:vs=[y]) (_:H l=some (.lst xs)) (_:xs.length<sizeLine) (_:Q .non (upd H l (.lst (xs++[y]))))
theorem mt_append:MtM X "list.append" rAppend:=by
 intro pins s σ H x vs v us Q I d c h;obtain⟨l,xs,y,rfl,rfl,a,hz,q⟩:=h;cases d;obtain⟨u,rfl,b⟩:=c.one;obtain⟨z,its,n,r,hl,e⟩:=I.lstM a;show X9 F.slot_list_append ⟨_,e,rfl⟩ F.entry_list_append (F.args_list_append_2 _ _) (PySem.list_append l its.toArray n u (by rw[yz];lk)) ⟨e,?_⟩;show⟨.non,_,I.lset (its':=its++[u]) a e (by simp) (r.append (.cons b .nil)) ?_,rfl,q⟩;rw[yt,List.length_singleton];lk
inductive rExtend(x:V)(vs:List V)(H:Hp)(Q:VK):Prop|mk (l b xs zs:_) (_:x=.ref l) (_:vs=[.ref b]) (_:H l=some (.lst xs)) (_:H b=some (.lst zs)) (_:xs.length+zs.length<=sizeLine) (_:Q .non (upd H l (.lst (xs++zs))))
theorem mt_extend:MtM X "list.extend" rExtend:=by
 intro pins s σ H x vs v us Q I t p h;obtain⟨l,b,xs,y,rfl,rfl,d,g,hz,q⟩:=h;cases t;obtain⟨u,rfl,o⟩:=p.one;cases o;obtain⟨z,its,n,r,hl,e⟩:=I.lstM d;obtain⟨w,a,j,m,i,f⟩:=I.lstM g;have hsz:its.toArray.size+a.toArray.size<=sizeLine:=by rw[yz,yz];lk
 have c:¬ (!its.toArray.isEmpty&&Builtin.List.listTooLong (its.toArray.size+a.toArray.size))=true:=by
  rw[qdV hsz,Bool.and_false];show Yu
 show X9 F.slot_list_extend ⟨_,e,rfl⟩ F.entry_list_extend (F.args_list_extend_2 _ _)
  (AutoSeq1.list_extend_list_list_0 l its.toArray n b a.toArray j c (by rw[yz];lk) (by lk)) ⟨e,f,?_⟩
 show⟨.non,_,I.lset (its':=its++a) d e (by simp) (r.append m) ?_,rfl,q⟩;rw[yt];lk
inductive rPop(x:V)(vs:List V)(H:Hp)(Q:VK):Prop|mk (l xs y:_) (_:x=.ref l) (_:vs=[]) (_:H l=some (.lst xs)) (_:xs[xs.length-1]?=some y) (_:Q y (upd H l (.lst xs.dropLast)))
theorem mt_pop:MtM X "list.pop" rPop:=by
 intro pins s σ H x vs v us Q I j i h;obtain⟨l,xs,y,rfl,rfl,c,f,q⟩:=h;cases j;have a:=i.zero;subst a;obtain⟨z,its,n,r,hl,e⟩:=I.lstM c;obtain⟨u,d,g⟩:=r.get f
 have b:its.toArray[its.toArray.size-1]?=some u:=by
  show its.toArray[its.length-1]?=some u;rw[<- xJ,<- hl];show d
 show X9 F.slot_list_pop ⟨_,e,rfl⟩ F.entry_list_pop (F.args_list_pop_1 _) (MeetsSeq.list_pop_last l its.toArray n u b (by rw[yz];lk)) ⟨e,?_⟩;show⟨y,_,I.lset (its':=its.dropLast) c e ?_ r.dropLast ?_,g,q⟩
 .show its.toArray.eraseIdxIfInBounds (its.toArray.size-1)=its.dropLast.toArray;rw[yz,List.eraseIdxIfInBounds_toArray,erase_last]
 .rw [List.length_dropLast];lk
inductive rPopAt(x:V)(vs:List V)(H:Hp)(Q:VK):Prop|mk (l xs i k y:_) (_:x=.ref l) (_:vs=[.int i]) (_:H l=some (.lst xs)) (_:-(2 ^ 63)<=i) (_:i<2 ^ 63) (_:seqIndex? i xs.length=some k) (_:xs[k]?=some y) (_:Q y (upd H l (.lst (xs.eraseIdx k))))
theorem mt_popAt:MtM X "list.pop" rPopAt:=by
 intro pins s σ H x vs v us Q I m j h;obtain⟨l,xs,i,k,y,rfl,rfl,b,h1,c,d,f,q⟩:=h;cases m;obtain⟨u,rfl,g⟩:=j.one;obtain⟨t,rfl⟩:=g;obtain⟨z,its,n,r,hl,e⟩:=I.lstM b;obtain⟨w,hw,a⟩:=r.get f;show X9 F.slot_list_pop ⟨_,e,rfl⟩ F.entry_list_pop (F.args_list_pop_2 _ _)
  (MeetsSeq.list_pop_at l its.toArray n i t k w (fitsIndex_both h1 c) (by rw[yz,<- hl];show d) (by rw[<- xJ];show hw) (by rw[yz];lk)) ⟨e,?_⟩
 show⟨y,_,I.lset (its':=its.eraseIdx k) b e ?_ (r.eraseIdx k) ?_,a,q⟩
 .show its.toArray.eraseIdxIfInBounds k=(its.eraseIdx k).toArray;rw[List.eraseIdxIfInBounds_toArray]
 .have:=qcR xs k;lk
inductive rReverse(x:V)(vs:List V)(H:Hp)(Q:VK):Prop|mk (l xs:_) (_:x=.ref l) (_:vs=[]) (_:H l=some (.lst xs)) (_:Q .non (upd H l (.lst xs.reverse)))
inductive rClear(x:V)(vs:List V)(H:Hp)(Q:VK):Prop|mk (l xs:_) (_:x=.ref l) (_:vs=[]) (_:H l=some (.lst xs)) (_:Q .non (upd H l (.lst [])))
inductive rCat(x:V)(y:V)(H:Hp)(Q:VK):Prop|mk (l b xs zs:_) (_:x=.ref l) (_:y=.ref b) (_:H l=some (.lst xs)) (_:H b=some (.lst zs)) (_:xs.length+zs.length<=sizeLine) (_:∀ p,H p=none->Q (.ref p) (upd H p (.lst (xs++zs))))
theorem op_cat:OpR X (binaryOp .Add) rCat:=by
 intro pins s σ H x y v u Q I m o h;obtain⟨l,b,xs,w,rfl,rfl,g,f,hz,q⟩:=h;cases m;cases o;obtain⟨z,its,n,r,hl,e⟩:=I.lstM g;obtain⟨t,a,p,j,i,c⟩:=I.lstM f;show PySem.P.add_list e c ?_ (by rw[yz,yz];lk);have d:its.toArray++a.toArray=(its++a).toArray:=by simp
 rw[d];show⟨.ref _,_,I.lnew (t':=s.toks) (r.append j) (by rw[yt];lk),rfl,q _ I.fresh⟩
inductive rRep(x:V)(y:V)(H:Hp)(Q:VK):Prop|mk (l k xs:_) (_:x=.ref l) (_:y=.int k) (_:H l=some (.lst xs)) (_:-(2 ^ 63)<=k) (_:k<2 ^ 63) (_:xs.length*k.toNat<=sizeLine) (_:∀ p,H p=none->Q (.ref p) (upd H p (.lst (List.replicate k.toNat xs).flatten)))
theorem len_rep(xs:List α)(k:Nat):(List.replicate k xs).flatten.length=k*xs.length:=by
 induction k with
 | zero=>simp
 | succ k ih=>rw[xy,xr,yt,ih,Nat.succ_mul,Nat.add_comm]
theorem qeL:OpR X (binaryOp .Mult) rRep:=by
 intro pins s σ H x y v u Q I A B h;obtain⟨l,k,xs,rfl,rfl,w,h1,p,hz,q⟩:=h;cases A;obtain⟨t,rfl⟩:=B;obtain⟨z,its,n,r,hl,e⟩:=I.lstM w;have f:its.toArray.size*k.toNat<=sizeLine:=by rw[yz,<- hl];show hz
 have c:¬ its.toArray.size*k.toNat>(2 ^ 63-1) / 8:=by
  have:(sizeLine:Nat)<=(2 ^ 63-1) / 8:=by decide
  lk
 have d:¬ (!Builtin.List.listFitsIndex k)=true:=by
  rw[fitsIndex_both h1 p];show Yu
 have b:¬ Builtin.List.listTooLong (its.toArray.size*k.toNat)=true:=by
  rw[qdV f];show Yu
 have g:List.foldl (fun i j=>i++j) #[] (List.replicate (if its.toArray.isEmpty=true then 0 else k.toNat) its.toArray)=(List.replicate k.toNat its).flatten.toArray:=by
  have o:∀ m:Nat,List.foldl (fun i j=>i++j) #[] (List.replicate m its.toArray)=(List.replicate m its).flatten.toArray:=fun m=>by
   have:=qcS its m [];rw[List.nil_append] at this;show this
  rw[o]
  cases its with
  | nil=>simp
  | cons a r'=>rw[yB (by simp)]
 show wpAny_binaryOp_repeat_ref (T:="list") (U:="int") (by decide) ⟨_,e,rfl⟩ (fun C=>typeIs_int C k t) noFill_list_mul F.fills_int_mul F.slot_int_rmul repeat_list F.slot_int_index.lookup
  (X9 F.slot_int_rmul (typeIs_int s k t) F.entry_int_rmul (F.args_int_rmul_2 _ _) (int___rmul___int_list k t l its.toArray n)
   ⟨e,rfl,⟨_,e,rfl⟩,X9 F.slot_list_mul ⟨_,e,rfl⟩ F.entry_list_mul (F.args_list_mul_2 _ _) (AutoListH.list___mul___list_int_3 l its.toArray n k t d c b) ⟨e,?_⟩⟩)
 rw[g];show⟨.ref _,_,I.lnew (t':=s.toks) (r.rep k.toNat) (by rw[len_rep,Nat.mul_comm];show hz),rfl,q _ I.fresh⟩
end
section
variable{prog:Program}{w:World}{A:Around}{E:Value->Shared->Prop}{s:Shared}
set_option maxRecDepth 100000 in
end
section
variable{X:Cx}
end
section
variable{κ:Type}[DecidableEq κ]
def jZ(kvs:List (κ×V))(k:κ):Option V:=(kvs.find? fun a=>decide (a.1=k)).map (·.2)
def zw(kvs:List (κ×V))(k:κ)(v:V):List (κ×V):=
 if (kvs.any fun a=>decide (a.1=k))=true then kvs.map (fun a=>if a.1=k then(a.1,v) else a) else kvs++[(k,v)]
def dropK(kvs:List (κ×V))(k:κ):List (κ×V):=kvs.filter fun a=>decide (a.1≠k)
theorem ji{p:κ×V}{r:List (κ×V)}{k:κ}(e:p.1=k):jZ (p::r) k=some p.2:=by simp[jZ,xN,e]
theorem qZ{p:κ×V}{r:List (κ×V)}{k:κ}(e:¬ p.1=k):jZ (p::r) k=jZ r k:=by simp[jZ,xN,e]
theorem qar(k:κ):∀ kvs:List (κ×V),(kvs.any fun a=>decide (a.1=k))=(jZ kvs k).isSome
 | []=>rfl
 | p::r=>by
  rw[Xs];by_cases e:p.1=k
  .simp only[ji e,yD e,Bool.true_or,XW]
  .rw [qZ e,yl e,Bool.false_or];show qar k r
theorem qdW(k j:κ)(y:V):∀ kvs:List (κ×V),jZ (kvs.map fun a=>if a.1=k then(a.1,y) else a) j=(jZ kvs j).map fun x=>if j=k then y else x
 | []=>rfl
 | p::r=>by
  have b:=qdW k j y r;rw[YC];by_cases h:p.1=k
  .rw [yG h];by_cases e:p.1=j
   .rw [ji (p:=(p.1,y)) e,ji e,XT,yG (e.symm.trans h)]
   .rw [qZ (p:=(p.1,y)) e,qZ e,b]
  .rw [yB h];by_cases e:p.1=j
   .rw [ji (p:=p) e,ji e,XT,yB (fun z=>h (e.trans z))]
   .rw [qZ (p:=p) e,qZ e,b]
theorem qcT(k j:κ)(y:V):∀ kvs:List (κ×V),jZ kvs k=none->jZ (kvs++[(k,y)]) j=if j=k then some y else jZ kvs j
 | [],_=>by
  by_cases e:k=j
  .rw [yG e.symm];show ji (p:=(k,y)) e
  .rw [yB (fun z=>e z.symm)];show qZ (p:=(k,y)) e
 | p::r,hn=>by
  rw[kP];have a:¬ p.1=k:=fun z=>by rw[ji z] at hn;cases hn
  rw[qZ a] at hn;have b:=qcT k j y r hn;by_cases e:p.1=j
  .rw [ji e,ji e,yB (fun z=>a (e.trans z))]
  .rw [qZ e,qZ e,b]
theorem qaP(kvs:List (κ×V))(k j:κ)(y:V):jZ (zw kvs k y) j=if j=k then some y else jZ kvs j:=by
 unfold zw;by_cases a:(kvs.any fun c=>decide (c.1=k))=true
 .rw [yG a,qdW];rw[qar] at a;by_cases e:j=k
  .obtain⟨x,b⟩:=xj.mp a;rw[yG e,e,b,XT,yG rfl]
  .rw [yB e]
   cases jZ kvs j with
   | none=>rfl
   | some x=>rw[XT,yB e]
 .rw [yB a];show qcT k j y kvs ?_;rw[qar] at a
  cases q:jZ kvs k with
  | none=>rfl
  | some x=>rw[q] at a;show(a rfl).elim
theorem jp(kvs:List (κ×V))(k:κ)(v:V):(zw kvs k v).length<=kvs.length+1:=by
 unfold zw;split
 .rw [ya];lk
 .rw [yt,yJ,YW];lk
theorem qaQ{kvs:List (κ×V)}{k:κ}(v:V)(h:jZ kvs k=none):zw kvs k v=kvs++[(k,v)]:=by
 unfold zw;rw[qar,h];show yB (by decide)
theorem RelO.isSome_eq{u:Option Value}(r:RelO o u):o.isSome=u.isSome:=by
 cases o with
 | none=>cases u with
  | none=>rfl
  | some _=>show(show False from r).elim
 | some _=>cases u with
  | none=>show(show False from r).elim
  | some _=>rfl
theorem RelO.getD{u:Option Value}{d:V}{d':Value}(r:RelO o u)(rd:RelV d d'):RelV (o.getD d) (u.getD d'):=by
 cases o with
 | none=>cases u with
  | none=>show rd
  | some _=>show(show False from r).elim
 | some _=>cases u with
  | none=>show(show False from r).elim
  | some _=>show r
theorem KV.val{kvs:List (κ×V)}{vs:List (κ×Value)}(r:KV kvs vs)(k:κ):RelO (jZ kvs k) (valueAt vs k):=by
 unfold KV at r
 induction r with
 | nil=>show Y0
 | @cons p q ps qs h t ih =>
  obtain⟨h1,c⟩:=h;by_cases e:p.1=k
  .have a:q.1=k:=h1.symm.trans e;have b:valueAt (q::qs) k=some q.2:=by simp[valueAt,xN,a]
   rw[ji e,b];show c
  .have a:¬ q.1=k:=fun z=>e (h1.trans z);have b:valueAt (q::qs) k=valueAt qs k:=by simp[valueAt,xN,a]
   rw[qZ e,b];show ih
theorem KV.any{kvs:List (κ×V)}{vs:List (κ×Value)}(r:KV kvs vs)(k:κ):(kvs.any fun a=>decide (a.1=k))=vs.any fun a=>decide (a.1=k):=by
 unfold KV at r
 induction r with
 | nil=>rfl
 | cons h t ih=>rw[Xs,Xs,ih,h.1]
theorem KV.repl{kvs:List (κ×V)}{vs:List (κ×Value)}(r:KV kvs vs)(k:κ)(c:RelV y u) :
  KV (kvs.map fun a=>if a.1=k then(a.1,y) else a) (vs.map fun a=>if a.1=k then(a.1,u) else a):=by
 unfold KV at r ⊢
 induction r with
 | nil=>show .nil
 | @cons p q ps qs h t ih =>
  rw[YC,YC];show .cons ?_ ih;obtain⟨h1,b⟩:=h;by_cases e:p.1=k
  .rw [yG e,yG (h1.symm.trans e)];show⟨h1,c⟩
  .rw [yB e,yB (fun z=>e (h1.trans z))];show⟨h1,b⟩
theorem KV.put{kvs:List (κ×V)}{vs:List (κ×Value)}(r:KV kvs vs)(k:κ)(a:RelV y u):KV (zw kvs k y) (stored vs k u):=by
 unfold zw stored;rw[r.any k];by_cases e:(vs.any fun b=>decide (b.1=k))=true
 .rw [yG e,yG e];show r.repl k a
 .rw [yB e,yB e];show Paired.snoc r ⟨rfl,a⟩
theorem KV.length{kvs:List (κ×V)}{vs:List (κ×Value)}(r:KV kvs vs):kvs.length=vs.length:=Paired.length r
end
theorem qdt{k:Key}(r:RelV (kV k) u):(jh P w).is k u=true:=by
 cases k with
 | inl i=>obtain⟨t,e⟩:=(show ∃ t,u=Value.int i t from r);subst e;show mixKind_int P w i t
 | inr x=>obtain⟨t,e⟩:=(show ∃ t,u=Value.str x t from r);subst e;show mixKind_str P w x t
theorem qcU:∀{ks:List Key} {us:List Value},Vals (ks.map kV) us->ItemsAre (jh P w) ks us
 | [],_,r=>by rw[List.map_nil] at r;cases r;show .nil
 | k::ks,_,r=>by
  rw[YC] at r
  cases r with
  | cons h t=>show .cons (qdt h) (qcU t)
abbrev KT(H:Hp):List (List Key×V)->List (List Key×Addr×Value)->Prop:=Paired fun p q=>p.1=q.1/\H q.2.1=some (.tup (p.1.map kV))/\RelV p.2 q.2.2
theorem KT.val{xs:List (List Key×Addr×Value)}(r:KT H kvs xs)(k:List Key):RelO (jZ kvs k) ((atKey xs k).map (·.2)):=by
 induction r with
 | nil=>show Y0
 | @cons p q ps qs h t ih =>
  obtain⟨h1,_,c⟩:=h;by_cases e:p.1=k
  .have a:q.1=k:=h1.symm.trans e;have b:atKey (q::qs) k=some q.2:=by simp[atKey,xN,a]
   rw[ji e,b];show c
  .have a:¬ q.1=k:=fun z=>e (h1.trans z);have b:atKey (q::qs) k=atKey qs k:=by simp[atKey,xN,a]
   rw[qZ e,b];show ih
theorem KT.repl{xs:List (List Key×Addr×Value)}(r:KT H kvs xs)(k:List Key)(d:RelV y u) :
  KT H (kvs.map fun a=>if a.1=k then(a.1,y) else a) (xs.map (putAt k u)):=by
 induction r with
 | nil=>show .nil
 | @cons p q ps qs h t ih =>
  rw[YC,YC];show .cons ?_ ih;obtain⟨h1,b,c⟩:=h;unfold putAt;by_cases e:p.1=k
  .rw [yG e,yG (h1.symm.trans e)];show⟨h1,b,d⟩
  .rw [yB e,yB (fun z=>e (h1.trans z))];show⟨h1,b,c⟩
theorem KT.put{xs:List (List Key×Addr×Value)}(r:KT H kvs xs)(k:List Key){b:Addr}(c:H b=some (.tup (k.map kV)))(a:RelV y u) :
  KT H (zw kvs k y) (storedH xs k b u):=by
 have e:(kvs.any fun d=>decide (d.1=k))=(atKey xs k).isSome:=by
  rw[qar,(r.val k).isSome_eq,xt]
 unfold zw storedH;rw[e];by_cases q:(atKey xs k).isSome=true
 .rw [yG q,yG q];show r.repl k a
 .rw [yB q,yB q];show Paired.snoc r ⟨rfl,c,a⟩
theorem KT.keeps{xs:List (List Key×Addr×Value)}(r:KT H kvs xs)(a:∀ b ys,H b=some (.tup ys)->H' b=some (.tup ys)):KT H' kvs xs:=
 Paired.mapP r fun _ _ z=>⟨z.1,a _ _ z.2.1,z.2.2⟩
section
variable{P:Program}{w:World}{H:Hp}{h:Heap}{a:Addr}
theorem qgr{u:HO}(ok:HOk P w H h)(e:Rd H a u):ObjOk P w H h a u:=e.ok ok
theorem qch{kvs:List (Key×V)}(ok:HOk P w H h)(e:Rd H a (.dK kvs)):kvs.length<=sizeLine/\(a==sysModules)=false/\∃ vs,KV kvs vs/\h.DictOf (jh P w) a vs:=
 show ObjOk P w H h a (.dK kvs) from qgr ok e
theorem dk_of{kvs:List (Key×V)}(ok:HOk P w H h)(e:H a=some (.dK kvs)):kvs.length<=sizeLine/\(a==sysModules)=false/\∃ vs,KV kvs vs/\h.DictOf (jh P w) a vs:=qch ok (.inl e)
theorem qbM{ks:List Key}(ok:HOk P w H h)(e:H a=some (.tup (ks.map kV))):(tupleKind (jh P w)).is h ks a:=by
 obtain⟨_,its,r,o,h1,b,n,c⟩:=(show ObjOk P w H h a (.tup (ks.map kV)) from ok a _ e);show⟨o,its.toArray,n,h1,b,c,by simpa using qcU r⟩
theorem qcV(ok:HOk P w H h)(e:Rd H a (.dT kvs)):kvs.length<=sizeLine/\(a==sysModules)=false /\
  ∃ xs,KT H kvs xs/\h.DictOfH (tupleKind (jh P w)) a xs:=by
 obtain⟨z,y,xs,r,o,b,ep,h1,c,d,f,g⟩:=(show ObjOk P w H h a (.dT kvs) from qgr ok e);show⟨z,y,xs,r,o,b,ep,h1,c,d,f,fun x hx=>?_,g⟩
 have all:∀{l:List (List Key×V)} {m:List (List Key×Addr×Value)},KT H l m->∀ x∈m,(tupleKind (jh P w)).is h x.1 x.2.1:=by
  intro l m q
  induction q with
  | nil=>intro x hx;show nomatch hx
  | @cons p q ps qs hq t ih =>
   intro x hx;rcases yx.mp hx with e | hx
   .subst e;show qbM ok (by rw[<- hq.1];show hq.2.1)
   .show ih x hx
 show all r x hx
theorem dt_of(ok:HOk P w H h)(e:H a=some (.dT kvs)):kvs.length<=sizeLine/\(a==sysModules)=false /\
  ∃ xs,KT H kvs xs/\h.DictOfH (tupleKind (jh P w)) a xs:=qcV ok (.inl e)
end
def DGet(H:Hp)(a:Addr)(y:V)(r:Option V):Prop:=
 (∃ kvs k,Rd H a (.dK kvs)/\y=kV k/\r=jZ kvs k)\/∃ kvs k b,Rd H a (.dT kvs)/\y=.ref b/\H b=some (.tup (k.map kV))/\r=jZ kvs k
def DPut(H:Hp)(a:Addr)(y v:V)(H':Hp):Prop:=
 (∃ kvs k,H a=some (.dK kvs)/\y=kV k/\kvs.length<sizeLine/\H'=upd H a (.dK (zw kvs k v))) \/
 ∃ kvs k b,H a=some (.dT kvs)/\y=.ref b/\H b=some (.tup (k.map kV))/\kvs.length<sizeLine/\H'=upd H a (.dT (zw kvs k v))
theorem DGet.k{kvs:List (Key×V)}{k:Key}(e:H a=some (.dK kvs)):DGet H a (kV k) (jZ kvs k):=.inl ⟨kvs,k,.inl e,rfl,rfl⟩
theorem DPut.k{kvs:List (Key×V)}{k:Key}{v:V}(e:H a=some (.dK kvs))(hl:kvs.length<sizeLine):DPut H a (kV k) v (upd H a (.dK (zw kvs k v))):=.inl ⟨kvs,k,e,rfl,hl,rfl⟩
section
variable{X:Cx}{pins:List (Addr×Obj)}{σ:St}{H:Hp}{s:Shared}{a:Addr}{y v:V}{u r:Value}{o:Option V}{A:Around}{E:Value->Shared->Prop}
theorem Inv.big(I:Inv X pins σ H s):sysModules<s.heap.objs.size:=by
 have h:mainGlobals<s.heap.objs.size:=(I.mod.glob.keeps I.bk).lt;show X1 (by decide) h
theorem d_getItem{Q:Value->Shared->Prop}(B:A.units+1<cLine)(I:Inv X pins σ H s)(g:DGet H a y (some v))(n:RelV y u)(h:∀ f q,Inv X pins σ H q->RelV v f->Q f q) :
  wpAny (model X.prog X.w) A (getItem (.ref a) u) Q E s:=by
 rcases g with⟨kvs,k,e,j,l⟩ | ⟨kvs,k,b,e,j,r,l⟩
 .subst j;obtain⟨z,t,vs,c,i⟩:=qch I.hok e;obtain⟨f,hw,d⟩:=RelO.some_of (v:=v) (o:=valueAt vs k) (by rw[l];show c.val k);show wpAny_getItem_of (qdt n) i.mapOf hw (h f _ (I.tok _) d)
 .subst j;cases (show u=Value.ref b from n);obtain⟨z,t,xs,c,i⟩:=qcV I.hok e;obtain⟨f,hw,d⟩:=RelO.some_of (v:=v) (o:=(atKey xs k).map (·.2)) (by rw[l];show c.val k);obtain⟨p,x,m⟩:=yn.mp hw;show wpAny_getItem_heap (xG B) (qbM I.hok r) i x ?_;rw[m];show h f _ (I.tok _) d
theorem d_in{Q:Value->Shared->Prop}(p:A.units+1<cLine)(I:Inv X pins σ H s)(g:DGet H a y o)(j:RelV y u)(h:∀ m,Inv X pins σ H m->Q (.bool o.isSome) m) :
  wpAny (model X.prog X.w) A (compareOp .In u (.ref a)) Q E s:=by
 rcases g with⟨kvs,k,e,f,l⟩ | ⟨kvs,k,b,e,f,n,l⟩
 .subst f;obtain⟨z,i,vs,c,d⟩:=qch I.hok e;show wpAny_in_of (qdt j) i d.mapOf ?_;rw[<- (c.val k).isSome_eq,<- l];show h _ (I.tok _)
 .subst f;cases (show u=Value.ref b from j);obtain⟨z,i,xs,c,d⟩:=qcV I.hok e;show wpAny_in_heap (xG p) (qbM I.hok n) i d ?_;have q:=(c.val k).isSome_eq;rw[xt] at q;rw[<- q,<- l];show h _ (I.tok _)
theorem d_notIn{Q:Value->Shared->Prop}(p:A.units+1<cLine)(I:Inv X pins σ H s)(g:DGet H a y o)(j:RelV y u)(h:∀ m,Inv X pins σ H m->Q (.bool (!o.isSome)) m) :
  wpAny (model X.prog X.w) A (compareOp .NotIn u (.ref a)) Q E s:=by
 rcases g with⟨kvs,k,e,f,l⟩ | ⟨kvs,k,b,e,f,n,l⟩
 .subst f;obtain⟨z,i,vs,c,d⟩:=qch I.hok e;show wpAny_notIn_of (qdt j) i d.mapOf ?_;rw[<- (c.val k).isSome_eq,<- l];show h _ (I.tok _)
 .subst f;cases (show u=Value.ref b from j);obtain⟨z,i,xs,c,d⟩:=qcV I.hok e;show wpAny_notIn_heap (xG p) (qbM I.hok n) i d ?_;have q:=(c.val k).isSome_eq;rw[xt] at q;rw[<- q,<- l];show h _ (I.tok _)
theorem qeM{c:HO}(I:Inv X pins σ H s)(h:Mut (H a))(g:Heap.SameBut a s.heap h')(f:∃ q,h'.get? a=some q)(new:ObjOk X.prog X.w (upd H a c) h' a c) :
  Inv X pins σ (upd H a c) { s with heap:=h',toks:=t' }:=
 I.write (x:=a) (e:=a) h (.inl rfl) (fun b q d z=>(g.2 b d).trans z) f new
theorem dk_new{kvs:List (Key×V)}{vs:List (Key×Value)}(z:kvs.length<=sizeLine)(d:(a==sysModules)=false)(b:KV kvs vs)(c:h'.DictOf (jh P w) a vs) :
  ObjOk P w H' h' a (.dK kvs):=⟨z,d,vs,b,c⟩
theorem d_setItem{Q:Unit->Shared->Prop}(N:A.units+1<cLine)(I:Inv X pins σ H s)(g:DPut H a y v H')(C:RelV y u)(B:RelV v r)(h:∀ D,Inv X pins σ H' D->Q () D) :
  wpAny (model X.prog X.w) A (setItem (.ref a) u r) Q E s:=by
 rcases g with⟨kvs,k,e,n,l,m⟩ | ⟨kvs,k,b,e,n,t,l,m⟩
 .subst n m;obtain⟨z,o,vs,d,j⟩:=dk_of I.hok e;have hz:vs.length<=sizeLine:=by rw[<- d.length];show z
  have hl:(zw kvs k v).length<=sizeLine:=by have:=jp kvs k v;lk
  show wpAny_setItem_pairs (hsz:=hz) (qdt C) j fun h' f p=>h _ ?_;have M:∃ q,h'.get? a=some q:=let ⟨q,_,_,i,_⟩:=f;⟨q,i⟩;show qeM I (by rw[e];show Y0) p M (dk_new hl o (d.put k B) f)
 .subst n m;cases (show u=Value.ref b from C);obtain⟨z,o,xs,d,j⟩:=dt_of I.hok e;have hz:xs.length<=sizeLine:=by rw[<- Paired.length d];show z
  have hl:(zw kvs k v).length<=sizeLine:=by have:=jp kvs k v;lk
  show wpAny_setItem_heap (hsz:=hz) (xG N) (qbM I.hok t) j fun h' f p=>h _ ?_;obtain⟨q,F,ep,i,G,J,K,_,L⟩:=f;show qeM I (by rw[e];show Y0) p ⟨q,i⟩ ⟨hl,o,_,(d.put k t B).keeps fun c ys x=>?_,q,F,ep,i,G,J,K,L⟩;rw[qf (qaL x e (fun z=>nomatch z))];show x
end
section
variable{X:Cx}{pins:List (Addr×Obj)}{σ:St}{H:Hp}{s:Shared}{a:Addr}{kvs:List (Key×V)}{k:Key}{u:Value}{A:Around}{E:Value->Shared->Prop}
theorem d_len{Q:Value->Shared->Prop}(I:Inv X pins σ H s)(e:Rd H a (.dK kvs))(h:∀ t c,Inv X pins σ H c->Q (.int kvs.length t) c):wpAny (model X.prog X.w) A (call (.builtin "len") [.ref a]) Q E s:=by
 obtain⟨z,f,vs,b,d⟩:=qch I.hok e;show call_len_dict f d (by rw[<- b.length];rw[YA] at z;lk) ?_;rw[<- b.length];show h _ _ (I.tok _)
end
theorem dict_typeIs(I:Inv X pins σ H s)(g:DGet H a y o):s.TypeIs (.ref a) "dict":=by
 rcases g with⟨kvs,k,e,_,_⟩ | ⟨kvs,k,b,e,_,_,_⟩
 .obtain⟨_,_,vs,_,c⟩:=qch I.hok e;show c.typeIs
 .obtain⟨_,_,xs,_,c⟩:=qcV I.hok e;show c.typeIs
section
variable{X:Cx}{o i e value:Expr}{pos pos' tpos:Pos}{td ty tv:TE}
end
theorem dk_empty(h:Heap)(a:sysModules<h.objs.size):ObjOk P w H (h.push { cls:=.type "dict",data:=.dict #[] }) h.objs.size (.dK []):=
 ⟨YS _,YR.mpr (Ym (yT a)),[],.nil,Heap.DictOf.new h⟩
def tDNewK:TE:=fun _ H Q=>∀ p,H p=none->Q (.ref p) (upd H p (.dK []))
section
variable{X:Cx}{pos:Pos}
theorem j0:PE X (.Dict [] [] pos) tDNewK:=fun pins s σ H Q I h =>
 wpAny_Dict_empty ⟨.ref s.heap.objs.size,_,I.laid (a:=s.heap.objs.size) (o:=.dK []) (t':=s.toks) (fun _ _ q=>yw _ q) (yh _) (dk_empty s.heap I.big),rfl,h _ (I.hok.fresh (yh _))⟩
end
def mergeK(kvs a:List (Key×V)):List (Key×V):=a.foldl (fun acc b=>zw acc b.1 b.2) kvs
structure M1(X:Cx)(o:Expr)(m:Str)(apos:Pos)(e:Expr)(cpos:Pos):Prop where
 base:attributeBase o m X.env (eval o X.env)=eval o X.env
 few:((backTo cpos (starEach [e] X.env)).all (fun x=>!x.1)&&(backToKw cpos (keywordEach [] X.env)).all (fun x=>x.1.isSome)
  && decide (([e]:List Expr).length+([]:List Keyword).length+(if ([]:List Keyword).isEmpty then 0 else 1)<30))=true
 line:(apos.endLine==cpos.line)=true
 trees:backTo cpos (starEach [e] X.env)=[(false,eval e X.env)]
structure M2(X:Cx)(o:Expr)(m:Str)(apos:Pos)(e f:Expr)(cpos:Pos):Prop where
 base:attributeBase o m X.env (eval o X.env)=eval o X.env
 few:((backTo cpos (starEach [e,f] X.env)).all (fun x=>!x.1)&&(backToKw cpos (keywordEach [] X.env)).all (fun x=>x.1.isSome)
  && decide (([e,f]:List Expr).length+([]:List Keyword).length+(if ([]:List Keyword).isEmpty then 0 else 1)<30))=true
 line:(apos.endLine==cpos.line)=true
 trees:backTo cpos (starEach [e,f] X.env)=[(false,eval e X.env),(false,eval f X.env)]
def IsD(H:Hp)(a:Addr):Prop:=(∃ kvs,Rd H a (.dK kvs))\/∃ kvs,Rd H a (.dT kvs)
theorem qfB(I:Inv X pins σ H s)(d:IsD H a) :
  s.TypeIs (.ref a) "dict"/\(∀ b,Value.ref a=.ref b->∃ c,s.heap.get? b=some c/\c.dict=none)/\(a==sysModules)=false:=by
 rcases d with⟨kvs,e⟩ | ⟨kvs,e⟩
 .obtain⟨_,h,vs,_,f⟩:=qch I.hok e;show⟨f.typeIs,fun b q=>?_,h⟩;cases q;obtain⟨c,_,_,h1,g,_⟩:=f;show⟨c,h1,g.2.1⟩
 .obtain⟨_,h,xs,_,f⟩:=qcV I.hok e;show⟨f.typeIs,fun b q=>?_,h⟩;cases q;obtain⟨c,_,_,h1,g,_⟩:=f;show⟨c,h1,g.2.1⟩
section
variable{X:Cx}{pins:List (Addr×Obj)}{σ:St}{H:Hp}{s:Shared}{a:Addr}{y d:V}{u r:Value}{o:Option V}{A:Around}{E:Value->Shared->Prop}
theorem d_get1{Q:Value->Shared->Prop}(q:A.units+1<cLine)(I:Inv X pins σ H s)(g:DGet H a y o)(j:RelV y u)(h:∀ n m,Inv X pins σ H m->RelV (o.getD .non) n->Q n m) :
  wpAny (model X.prog X.w) A (call (.builtin "dict.get") [.ref a,u]) Q E s:=by
 rcases g with⟨kvs,k,e,f,l⟩ | ⟨kvs,k,b,e,f,p,l⟩
 .subst f;obtain⟨z,i,vs,c,d⟩:=qch I.hok e;show kY Y8 d.typeIs Xn (PySem.F.args_dict_get_2 _ _) (meets_dict_get (jh X.prog X.w) a (qdt j) i) ⟨_,d.mapOf,h _ _ (I.tok _) ?_⟩;rw[l];show(c.val k).getD rfl
 .subst f;cases (show u=Value.ref b from j);obtain⟨z,i,xs,c,d⟩:=qcV I.hok e;show kY Y8 d.typeIs Xn (PySem.F.args_dict_get_2 _ _) (meetsH_dict_get (tupleKind (jh X.prog X.w)) a b i) ⟨xG q,k,xs,qbM I.hok p,d,h _ _ (I.tok _) ?_⟩;rw[l];show(c.val k).getD rfl
theorem d_get2{Q:Value->Shared->Prop}(t:A.units+1<cLine)(I:Inv X pins σ H s)(g:DGet H a y o)(m:RelV y u)(rd:RelV d r)(h:∀ p n,Inv X pins σ H n->RelV (o.getD d) p->Q p n) :
  wpAny (model X.prog X.w) A (call (.builtin "dict.get") [.ref a,u,r]) Q E s:=by
 rcases g with⟨kvs,k,e,i,l⟩ | ⟨kvs,k,b,e,i,q,l⟩
 .subst i;obtain⟨z,j,vs,c,f⟩:=qch I.hok e;show kY Y8 f.typeIs Xn (PySem.F.args_dict_get_3 _ _ _) (meets_dict_get_default (jh X.prog X.w) a (qdt m) j r) ⟨_,f.mapOf,h _ _ (I.tok _) ?_⟩;rw[l];show(c.val k).getD rd
 .subst i;cases (show u=Value.ref b from m);obtain⟨z,j,xs,c,f⟩:=qcV I.hok e;show kY Y8 f.typeIs Xn (PySem.F.args_dict_get_3 _ _ _) (meetsH_dict_get_default (tupleKind (jh X.prog X.w)) a b j r) ⟨xG t,k,xs,qbM I.hok q,f,h _ _ (I.tok _) ?_⟩;rw[l];show(c.val k).getD rd
end
def qfC(d ty:TE):TE:=fun σ H Q=>d σ H fun x b=>∃ a,x=.ref a/\IsD b a/\ty σ b fun y c=>∃ o,DGet c a y o/\Q (o.getD .non) c
def qdX(e ty f:TE):TE:=fun σ H Q=>e σ H fun x b=>∃ a,x=.ref a/\IsD b a/\ty σ b fun y d=>f σ d fun z c=>∃ o,DGet c a y o/\Q (o.getD z) c
section
variable{X:Cx}{o e f:Expr}{apos cpos:Pos}{td ty tx:TE}
theorem qaR(q:X.A.units+1<cLine)(p:PE X o td)(n:PE X e ty)(m:M1 X o "get" apos e cpos):PE X (.Call (.Attribute o "get" apos) [e] [] cpos) (qfC td ty):=by
 intro pins s σ H Q I h;show wpAny_Call_method m.base m.few m.line PySem.F.plainAttrs_dict Y8 PySem.F.type_dict_get (thn (p pins s σ H _ I h) fun u z ⟨x,f,c,v,a,ex,d,r⟩=>?_);subst ex;obtain rfl:u=Value.ref a:=v;obtain⟨B,C,_⟩:=qfB c d;show⟨B,C,?_⟩;rw[m.trees];show Xm rfl (kf (Xl (thn (n pins z σ f _ c r) fun D G ⟨y,i,j,w,E,g,t⟩=>XZ ?_)));show d_get1 q j g w fun K J l b=>⟨_,i,l,b,t⟩
theorem qbp(w:X.A.units+1<cLine)(v:PE X o td)(r:PE X e ty)(t:PE X f tx)(m:M2 X o "get" apos e f cpos):PE X (.Call (.Attribute o "get" apos) [e,f] [] cpos) (qdX td ty tx):=by
 intro pins s σ H Q I h;show wpAny_Call_method m.base m.few m.line PySem.F.plainAttrs_dict Y8 PySem.F.type_dict_get (thn (v pins s σ H _ I h) fun u K ⟨x,i,c,E,a,ex,d,B⟩=>?_);subst ex;obtain rfl:u=Value.ref a:=E;obtain⟨M,N,_⟩:=qfB c d;show⟨M,N,?_⟩;rw[m.trees]
 show Xm rfl (kf (Xl (thn (r pins K σ i _ c B) fun P L ⟨y,j,n,G,C⟩ =>
  Xl (thn (t pins L σ j _ n C) fun O S ⟨z,l,p,J,R,g,D⟩=>XZ ?_))))
 show d_get2 w p g G J fun U T q b=>⟨_,l,q,b,D⟩
end
section
variable{X:Cx}{pins:List (Addr×Obj)}{σ:St}{H:Hp}{s:Shared}{a:Addr}{kvs:List (Key×V)}{A:Around}{E:Value->Shared->Prop}
end
section
variable{X:Cx}{pins:List (Addr×Obj)}{σ:St}{H:Hp}{s:Shared}{a:Addr}{y:V}{u:Value}{A:Around}{E:Value->Shared->Prop}
end
end L2
namespace Att
open PySem PySem.W PySem.Calls PyProof.Rows
variable{P:Params}{h:Heap}{l:OpenLaw}{n:Nat}
theorem ints_of_wellAll:∀(ns:LX) (vs:List Value),WellAll P h vs (ns.map WData.int)->IntsAre vs ns:=by
 intro ns
 induction ns with
 | nil =>
  intro vs w;rw[List.map_nil] at w;cases w;show .nil
 | cons n ns ih =>
  intro vs w;rw[YC] at w
  cases w with
  | cons a b =>
   cases a;show .cons _ _ (ih _ b)
theorem script_of(p:l.most=some n){args:List WData}{c:List Value}
  (b:l.row.toRowW.claim.pre args=true) (j:WellAll P h c args) :
  ∃ a vs ns,c=[Value.ref a]/\args=[WData.list (ns.map WData.int)]/\h.get? a=some { cls:=.type "list",data:=.seq vs.toArray }/\IntsAre vs ns/\ns.length<=n:=by
 have i:WShape.hasAll [] args [.list .int]=true:=(pre_splitW b).1;have hc:l.pre.holds [] { args:=args }=true:=(pre_splitW b).2;obtain⟨d,r,rfl,h1,m⟩:=hasAllW_cons i;obtain rfl:=hasAllW_nil m;obtain⟨xs,rfl,o⟩:=hasW_list h1;obtain⟨ns,rfl⟩:=items_int o
 have e:ns.length<=n:=by
  unfold OpenLaw.pre at hc
  have f:(WTm.not (.lt (.lit (.int (n:Int))) (.len (.arg 0)))).holds [] { args:=[.list (ns.map .int)] }=true:=by
   have f:=(holds_andW hc).1;rw[p] at f;show f
  have g:=condW_of f (w_not (w_lt w_lit (w_len_list (w_arg rfl))));rw[ya] at g;show Nat.le_of_not_lt fun q=>?_;have s:(n:Int)<((ns.length:Nat):Int):=by lk
  first
   | (rw[yD s] at g;show absurd g (by decide))
   | (simp at g;lk)
 cases j with
 | cons w1 w2 =>
  cases w2
  cases w1 with
  | list ho hall=>show⟨_,_,ns,rfl,rfl,ho,ints_of_wellAll ns _ hall,e⟩
theorem post_true(l:OpenLaw)(args:List WData):l.row.toRowW.claim.post args (.bool true) args=true:=
 postW_of (r:=l.row.toRowW) (X:=(true==true))
  (show WShape.has [] (.bool true) .bool=true by first | rfl | decide | simp[WShape.has,WShape.arms,WShape.armsAll])
  (show(WTm.eq .res (.lit (.bool true))).value [] { args:=args,res:=some (.bool true),after:=args }=some (.bool (true==true)) from w_eq_bool (w_res rfl) w_lit) rfl
theorem attach_call{q:Program}{loose:LS}{XP:(Str->Option Value)->Heap->Prop}{YP:World->Heap->Prop}{d:DefRec}
  (N:l.most=some n) (v:d.params.defaults=[])
  (call:∀(w:World) (c b:Shared) (s z:Str->Option Value) (h:Addr) (o:Obj) (A p e:Value) (a:Addr) (vs:List Value) (ns:LX),
   Ground q loose [] XP w c s z b.heap->YP w b.heap ->
   b.heap.get? h=some o->o.data=.func (docDef d.name d.params d.body d.scope A p e)->b.heap.CodeRec p d.name->s d.name=some (.ref h) ->
   b.heap.get? a=some { cls:=.type "list",data:=.seq vs.toArray }->IntsAre vs ns->ns.length<=n->b.gens=#[] ->
   codeAny (model l.prog w) callerA (.call (.ref h) ⟨[.ref a],[]⟩) (fun r t=>r=.ok (.ret (.bool true))/\OldK b.heap t.heap/\t.os=b.os/\AllBare t.gens) b) :
  WalkO q loose XP YP l.row.toRowW d [] (fun f vs=>PySem.call f vs):=by
 intro w c b s z G Y h o A p e E kV O J u B x K args D as m C R y L;obtain rfl:E=.none:=Dflts.none B v;obtain rfl:kV=.none:=Dflts.noKw B;obtain⟨a,vs,ns,rfl,rfl,j,g,i⟩:=script_of N m y;show enter_call (kC (call w c b s z h o A p e a vs ns G Y O (fd_plain J) u x j g i K) fun r t P=>?_);obtain⟨rfl,F,H,I⟩:=P;show⟨.inl ⟨.bool true,.bool true,[],rfl,fun _=>rfl,.bool true,post_true l _,fun _=>⟨List.Pairwise.nil,fun _ M=>(nomatch M)⟩⟩,F,H,I⟩
section
variable{prog:Program}{w:World}{A:Around}{E:Value->Shared->Prop}{s:Shared}{K:Frag}
def ledger(h:Heap)(L d:Addr):List (Addr×Obj):=(List.range h.objs.size).filterMap fun a=>if a=L\/a=d then none else(h.get? a).map fun o=>(a,o)
end
end Att
namespace L2
open PySem PySem.Spec PyProof.Rows
variable{A B:Prop}{H H':Hp}{a f:Addr}{fd:FuncData}{n:Nat}{ps:LS}{qual x:Str}{sp:Sp}{st:Stmt}
theorem qcW:∀{vs:List Value} {ns:LX},IntsAre vs ns->Vals (ns.map V.int) vs
 | _,_,.nil=>.nil
 | _,_,.cons n t h=>.cons ⟨t,rfl⟩ (qcW h)
def qgX(H:Hp):Prop:=∀ b,H b=none\/∃ o xs,H b=some (.frz o (.lst xs))
theorem law_call{P:Program}{w:World}{K:yg}{I U:Str->Option Value}{CX:CXT}{k:Nat}{N:Addr}{c:Shared}{vs:List Value}{ns:LX}
  (X:K.In c.heap) (C:c.heap.Ns mainGlobals I) (f:c.heap.Ns builtinsNs U) (R:∀ x:Str,x≠"__name__"->U x=bootBuiltins x) (B:c.heap.NoLimit) (hg:c.gens=#[])
  (L:c.heap.get? a=some { cls:=.type "list",data:=.seq vs.toArray }) (hi:IntsAre vs ns) (hl:ns.length<=sizeLine) (hr:Room k callerA)
  (F:∀ g:Heap,K.In g->g.Ns mainGlobals I->FnOk P w K I g CX k N fd [x] sp) (p:∀(s:Shared) (u:Value),BindsTo s fd ⟨[u],[]⟩ [(x,u)])
  (T:∀ H:Hp,qgX H->SqL K H a (ns.map V.int)->sp [.ref a] H (fun v _=>v=.bl true) fun _ _ _=>False)
  (O:∀ H e i,CX [] H c (fun _ _ _=>False) e i->False) :
  codeAny (model P w) callerA (.call (.ref N) ⟨[.ref a],[]⟩) (fun r i=>r=.ok (.ret (.bool true))/\OldK c.heap i.heap/\i.os=c.os/\AllBare i.gens) c:=by
 have rv:=qcW hi;have G:=hi.length;have l:∀ H:Hp,qgX H->SqL K H a (ns.map V.int)->HOk P w H c.heap->(∀ b,H b≠none->b=a)->(H a≠none->K.lookup a=none) ->
   codeAny (model P w) callerA (.call (.ref N) ⟨[.ref a],[]⟩) (fun r i=>r=.ok (.ret (.bool true))/\OldK c.heap i.heap/\i.os=c.os/\AllBare i.gens) c:=by
  intro H hO hS D Z hK;have base_of:∀{b:Addr} {o:Obj},c.heap.get? b=some o->H b=none->(qfp c.heap H).get? b=some o:=fun e n=>hidT_get e n
  have W:∀{b:Addr} {o:Obj} {y:Array DictEntry} {ep:Nat},c.heap.get? b=some o->o.data=.dict y ep->H b=none:=fun{b o y ep} e d=>by
   cases q:H b with
   | none=>rfl
   | some u =>
    have M:b=a:=Z b (by rw[q];simp);subst M;rw[L] at e;cases e;have d':Data.seq vs.toArray _=Data.dict y ep:=d;cases d'
  have j:∀{b:Addr} {m:Str->Option Value},c.heap.Ns b m->(qfp c.heap H).Ns b m:=fun{b m} ⟨o,y,ep,e,d,r⟩=>⟨o,y,ep,base_of e (W e d),d,r⟩
  have A:K.In (qfp c.heap H):=fun b o e=>base_of (X b o e) (by
   cases q:H b with
   | none=>rfl
   | some u =>
    have M:b=a:=Z b (by rw[q];simp);subst M;rw[hK (by rw[q];simp)] at e;cases e)
  have hM:Mod K I (qfp c.heap H):=⟨A,j C,⟨U,j f,R⟩,let ⟨mc,h1,h2⟩:=B;⟨mc,j h1,h2⟩⟩;have e0:Env0 P w K I (qfp c.heap H) callerA [] c H:=⟨rfl,hM,fun b o e=>of_hidT e,kB (hidT_size _ _),trivial,fun b f=>absurd (show b∈([]:LQ) from f) (by simp),D,.of_eq hg⟩;show kC ((F _ A (j C)).run callerA [] c H ⟨[.ref a],[]⟩ [.ref a] [.ref a] _ _ hr e0 (p c (.ref a)) (.cons rfl .nil) (T H hO hS)) fun r i h=>?_
  cases r with
  | error e=>show(O H e i h).elim
  | ok fl =>
   cases fl with
   | next=>show False.elim h
   | brk=>show False.elim h
   | cont=>show False.elim h
   | ret u =>
    obtain⟨v,H',os,t,un,E,r',q⟩:=h;have q':v=.bl true:=q;subst q';obtain rfl:u=Value.bool true:=r';show⟨rfl,OldK.of_keep fun b o e=>?_,os,t⟩
    cases q:H b with
    | none=>show un.keep b o e q (by intro z;show absurd (show b∈([]:LQ) from z) (by simp)) (by simp)
    | some u =>
     rcases hO b with z | ⟨ob,xs,z⟩
     .rw [q] at z;cases z
     .have z2:=un.frzs b ob _ z;obtain⟨Y,_⟩:=D b _ z;obtain⟨e2,_⟩:=E b _ z2;rw[e] at Y;cases Y;show e2
 cases S:K.lookup a with
 | some o =>
  have e:=X a o S;rw[L] at e;cases e;show l (fun _=>none) (fun _=>.inl rfl) (.inr ⟨_,vs.toArray,_,S,rfl,rfl,rfl,by rw[yz,G];show hl,by simpa using rv⟩) (fun b u z=>by have J:(none:Option HO)=some u:=z;cases J) (fun b z=>absurd rfl z) fun z=>absurd rfl z
 | none =>
  show l (fun b=>if b=a then some (.frz { cls:=.type "list",data:=.seq vs.toArray } (.lst (ns.map V.int))) else none) (fun b=>?_) (.inl (.inr ⟨{ cls:=.type "list",data:=.seq vs.toArray },yG rfl⟩)) (fun b u z=>?_) (fun b z=>?_) fun _=>S
  .by_cases f:b=a
   .show .inr ⟨_,_,yG f⟩
   .show .inl (yB f)
  .by_cases f:b=a
   .have J:=(yG f).symm.trans z;cases J;subst f;show⟨L,by rw[ya];show hl,vs,_,rv,L⟩
   .have J:=(yB f).symm.trans z;cases J
  .by_cases f:b=a
   .show f
   .show absurd (yB f) z
abbrev KOf{K:yg}{h:Heap}(_:K.In h):yg:=K
theorem walk_of{l:PySem.W.OpenLaw}{k:Nat}{q:Program}{loose:LS}{XP:(Str->Option Value)->Heap->Prop}{YP:World->Heap->Prop}{d:DefRec}{K:Params->yg}{CX:World->CXT}{sp:World->Sp}
  (U:l.most=some n) (B:n<=sizeLine) (z:d.params.defaults=[]) (X:Room k callerA)
  (O:∀(w:World) (h:Heap),YP w h->(K w.params).In h)
  (F:∀(w:World) (m:Str->Option Value) (t:Addr) (h:Heap),(K w.params).In h->h.Ns mainGlobals m->m d.name=some (.ref t) ->
   ∃ fd:FuncData,(∀(s:Shared) (u:Value),BindsTo s fd ⟨[u],[]⟩ [(x,u)]) /\
    ∀ c:Heap,(K w.params).In c->c.Ns mainGlobals m->FnOk l.prog w (K w.params) m c (CX w) k t fd [x] (sp w))
  (C:∀(w:World) (H:Hp) (a:Addr) (ns:LX),ns.length<=n->qgX H->SqL (K w.params) H a (ns.map V.int)->sp w [.ref a] H (fun v _=>v=.bl true) fun _ _ _=>False)
  (y:∀(w:World) (H:Hp) (s:Shared) (e:Value) (D:Shared),CX w [] H s (fun _ _ _=>False) e D->False) :
  PySem.W.WalkO q loose XP YP l.row.toRowW d [] (fun f vs=>PySem.call f vs):=by
 show Att.attach_call U z fun w I r m mb t o pm Z J a vs ns G Y ho hd R A p j i S=>?_;have E:=O w _ Y;obtain⟨fd,P,L⟩:=F w m t _ E G.T.g A;show law_call E G.T.g G.T.b G.T.builtins G.T.nolimit S p j (yi i B) X L P (fun H M N=>C w H a ns i M N) fun H e D=>y w H r e D
abbrev CX0:CXT:=fun _ _ _ _ _ _=>False
abbrev E0:XK:=fun _ _ _=>False
theorem qA{X:Cx}:qbk CX0 X E0:=fun _ _ _ _ _ _ _ h=>h.elim
structure Fun(K:yg)(x qual:Str)(st:Stmt)(f:Addr)(fd:FuncData):Prop where
 ex:∃(oc:Value) (od:Option Addr) (kV doc pm:Value) (an:Option Addr) (cdv ct:Value) (osl:Array (Option Value)),
  fd=PySem.W.fnOf x qual (qaG st) (qai st) (qg st) .none kV doc pm an cdv ct/\K.lookup f=some ⟨oc,od,.func fd,osl⟩/\PySem.W.codeIn K cdv qual=true
 kp:PySem.W.keepIn K (.ref f)=true
section
variable{P:Program}{w:World}{K:yg}{mg:Str->Option Value}{base:Heap}
theorem Fun.ok{N:LS}{k:Nat}(F:Fun K x qual st f fd)(S:FnScope N ps (qg st)) (c:∀(b:Value) (A:Around) (a:List Env) (s:Shared) (H:Hp) (vs:List V) (Q:VK) (E:XK),Room k (A.deeper (envOfC qual (qg st) s.heap.objs.size f b))->sp vs H Q E ->
   ∃ t,PSs (qgb CX0 P w K mg base N qual (qg st) f b A a s H E).nox (qai st) t/\t { nx:=fun _ H'=>Q .non H',rt:=Q } (start N vs) H) (g:∀ vs H Q E,sp vs H Q E->vs.length=ps.length:=by intro _ _ _ _ h;cases h;subst_vars;rfl):wq7 (k+1) f fd ps sp:=by
 obtain⟨o,od,kV,i,p,n,b,ct,m,rfl,l,d⟩:=F.ex;show fn_of l d S g fun A a s H vs Q E j e=>?_;obtain⟨t,h,q⟩:=c b A a s H vs Q E j e;show⟨t,h.nox,q⟩
theorem Fun.binds(F:Fun K x qual st f fd)
  (h:∀(kV b d:Value) (c:Option Addr) (a ct:Value) (us:List Value),us.length=ps.length->bindArgs (PySem.W.fnOf x qual (qaG st) (qai st) (qg st) .none kV b d c a ct) ⟨us,[]⟩=pure (ps.zip us)):Binds K fd ps []:=by
 obtain⟨j,od,kV,b,d,c,a,ct,g,rfl,i,e⟩:=F.ex;show .all (h kV b d c a ct)
theorem fun_mk{h:Value}{od e:Option Addr}{d:Array (Option Value)}{kV b g a ct:Value}(l:K.lookup f=some ⟨h,od,.func (PySem.W.fnOf x qual (qaG st) (qai st) (qg st) .none kV b g e a ct),d⟩)
  (c:PySem.W.codeIn K a qual=true) (k:PySem.W.keepIn K (.ref f)=true):Fun K x qual st f (PySem.W.fnOf x qual (qaG st) (qai st) (qg st) .none kV b g e a ct):=⟨⟨h,od,kV,b,g,e,a,ct,d,rfl,l,c⟩,k⟩
end
theorem qi(h:n<=1000):n<sizeLine:=Yp h (by decide)
section
variable{X:Cx}
theorem pv(i:Nat){b:Pos}(c:X.N[i]?=some x:=by rfl)(hv:Vis X.env.scope x:=by first | show yH rfl | show Y9 (yH rfl) | show Y9 (Y9 rfl))(d:(x==("__debug__":Str))=false:=by decide)
  (a:(x==("__classdict__":Str))=false:=by decide):PE X (.Name x b) (qeA i):=pe_var c hv d a
theorem call_lenD:zU X (.builtin "len") (fun xs H Q=>∃ a kvs,xs=[V.ref a]/\H a=some (.dK kvs)/\Q (.int kvs.length) H):=by
 intro b s g H xs us Q I r h;obtain⟨a,kvs,rfl,d,q⟩:=h;obtain⟨u,rfl,e⟩:=qbH r;cases e;show d_len I (.inl d) fun t f c=>⟨.int kvs.length,H,c,⟨t,rfl⟩,q⟩
end
theorem qad(h:A):if true=true then A else B:=by
 rw[yG rfl];show h
theorem qL{c:Prop}[Decidable c](h1:c->A)(a:¬ c->B):if c then A else B:=by
 by_cases h:c
 .rw [yG h];show h1 h
 .rw [yB h];show a h
def Same(H H':Hp):Prop:=∀ b o,H b=some o->H' b=some o
theorem Same.refl(H:Hp):Same H H:=fun _ _ h=>h
theorem Same.trans{d e:Hp}(a:Same H d)(b:Same d e):Same H e:=fun c o h=>b c o (a c o h)
theorem Same.free(e:Same H H'){l:Addr}(h:H' l=Option.none):H l=Option.none:=by
 cases q:H l with
 | none=>rfl
 | some o =>
  rw[e l o q] at h;cases h
theorem Same.seq{K:yg}{xs:List V}(e:Same H H')(h:SqL K H a xs):SqL K H' a xs:=by
 rcases h with(h | ⟨o,h⟩) | h
 .show .inl (.inl (e _ _ h))
 .show .inl (.inr ⟨o,e _ _ h⟩)
 .show .inr h
section
variable{κ:Type}[DecidableEq κ]
end
end L2
set_option maxHeartbeats 4000000
namespace L2
open PySem PySem.Spec PyProof.Rows
variable{C D c e it p:Addr}{E:Value->Shared->Prop}{H:Hp}{N:LS}{P:Program}{QO:Option Int->Hp->Prop}{R:It->Hp->Prop}{T:String}{X:Cx}{acc:List (Str×Addr)}{dx:Option Addr}{elt iter tg:Expr}{env:Env}{expr:Bool}{f:V->List V->Hp->VK->Prop}{fp:LQ}{g:TG}{h:Heap}{i j:Int}{ifs:List Expr}{its:List Value}{ixs:LN}{n nl:Nat}{names:List (Str×NameKind)}{od:Option Obj}{ox:Obj}{pins:List (Addr×Obj)}{pos:Pos}{s:Shared}{sc scope:Scope}{t u:Value}{tc:TT}{te:TE}{tk:Tok}{v y:V}{w:World}{wi:TI}{x z:Str}{xs ys:List V}{σ:St}
section
variable{prog:Program}{w:World}{A:Around}{R:Result->Shared->Prop}{s:Shared}
theorem compLoop_own{a:Expr}{it acc:Value}(I:Nat->Shared->Prop)
  (turn:∀ n s,I n s->wpAny (model prog w) A (pyNext it) (fun r e=>match r with
   | none=>R (.ok .next) e
   | some v=>wpAny (model prog w) A (letOwnedTupleGo a it v) (fun _ b=>wpAny (model prog w) A (assign a env v) (fun _ i =>
     wpAny (model prog w) A (forIn ifs true fun c r=>if r=true then do let ok <- isTrue c env (eval c env);pure (ForInStep.yield ok) else pure (ForInStep.yield r)) (fun ok f =>
      if ok=true then wpAny (model prog w) A (eval elt env) (fun x j =>
       wpAny (model prog w) A (call (.builtin "list.append") [acc,x]) (fun _ l=>∃ m,m<n/\I m l) (fun _ _=>False) j) (fun _ _=>False) f
      else ∃ m,m<n/\I m f) (fun _ _=>False) i) (fun _ _=>False) b) (fun _ _=>False) e) (fun _ _=>False) s)
  (n:Nat) (h:I n s) :
  codeAny (model prog w) A (.compLoop (.ListComp elt [⟨a,iter,ifs,0⟩] scope pos) 0 it acc env) R s:=by
 show codeAny_loop rfl I (fun n s t=>?_) n h;show wpAny _ A ((compTurn (.ListComp elt [⟨a,iter,ifs,0⟩] scope pos) 0 it acc env).onRaise (fun x=>do noteFrame x env;theTreesLotGoes x)) _ _ s;show wpAny_noted ?_;rw[compTurn_list];show yr (wpAny_standAt (yr (YY (turn n s t) (fun r e h1=>?_) fun _ _ h'=>h'.elim)))
 cases r with
 | none=>show yv h1
 | some v =>
  show yr (YY h1 (fun _ b d=>?_) fun _ _ h'=>h'.elim);show yr (YY d (fun _ i o=>yr (YY o (fun ok f g=>?_) fun _ _ h'=>h'.elim)) fun _ _ h'=>h'.elim)
  cases ok with
  | false=>show yv ⟨rfl,g⟩
  | true =>
   show yr (yr (YY g (fun x j p=>yr (YY p (fun _ l q=>yv (yv ⟨rfl,q⟩)) fun _ _ h'=>h'.elim)) fun _ _ h'=>h'.elim))
end
def qT(env:Env):List (Str×NameKind)->List (Str×Addr)->List (Str×Addr)
 | [],acc=>acc
 | (n,k)::r,acc=>qT env r (if (k==.free)=true then(n,(env.cells.lookup n).getD 0)::acc else acc)
theorem zV:∀{names:List (Str×NameKind)} {acc:List (Str×Addr)} {x:Str} {c:Addr},(qT env names acc).lookup x=some c ->
  ((x,NameKind.free)∈names/\c=(env.cells.lookup x).getD 0)\/acc.lookup x=some c
 | [],_,_,_,h=>.inr h
 | (n,k)::r,acc,x,c,h=>by
  unfold qT at h;rcases zV h with⟨h1,f⟩ | h1
  .show .inl ⟨yC _ h1,f⟩
  .by_cases a:(k==NameKind.free)=true
   .rw [yG a,xi] at h1
    cases b:x==n with
    | true =>
     rw[b] at h1;have e:x=n:=Yy.mp b;have d:k=.free:=Yy.mp a;subst e d;show .inl ⟨yU,(ym h1).symm⟩
    | false =>
     rw[b] at h1;show .inr h1
   .rw [yB a] at h1;show .inr h1
theorem qaS:∀{names:List (Str×NameKind)} {acc:List (Str×Addr)} {x:Str},(∃ c,acc.lookup x=some c)->∃ c,(qT env names acc).lookup x=some c
 | [],_,_,h=>h
 | (n,k)::r,acc,x,h=>by
  unfold qT;apply qaS;by_cases a:(k==NameKind.free)=true
  .rw [yG a,xi]
   cases b:x==n with
   | true=>show⟨_,rfl⟩
   | false=>show h
  .rw [yB a];show h
theorem zW:∀{names:List (Str×NameKind)} {acc:List (Str×Addr)} {x:Str},(x,NameKind.free)∈names->∃ c,(qT env names acc).lookup x=some c
 | [],_,_,h=>by cases h
 | (n,k)::r,acc,x,h=>by
  unfold qT;rcases yx.mp h with e | e
  .cases e;apply qaS;rw[show(NameKind.free==NameKind.free)=true from rfl,yG rfl,xi,Xe];show⟨_,rfl⟩
  .show zW e
theorem qaT(h:∀ n,(n,NameKind.free)∈scope.names->∃ c,env.cells.lookup n=some c):closureFor scope env=pure (qT env scope.names []):=by
 have f:∀(names:List (Str×NameKind)) (acc:List (Str×Addr)),(∀ n,(n,NameKind.free)∈names->∃ c,env.cells.lookup n=some c) ->
   (forIn names acc (fun(x:Str×NameKind) (r:List (Str×Addr))=>(if (x.2==NameKind.free)=true then(cellOf env x.1>>=fun c=>pure (ForInStep.yield ((x.1,c)::r))) else pure (ForInStep.yield r):Sem (ForInStep (List (Str×Addr))))))=(pure (qT env names acc):Sem (List (Str×Addr))):=by
  intro names
  induction names with
  | nil=>intro acc _;rfl
  | cons x r ih =>
   intro acc d;obtain⟨n,k⟩:=x;rw[Ka];unfold qT;by_cases a:(k==NameKind.free)=true
   .have g:k=.free:=Yy.mp a;subst g;obtain⟨c,hc⟩:=d n yU;have i:cellOf env n=pure c:=by unfold cellOf;rw[hc]
    simp only[a,XD,i,hc,Option.getD_some];show ih _ fun m b=>d m (yC _ b)
   .simp only[a,Xw];show ih _ fun m b=>d m (yC _ b)
 have e:=f scope.names [] h;unfold closureFor;show Eq.trans (congrArg (fun m=>m>>=pure) e) rfl
@[reducible] def Cx.comp(X:Cx)(N:LS)(scope:Scope)(C:Addr)(s0:Shared)(H0:Hp)(ex:LQ):Cx where
 prog:=X.prog
 w:=X.w
 K:=X.K
 mg:=X.mg
 base:=X.base
 A:=X.A
 N:=N
 s₀:=s0
 H₀:=H0
 env:=compEnvC scope (cellsFrom (C+1) scope.names (qT X.env scope.names [])) C X.env
 outer:=X.stack
 stack:=X.stack
 ex:=ex
 fn:=fun x=>scope.names.lookup x==some NameKind.cell
 calm:=X.calm
 pn:=[]
 xe:=fun _ _=>False
theorem jy:∀(names:List (Str×NameKind)) (n:Nat) (acc:List (Str×Addr)),cellsFrom n names acc=cellsFrom n names []++acc
 | [],_,_=>rfl
 | (m,k)::r,n,acc=>by
  unfold cellsFrom;split
  .rw [jy r (n+1) ((m,n)::acc),jy r (n+1) [(m,n)],Ys];rfl
  .show jy r n acc
theorem qaU:∀{names:List (Str×NameKind)} {n:Nat} {x:Str},(x,NameKind.cell)∈names->∃ c,(cellsFrom n names []).lookup x=some c
 | (m,k)::r,n,x,h=>by
  unfold cellsFrom;rcases yx.mp h with e | e
  .cases e;rw[yG (show(NameKind.cell==NameKind.cell)=true from rfl),jy,xH]
   cases q:(cellsFrom (n+1) r []).lookup m with
   | some c=>show⟨c,rfl⟩
   | none=>show⟨n,by show List.lookup m [(m,n)]=some n;rw[xi,Xe]⟩
  .split
   .rw [jy,xH];obtain⟨c,hc⟩:=qaU (n:=n+1) e;show⟨c,by rw[hc];rfl⟩
   .show qaU e
theorem qbN:∀{names:List (Str×NameKind)} {n:Nat} {x:Str} {c:Addr},(x,c)∈cellsFrom n names []->(x,NameKind.cell)∈names
 | (m,k)::r,n,x,c,h=>by
  unfold cellsFrom at h;split at h
  .rename_i hk
   rw[jy] at h;rcases yA.mp h with z | z
   .show yC _ (qbN z)
   .have e:(x,c)=(m,n):=yy.mp z;cases e;rw[Yy.mp hk];show yU
  .show yC _ (qbN h)
theorem qbO(h:(cellsFrom n names acc).lookup x=some c):(x,c)∈cellsFrom n names []\/acc.lookup x=some c:=by
 rw[jy,xH] at h
 cases e:(cellsFrom n names []).lookup x with
 | some d=>rw[e] at h;cases h;show .inl (mem_of_lookup e)
 | none=>rw[e] at h;show .inr h
theorem cells_some(h:(x,NameKind.cell)∈names\/∃ c,acc.lookup x=some c):∃ c,(cellsFrom n names acc).lookup x=some c:=by
 rw[jy,xH]
 cases e:(cellsFrom n names []).lookup x with
 | some d=>show⟨d,rfl⟩
 | none =>
  rcases h with z | ⟨c,hc⟩
  .obtain⟨d,a⟩:=qaU (n:=n) z;rw[e] at a;cases a
  .show⟨c,hc⟩
section
variable{M:Model}{A:Around}{E:Value->Shared->Prop}{s:Shared}
theorem newEnvK{c:Addr}{b:List (Str×Addr)}{g:Str}{f:Option Addr}{e:Value}{d:Env}{a:Addr}{Q:Env->Shared->Prop}
  (j:Q (newEnv scope s.heap.objs.size c (cellsFrom (s.heap.objs.size+1) scope.names b) g f e (some d) a) { s with heap:=pushCells (s.heap.push { cls:=.type "dict",data:=.dict #[] }) scope.names }) :
  wpAny M A (newFunctionEnv scope c b [] g f e (some d) a) Q E s:=by
 simp only[newFunctionEnv,XW,XD];show yr (wpAny_alloc ?_);show yr (wpAny_layCells _ (fun name kind h=>by cases i:kind==NameKind.cell<;>simp[i]) _ _ _ _ ?_);rw[show({ s with heap:=s.heap.push { cls:=.type "dict",data:=.dict #[] } }:Shared).heap.objs.size=s.heap.objs.size+1 from xF ..];rw[Kg];show yr (yv (yv j))
end
structure CompOk(sc scope:Scope):Prop where
 kind:scope.kind=.function
 cel:∀ y∈scope.names,y.2=.cell->scope.names.lookup y.1=some .cell
 loc:∀ y∈scope.names,y.2=.local->scope.names.lookup y.1=some .local
 free:∀ y∈scope.names,y.2=.free->sc.names.lookup y.1=some .cell\/sc.names.lookup y.1=some .free
 once:∀ y∈scope.names,y.2=.free->scope.names.lookup y.1=some .free
def qcX(sc scope:Scope):Bool:=decide (scope.kind=.function)&&scope.names.all fun y=>match y.2 with
 | .local=>scope.names.lookup y.1==some .local
 | .free=>(sc.names.lookup y.1==some .cell||sc.names.lookup y.1==some .free)&&scope.names.lookup y.1==some .free
 | .cell=>scope.names.lookup y.1==some .cell
 | _=>true
theorem qdY(h:qcX sc scope=true):CompOk sc scope:=by
 unfold qcX at h;rw[yY] at h;have b:=Yw.mp h.2;show⟨yk h.1,fun y a e=>?_,fun y a e=>?_,fun y a e=>?_,fun y a e=>?_⟩
 .have:=b y a;rw[e] at this;show Yy.mp this
 .have:=b y a;rw[e] at this;show Yy.mp this
 .have:=b y a;rw[e,yY,YJ] at this;show this.1.imp Yy.mp Yy.mp
 .have:=b y a;rw[e,yY] at this;show Yy.mp this.2
def qgP(nl:Nat)(ixs:LN)(N XN:LS)(names:List (Str×NameKind)):Bool:=(List.range ixs.length).all fun k=>match ixs[k]?,N[nl+k]? with
 | some j,some x=>XN[j]?==some x&&names.any fun y=>y.1==x&&y.2==.free
 | _,_=>true
theorem qeN{XN:LS}(h:qgP nl ixs N XN names=true)(k j:Nat)(x:Str)(h1:ixs[k]?=some j)(c:N[nl+k]?=some x):XN[j]?=some x/\(x,NameKind.free)∈names:=by
 have d:k<ixs.length:=(yc.mp h1).1;have:=Yw.mp h k (Yo.mpr d);rw[h1,c] at this;simp only[yY] at this;show⟨Yy.mp this.1,?_⟩;obtain⟨⟨n,g⟩,f,e⟩:=YK.mp this.2;rw[yY] at e;have a:n=x:=Yy.mp e.1;have b:g=.free:=Yy.mp e.2;subst a b;show f
def qeo(nl:Nat)(ixs:LN)(σ:St):St:=List.replicate nl none++ixs.map fun j=>(σ[j]?).getD none
theorem capS_len(nl:Nat)(ixs:LN)(σ:St):(qeo nl ixs σ).length=nl+ixs.length:=by
 unfold qeo;rw[yt,YL,ya]
theorem qdZ{i:Nat}(h:(qeo nl ixs σ)[i]?=some (some v)):nl<=i/\∃ j,ixs[i-nl]?=some j/\σ[j]?=some (some v):=by
 unfold qeo at h;by_cases a:i<nl
 .rw [Yg (by rw[YL];show a),Xc] at h;split at h<;>cases h
 .rw [yO (by rw[YL];lk),YL,yd] at h;show⟨by lk,?_⟩
  cases e:ixs[i-nl]? with
  | none=>rw[e] at h;cases h
  | some j =>
   rw[e] at h;have h':(σ[j]?).getD none=some v:=ym h
   cases q:σ[j]? with
   | none=>rw[q] at h';cases h'
   | some u =>
    rw[q] at h';show⟨j,rfl,by rw[q];show congrArg some h'⟩
def qfs(env:Env)(y:Str×NameKind):Str×NameKind:=if (y.2==NameKind.free&&env.scope.kind==.function&&env.kindOf y.1==some .cell)=true then(y.1,NameKind.cell) else(y.1,y.2)
theorem relF_fst(env:Env)(y:Str×NameKind):(qfs env y).1=y.1:=by unfold qfs;split<;>rfl
theorem relF_snd(env:Env)(y:Str×NameKind):(qfs env y).2=y.2\/((qfs env y).2=.cell/\y.2=.free):=by
 unfold qfs;split
 .rename_i h
  rw[yY,yY] at h;show .inr ⟨rfl,Yy.mp h.1.1⟩
 .show .inl rfl
theorem zx:∀{names:List (Str×NameKind)} {x:Str} {k:NameKind},(names.map (qfs env)).lookup x=some k->∃ b,names.lookup x=some b/\(x,b)∈names/\(k=b\/(k=.cell/\b=.free))
 | [],_,_,h=>by cases h
 | (n,k1)::r,x,k,h=>by
  rw[YC,show qfs env (n,k1)=((qfs env (n,k1)).1,(qfs env (n,k1)).2) from rfl,xi,relF_fst] at h;rw[xi]
  cases c:x==n with
  | true =>
   have e:x=n:=Yy.mp c;subst e;have a:(x==(x,k1).1)=true:=c;rw[a] at h;have h':=ym h;show⟨k1,rfl,yU,?_⟩;rcases relF_snd env (x,k1) with z | ⟨z1,z2⟩
   .show .inl (h'.symm.trans z)
   .show .inr ⟨h'.symm.trans z1,z2⟩
  | false =>
   have a:(x==(n,k1).1)=false:=c;rw[a] at h;obtain⟨b,d,f,g⟩:=zx h;show⟨b,d,yC _ f,g⟩
section
variable{X:Cx}{pins:List (Addr×Obj)}{σ:St}{H:Hp}{s:Shared}
theorem comp_free_of{b:List (Str×Addr)}(h:(compEnvC scope b C X.env).kindOf x=some .cell\/(compEnvC scope b C X.env).kindOf x=some .free):(x,NameKind.cell)∈scope.names\/(x,NameKind.free)∈scope.names:=by
 rcases h with h | h
 .obtain⟨c,_,a,e | ⟨_,e⟩⟩:=zx (env:=X.env) (names:=scope.names) h
  .rw [<- e] at a;show .inl a
  .rw [e] at a;show .inr a
 .obtain⟨c,_,a,e | ⟨e,_⟩⟩:=zx (env:=X.env) (names:=scope.names) h
  .rw [<- e] at a;show .inr a
  .cases e
theorem Inv.comp{T:Obj}{h1:Heap}{tk:Nat}(I:Inv X pins σ H s)(O:CompOk X.env.scope scope)
  (hN:N.length=nl+ixs.length) (J:∀(k j:Nat) (x:Str),ixs[k]?=some j->N[nl+k]?=some x->X.N[j]?=some x/\(x,NameKind.free)∈scope.names)
  (R:∀ b∈fp,qdo X pins H b) (K:∀ b∈fp,b<s.heap.objs.size) (M:s.heap.objs.size<=C) (Y:s.heap.objs.size<=D) (Z:D≠C) (ad:h1.Ns C fun _=>none) (k:∀ b o,s.heap.get? b=some o->h1.get? b=some o)
  (ae:h1.get? D=some T) (ab:∀ v,T.data≠.cell v) (E:CellsOk h1 (C+1) (cellsFrom (C+1) scope.names [])):Inv (X.comp N scope C s H fp) [(D,T)] (qeo nl ixs σ) H { s with heap:=h1,toks:=tk }:=by
 have a:∀ x c,(qT X.env scope.names []).lookup x=some c->X.env.cells.lookup x=some c/\(x,NameKind.free)∈scope.names:=fun x c h=>by
  rcases zV h with⟨h1,L⟩ | h1
  .obtain⟨G,l⟩:=I.ok.has x (by
    rcases O.free _ h1 rfl with z | z
    .show .inl z
    .show .inr z)
   rw[l] at L;show⟨by rw[l,L];rfl,h1⟩
  .cases h1
 have big:∀ c:Addr,C+1<=c->s.heap.objs.size<=c:=fun c h=>yi M (Nat.le_of_succ_le h);have S:∀{P:Prop} {c:Addr},C+1<=c->c<s.heap.objs.size->P:=fun h g=>absurd (yj g (big _ h)) (YB _)
 have all:∀ x c,(cellsFrom (C+1) scope.names (qT X.env scope.names [])).lookup x=some c->((x,c)∈cellsFrom (C+1) scope.names []/\C+1<=c/\h1.IsCell c none)\/(X.env.cells.lookup x=some c/\c<s.heap.objs.size):=fun x c h=>by
  rcases qbO h with z | z
  .show .inl ⟨z,(E.empty _ _ z).2,(E.empty _ _ z).1⟩
  .obtain⟨_,q⟩:=I.cell x c (a x c z).1;show .inr ⟨(a x c z).1,q.lt⟩
 show⟨⟨I.ok.mod,O.kind,I.ok.glob,I.ok.blt,M,fun x y c h1 L=>?inj,fun x hx=>cells_some ((comp_free_of hx).imp id zW),fun x c z h=>?cab,I.ok.hd,I.ok.frames,.inl rfl,
   fun b w=>⟨yT (yj (K b w) M),fun x c e=>?exf⟩,I.bs,yi I.ok.bsz I.sz,fun b o e w=>?_,fun b w z=>?_,I.stack,I.stkFree⟩,
  rfl,I.bare,Un.kept k,⟨_,ad,fun i x v e1 e2 e3=>?_⟩,fun x c e=>?_,I.hok.fresh M,fun x c e=>?fre,fun p hp=>?_,I.hok.kept k,?_⟩
 case inj =>
  rcases all x c h1 with⟨r,f,_⟩ | ⟨r,f⟩<;>rcases all y c L with⟨U,W,_⟩ | ⟨U,W⟩
  .show name_of_addr E.apart r U
  .show S f W
  .show S W f
  .show I.ok.inj x y c r U
 case cab =>
  rcases all x c h with⟨_,f,_⟩ | ⟨r,f⟩
  .show big _ f
  .exfalso;obtain⟨d,F⟩:=qaU (n:=C+1) (mem_of_lookup (Yy.mp z));have h:(cellsFrom (C+1) scope.names (qT X.env scope.names [])).lookup x=some c:=h;rw[jy,xH,F] at h;cases h;show S (E.empty _ _ (mem_of_lookup F)).2 f
 case exf =>
  rcases all x c e with⟨_,f,_⟩ | ⟨r,_⟩
  .show fun z=>S f (by rw[z];show K b w)
  .show(R b w).2.2.2.2.1 x c r
 case fre =>
  rcases all x c e with⟨_,f,_⟩ | ⟨r,_⟩
  .show I.hok.fresh (big _ f)
  .show I.freeC x c r
 .rcases(R b w).2.2.2.1 with z | z
  .show I.ok.noex b o e z
  .have:=(I.ok.bs b o e).1;show absurd (yj (yN this) z) (YB _)
 .rcases yx.mp (I.stkSub b z) with e | e
  .show(R b w).2.1 e
  .show(R b w).2.2.1 e
 .obtain⟨hi,j,hj,hv⟩:=qdZ e2;obtain⟨hx,t⟩:=J (i-nl) j x hj (by rw[Nat.add_sub_cancel' hi];show e1);obtain⟨m,hn,hl⟩:=I.loc;have E:=O.free _ t rfl
  obtain⟨u,ru,lk⟩:=hl j x v hx hv (by
   rcases E with z | z
   .show .inr (.inl z)
   .show .inr (.inr z))
  show⟨u,ru,?_⟩;rcases lk with⟨ac,_⟩ | ⟨_,c,hc,B⟩
  .have A:X.env.scope.names.lookup x=some .local:=ac;rcases E with z | z<;>· rw[z] at A;cases A
  .obtain⟨G,l⟩:=zW (env:=X.env) (acc:=[]) t
   have e:G=c:=by
    have:=(a x G l).1;rw[hc] at this;show(ym this).symm
   subst e
   have aa:(cellsFrom (C+1) scope.names (qT X.env scope.names [])).lookup x=some G:=by
    rw[jy,xH]
    cases q:(cellsFrom (C+1) scope.names []).lookup x with
    | none=>show l
    | some d=>have:=O.cel _ (qbN (mem_of_lookup q)) rfl;rw[O.once _ t rfl] at this;cases this
   show .inr ⟨?_,G,aa,?_⟩
   .rcases e3 with z | z | z
    .obtain⟨k0,z3,_,e | ⟨e,_⟩⟩:=zx (env:=X.env) (names:=scope.names) z
     .rw [O.once _ t rfl] at z3;cases z3;cases e
     .cases e
    .show .inl z
    .show .inr z
   .obtain⟨o,ho,F⟩:=B;show⟨o,k _ _ ho,F⟩
 .rcases all x c e with⟨_,_,a3⟩ | ⟨r,_⟩
  .show⟨none,a3⟩
  .obtain⟨v,o,ho,F⟩:=I.cell x c r;show⟨v,o,k _ _ ho,F⟩
 .have e:p=(D,T):=by simpa using hp
  subst e;show⟨ae,I.hok.fresh Y,Z,fun z=>?_,ab⟩;rcases yx.mp (I.stkSub D z) with e | e
  .show absurd (show X.env.locals<D from yj I.lt Y) (by rw[e];show YB _)
  .show I.nofs Y e
 .show(qeo nl ixs σ).length=N.length;rw[capS_len,hN]
theorem Inv.compBack{l:Shared}{H':Hp}{j:St}(I:Inv X pins σ H s)(h:∀ b∈fp,qdo X pins H b)(w:s.heap.objs.size<=C)(m:s.heap.objs.size<=D)
  (J:Inv (X.comp N scope C s H fp) [(D,{ cls:=.type "list",data:=.seq its.toArray n })] j H' l) (hv:Vals ys its) (hz:ys.length<=sizeLine):Inv X pins σ (upd H' D (.lst ys)) l:=by
 obtain⟨t,g,r,_,_⟩:=J.pin (D,{ cls:=.type "list",data:=.seq its.toArray n }) (yV _ (yy.mpr rfl));have i:∀ b o,s.heap.get? b=some o->b≠D:=fun b o e=>yT (yj (yN e) m);have a:=J.base;show I.call' (ch:=fp) J.os ⟨a.keep,a.slot,fun b o e n p=>?_,a.there,fun b xs e=>?_,fun b o u e=>?_,fun b ps e=>?_⟩ (fun b u e=>?_) J.bare fun b d=>⟨(h b d).2.2.2.1,(h b d).2.1,(h b d).2.2.2.2.1,(h b d).2.2.2.2.2⟩
 .rw [qf (i b o e)];show a.free b o e n p
 .have q:=a.tups b xs e;rw[qf (qJ q g)];show q
 .have q:=a.frzs b o u e;rw[qf (qJ q g)];show q
 .obtain⟨f,q⟩:=a.tbls b ps e;show⟨f,by rw[qf (qJ q g)];show q⟩
 .by_cases d:b=D
  .subst d;rw[qb] at e;cases e;show⟨hz,its,n,hv,t⟩
  .rw [qf d] at e;show(J.hok b u e).stay (fun c v _ q=>q) (fun c q=>by rw[qf (qJ q g)];show q) fun c xs q=>by rw[qf (qJ q g)];show q
end
def qhe:TT:=fun _ H Q=>Q true H
def qeO(wi:TI)(g:TG)(tc:TT)(te:TE)(nl:Nat)(ixs:LN):TE:=fun σ H Q=>wi σ H fun J e =>
 ∃ W:Nat->Nat->List V->Hp->Prop,(∃ m,W 0 m [] e)/\∀ i m ys H,W i m ys H ->
  (J.stop i H/\ys.length<=sizeLine/\∀ p,H p=none->Q (.ref p) (upd H p (.lst ys))) \/
  (J.go i H/\∃ M:List V->Hp->Prop,(∀ ys' H',M ys' H'->∃ d,d<m/\W (i+1) d ys' H')/\∀ x H',J.yld i H x H'->g x (qeo nl ixs σ) H' fun a f=>tc a f fun b c =>
   if b=true then te a c fun v h=>ys.length<sizeLine/\M (ys++[v]) h else M ys c)
def qep(nl:Nat)(g:TG):Prop:=∀ x σ H Q,g x σ H Q->g x σ H fun a b=>Q a b/\a.length=σ.length/\∀ i,nl<=i->a[i]?=σ[i]?
theorem qH{i:Nat}(h:i<nl:=by decide):qep nl (qb2 i):=fun x σ H Q q=>⟨q,xM ..,fun j a=>xQ (by lk)⟩
def qgc(X:Cx)(ifs:List Expr)(tc:TT):Prop:=
 ∀(pins:List (Addr×Obj)) (s:Shared) (σ:St) (H:Hp) (Q:Bool->Hp->Prop),Inv X pins σ H s->tc σ H Q ->
  wpAny (model X.prog X.w) X.A (forIn ifs true fun c r=>if r=true then do let ok <- isTrue c X.env (eval c X.env);pure (ForInStep.yield ok) else pure (ForInStep.yield r)) (TP X pins σ Q) X.xe s
theorem zy:qgc X [] qhe:=fun pins s σ H Q I h=>wpAny_tests_nil ⟨H,I,h⟩
theorem qK{c:Expr}(h:PT X c tc):qgc X [c] tc:=fun pins s σ H Q I q=>wpAny_tests_one (h pins s σ H Q I q)
section
variable{X:Cx}{pins:List (Addr×Obj)}{σ:St}{H:Hp}{s:Shared}
theorem qcb{tn:Nat->Heap->Prop}{J:It}{Q:V->Hp->Prop}
  {RR:Value->Addr->Result->Shared->Prop} (I:Inv X pins σ H s) (hc:X.calm=true) (O:CompOk X.env.scope scope)
  (hN:N.length=nl+ixs.length) (aj:∀(k j:Nat) (x:Str),ixs[k]?=some j->N[nl+k]?=some x->X.N[j]?=some x/\(x,NameKind.free)∈scope.names)
  (T:Turn X.prog X.w X.K tg J fp it tn) (st:tn 0 s.heap) (hf:∀ b∈fp,qdo X pins H b)
  (hg:∀ C s0 H0 ex,PG (X.comp N scope C s0 H0 ex) tg g) (gk:qep nl g) (hi:∀ C s0 H0 ex,qgc (X.comp N scope C s0 H0 ex) ifs tc) (he:∀ C s0 H0 ex,PE (X.comp N scope C s0 H0 ex) elt te)
  (h:∃ W:Nat->Nat->List V->Hp->Prop,(∃ m,W 0 m [] H)/\∀ i m ys H,W i m ys H ->
   (J.stop i H/\ys.length<=sizeLine/\∀ p,H p=none->Q (.ref p) (upd H p (.lst ys))) \/
   (J.go i H/\∃ M:List V->Hp->Prop,(∀ ys' H',M ys' H'->∃ m',m'<m/\W (i+1) m' ys' H')/\∀ x H',J.yld i H x H'->g x (qeo nl ixs σ) H' fun ap a=>tc ap a fun b H3 =>
    if b=true then te ap H3 fun v H4=>ys.length<sizeLine/\M (ys++[v]) H4 else M ys H3))
  (aw:∀(D C:Addr) (t:Shared) (H':Hp) (S:St) (ys:List V) (its:List Value) (n:Nat),s.heap.objs.size<=C->s.heap.objs.size<=D->Inv (X.comp N scope C s H fp) [(D,{ cls:=.type "list",data:=.seq its.toArray n })] S H' t->Vals ys its->ys.length<=sizeLine ->
   (∀ p,H' p=none->Q (.ref p) (upd H' p (.lst ys)))->RR (.ref D) C (.ok .next) t) :
  wpAny (model X.prog X.w) X.A (newList []) (fun acc s3=>wpAny (model X.prog X.w) X.A (newFunctionEnv scope X.env.globals (qT X.env scope.names []) [] X.env.qual none .none (some X.env)) (fun Y s4 =>
   codeAny (model X.prog X.w) X.A (.compStart (.ListComp elt [⟨tg,iter,ifs,0⟩] scope pos) 0 (.ref it) acc { Y with scope:=relabel scope X.env }) (RR acc Y.locals) s4) E s3) E s:=by
 obtain⟨W,⟨m0,w0⟩,turn⟩:=h;show xT (newEnvK ?_);dsimp only;generalize ac:s.heap.push { cls:=.type "list",dict:=none,data:=.seq ([]:List Value).toArray }=a;have aa:(pushCells (a.push { cls:=.type "dict",data:=.dict #[] }) scope.names).Ns a.objs.size fun _=>none:=(Heap.Ns.new a (.type "dict")).keeps (pushCells_keeps _ _);have G:=cellsFrom_ok scope.names (a.push { cls:=.type "dict",data:=.dict #[] }) (a.objs.size+1) [] ⟨fun _ _ hm=>(nomatch hm),List.Pairwise.nil⟩ (by rw[xF];show yh _);rw[xF] at G;have ad:∀ b o,a.get? b=some o->(pushCells (a.push { cls:=.type "dict",data:=.dict #[] }) scope.names).get? b=some o:=fun b o e=>pushCells_keeps _ _ b o (yw _ e);generalize pushCells (a.push { cls:=.type "dict",data:=.dict #[] }) scope.names=h1 at aa G ad ⊢;have hC:a.objs.size=s.heap.objs.size+1:=by rw[<- ac,xF]
 have av:s.heap.objs.size≠a.objs.size:=by rw[hC];show yT (X7 _)
 have Z:s.heap.objs.size<=a.objs.size:=by rw[hC];show xS _
 have l:∀ b,b<s.heap.objs.size->b≠a.objs.size/\b≠s.heap.objs.size:=fun b f=>⟨by rw[hC];show yT (Nat.lt_succ_of_lt f),yT f⟩;have ae:∀ b o,s.heap.get? b=some o->h1.get? b=some o:=fun b o e=>ad b o (ac ▸ yw _ e);have ah:h1.get? s.heap.objs.size=some { cls:=.type "list",data:=.seq ([]:List Value).toArray }:=ad _ _ (ac ▸ yZ _ rfl)
 have F:∀ b∈fp,b<s.heap.objs.size:=fun b f=>by
  obtain⟨o,ho,_⟩:=T.obj 0 _ st b f;show yN ho
 have ab:∀ s3:Shared,s3={ s with heap:=h1 } ->
   codeAny (model X.prog X.w) X.A (.compLoop (.ListComp elt [⟨tg,iter,ifs,0⟩] scope pos) 0 (.ref it) (.ref s.heap.objs.size) (compEnvC scope (cellsFrom (a.objs.size+1) scope.names (qT X.env scope.names [])) a.objs.size X.env)) (RR (.ref s.heap.objs.size) a.objs.size) s3:=by
  rintro s3 rfl;have I0:=I.comp (N:=N) (C:=a.objs.size) (D:=s.heap.objs.size) (h1:=h1) (tk:=s.toks) O hN aj hf F Z (yh _) av aa ae ah (fun v z=>by cases z) G
  have B:∀{H':Hp} {S:St} {t:Shared} {pl:List (Addr×Obj)},Inv (X.comp N scope a.objs.size s H fp) pl S H' t->(∀ p∈pl,p.1=s.heap.objs.size)->(∀ b∈fp,H' b=none)->∀ b∈fp,qdo (X.comp N scope a.objs.size s H fp) pl H' b:=fun{H' S t pl} J ay hn b f =>
   ⟨hn b f,(l b (F b f)).1,fun z=>(by
     rcases yx.mp (I.stkSub b z) with e | e
     .show(hf b f).2.1 e
     .show(hf b f).2.2.1 e),.inl f,J.ok.exf b f |>.2,fun p P z=>by
    have e:=ay p (by simpa using P);rw[e] at z;show(l b (F b f)).2 z.symm⟩
  show compLoop_own (fun k t=>∃ i H' ys its n,Inv (X.comp N scope a.objs.size s H fp) [(s.heap.objs.size,{ cls:=.type "list",data:=.seq its.toArray n })] (qeo nl ixs σ) H' t/\tn i t.heap/\(∀ b∈fp,H' b=none)/\Vals ys its/\W i k ys H') ?_ m0
   ⟨0,H,[],[],0,I0,T.keep _ _ _ st fun b _ o e=>ae b o e,fun b f=>(hf b f).1,.nil,w0⟩
  rintro k t ⟨i,H',ys,its,n,J1,an,ag,v1,w1⟩
  have one:∀ p∈[((s.heap.objs.size,{ cls:=.type "list",data:=.seq its.toArray n }):Addr×Obj)],p.1=s.heap.objs.size:=fun p P=>by
   have e:p=_:=yy.mp P;rw[e]
  rcases turn i k ys H' w1 with⟨ao,hz,q⟩ | ⟨go,M,hM,step⟩
  .show thn (T.done (X.comp N scope a.objs.size s H fp) rfl rfl rfl hc i _ t _ H' _ J1 (B J1 one ag) an ao) fun r s4 ⟨hr,J4⟩=>?_;subst hr;show aw _ _ s4 H' _ ys its n Z (yh _) J4 v1 hz q
  .show thn (T.item (X.comp N scope a.objs.size s H fp) rfl rfl rfl hc i _ t _ H' _ J1 (B J1 one ag) an go) fun r s4 ⟨u,hr,h4⟩=>?_;subst hr;show thn h4 fun _ s5 ⟨x,H5,J5,r5,y5,af,ar⟩=>?_;have aq:=J5.pinned (B J5 one ar) (T.obj _ _ af);show thn (hg _ _ _ _ _ s5 _ H5 x u _ aq r5 (gk _ _ _ _ (step x H5 y5))) fun _ s6 ⟨U,H6,J6,q6,l6,k6⟩=>?_;show thn (hi _ _ _ _ _ s6 U H6 _ J6 q6) fun ok s7 ⟨H7,J7,q7⟩=>?_;have again:∀{R:Shared} {H8:Hp} {ys':List V} {k':Nat},Inv (X.comp N scope a.objs.size s H fp) ([((s.heap.objs.size,{ cls:=.type "list",data:=.seq its.toArray n }):Addr×Obj)]++qcJ fp s5.heap) U H8 R ->
     (∀ b o,b≠s.heap.objs.size->R.heap.get? b=some o->R.heap.get? b=some o)->tn (i+1) R.heap/\∀ b∈fp,H8 b=none:=fun{R H8 ys' k'} J8 _=>by
    show⟨T.keep _ _ _ af fun b f o e=>(J8.pin (b,o) (yV _ (yV _ (qap f e)))).1,fun b f=>?_⟩;obtain⟨o,e,d⟩:=T.obj _ _ af b f;show(J8.pin (b,o) (yV _ (yV _ (qap f e)))).2.1
   have wk:∀(j:Nat) v,(qeo nl ixs σ)[j]?=some (some v)->U[j]?=some (some v):=fun j v e=>by
    obtain⟨hj,_⟩:=qdZ e;rw[k6 j hj];show e
   cases ok with
   | false =>
    rw[yB Yu] at q7 ⊢;obtain⟨m',hm,w7⟩:=hM _ _ q7;obtain⟨ba,as⟩:=again (ys':=ys) (k':=0) J7 (fun _ _ _ e=>e);show⟨m',hm,i+1,H7,ys,its,n,J7.unpinned.weak l6.symm wk,ba,as,v1,w7⟩
   | true =>
    rw[yG rfl] at q7 ⊢;show thn (he _ _ _ _ _ s7 U H7 _ J7 q7) fun y R ⟨v,H8,J8,r8,bc,mq⟩=>?_;obtain⟨m',hm,w8⟩:=hM _ _ mq;obtain⟨bb,au⟩:=again (ys':=ys) (k':=0) J8 (fun _ _ _ e=>e);have J9:=J8.unpinned;obtain⟨pD,nD,am,az,_⟩:=J9.pin (s.heap.objs.size,{ cls:=.type "list",data:=.seq its.toArray n }) (yV _ (yy.mpr rfl));show wpAny_list_append_plain (hsz:=by rw[yz,<- v1.length];lk) ⟨n,pD⟩ fun h9 L al=>?_;obtain⟨n9,L⟩:=L;have e9:(its.toArray.push y)=(its++[y]).toArray:=by simp
    rw[e9] at L
    have Ja:Inv (X.comp N scope a.objs.size s H fp) [] (qeo nl ixs σ) H8 { R with heap:=h9,toks:=R.toks }:=
     ((J9.pins_of (pins':=[]) fun p P=>absurd P (by simp)).turned (it:=s.heap.objs.size) (h':=h9) (t':=R.toks) (fun b o f e=>(al.2 b f).trans e) nD am (.inr (yh _))
      (fun x c e z=>by
       rcases qbO e with w | e
       .have:=(G.empty _ _ w).2;rw[z,hC] at this;show absurd (yi (xS _) this) (Nat.not_succ_le_self _)
       have:=zV e;rcases this with⟨ax,hcc⟩ | hcc
       .obtain⟨c',ai⟩:=I.ok.has x (by
         rcases O.free _ ax rfl with q | q
         .show .inl q
         .show .inr q)
        rw[ai] at hcc;have ak:c=c':=hcc;obtain⟨_,q⟩:=I.cell x c' ai;rw[<- ak,z] at q;show absurd q.lt (YB _)
       .cases hcc) (fun p P=>absurd P (by simp))).weak l6.symm wk
    show⟨m',hm,i+1,H8,ys++[v],its++[y],n9,Ja.pins_of fun p P=>?_,?_,au,v1.append (.cons r8 .nil),w8⟩
    .have e:p=_:=yy.mp P;subst e;show⟨L,nD,am,az,fun v z=>by cases z⟩
    .show T.keep _ _ _ bb fun b f o e=>(al.2 b (l b (F b f)).2).trans e
 show codeAny_compStart_list (ab _ rfl) (T.self _ 0 _ _ _ (T.keep _ _ _ st fun b _ o e=>ae b o e) (ab _ rfl))
end
section
variable{X:Cx}{tg elt iter:Expr}{ifs:List Expr}{scope:Scope}{pos:Pos}{N:LS}{nl:Nat}{ixs:LN}{wi:TI}{g:TG}{tc:TT}{te:TE}
theorem q9{XN:LS}(N:LS)(nl:Nat)(ixs:LN)(F:X.env.scope=sc)(u:X.N=XN)(hc:X.calm=true)(M:qcX sc scope=true)(U:N.length=nl+ixs.length)(d:qgP nl ixs N XN scope.names=true)
  (hi:PI X tg iter wi) (hg:∀ C r i ex,PG (X.comp N scope C r i ex) tg g) (P:qep nl g) (ht:∀ C r i ex,qgc (X.comp N scope C r i ex) ifs tc) (Z:∀ C r i ex,PE (X.comp N scope C r i ex) elt te)
  (hs:∀ x,foldedSetIterable iter X.env x=pure x:=by intro _;rfl):PE X (.ListComp elt [⟨tg,iter,ifs,0⟩] scope pos) (qeO wi g tc te nl ixs):=by
 intro pins s σ H Q I h;subst F u;have O:=qdY M;have l:=qeN d;rw[eval_ListComp]
 have y:=qaT (scope:=scope) (env:=X.env) fun n E=>I.ok.has n (by
  rcases O.free _ E rfl with z | z
  .show .inl z
  .show .inr z)
 show wpAny_comprehension_free (use:=none) rfl hs y O.kind O.loc (thn (hi pins s σ H _ I h) fun v s1 h1=>thn h1 fun aa s2 R=>?_);obtain⟨it,fp,tn,J,H2,e,f,T,K,L,W⟩:=R;subst e;show qcb (Q:=Q) (RR:=fun acc C=>compPost (model X.prog X.w) X.A X.xe none (EP X pins σ Q) acc C) f hc O U l T K L hg P ht Z W ?_;intro D C s' H' ab ys its n j S t hv hz q;obtain⟨m,E,_⟩:=id t.loc;have B:=f.compBack L j S t hv hz;obtain⟨_,nD,G,_,_⟩:=t.pin (D,{ cls:=.type "list",data:=.seq its.toArray n }) (yV _ (yy.mpr rfl));show⟨m,E,fun h' sb=>⟨.ref D,_,?_,rfl,q D nD⟩⟩;show B.turned (it:=C) (h':=h') (t':=s'.toks) (fun b o Y e=>(sb.2 b Y).trans e) ((qf (H:=H') (a:=D) (b:=C) (o:=.lst ys) (Ym G)).trans t.free) (Yj (yj f.lt j)) (.inr (yi f.sz j)) (fun x c e z=>?_) (fun p hp z=>?_)
 .obtain⟨_,q⟩:=f.cell x c e;show absurd (yj q.lt (by rw[z];show j)) (YB _)
 .show absurd (yj (yN (f.pin p hp).1) (by rw[z];show j)) (YB _)
theorem zJ{i:Nat}{y:Str}{r f:Pos}{XN:LS}(N:LS)(nl:Nat)(ixs:LN)(Y:X.env.scope=sc)(u:X.N=XN)(hc:X.calm=true)(O':qcX sc scope=true)(hN:N.length=nl+ixs.length)(l:qgP nl ixs N XN scope.names=true)
  (P:X.N.Nodup) (S:X.N[i]?=some y) (hy:X.env.scope.names.lookup y=some .local)
  (hi:PI X tg iter wi) (hg:∀ C G t ex,PG (X.comp N scope C G t ex) tg g) (gk:qep nl g) (ht:∀ C G t ex,qgc (X.comp N scope C G t ex) ifs tc) (he:∀ C G t ex,PE (X.comp N scope C G t ex) elt te)
  (Z:swapsWith (.ListComp elt [⟨tg,iter,ifs,0⟩] scope pos) (some (.Name y r)) f.line X.env=pure true:=by rfl)
  (hs:∀ x,foldedSetIterable iter X.env x=pure x:=by intro _;rfl):PS X (.Assign [.Name y r] (.ListComp elt [⟨tg,iter,ifs,0⟩] scope pos) f) (qgm (qeO wi g tc te nl ixs) (qb2 i)):=by
 intro pins s σ H L I h;subst Y u;have O:=qdY O';have E:=qeN l
 have R:=qaT (scope:=scope) (env:=X.env) fun n U=>I.ok.has n (by
  rcases O.free _ U rfl with z | z
  .show .inl z
  .show .inr z)
 rw[exec_Assign_Name_used _ _ _ _ Z];show yr (wpAny_standAt (yr ?_));show wpAny _ X.A (do let _ <- comprehension (.ListComp elt [⟨tg,iter,ifs,0⟩] scope pos) scope X.env _ (newList []) false (eval iter X.env) (some (assign (.Name y r) X.env))) _ _ s;show yr (YY (wpAny_comprehension_free (use:=some (assign (.Name y r) X.env)) (Q:=fun _ F=>SP X pins L .next F) rfl hs R O.kind O.loc
  (thn (hi pins s σ H _ I h) fun v s1 h1=>thn h1 fun ad s2 h2=>?_)) (fun _ F hq=>yv (yv hq)) fun _ _ e=>e)
 obtain⟨it,fp,tn,J,H2,e,d,T,ac,f2,hW⟩:=h2;subst e;show qcb (Q:=fun v H'=>qb2 i v σ H' L.nx) (RR:=fun acc C=>compPost (model X.prog X.w) X.A X.xe (some (assign (.Name y r) X.env)) (fun _ F=>SP X pins L .next F) acc C) d hc O hN E T ac f2 hg gk ht he hW ?_;intro D C F H' ae ys its n j hD K hv hz q;obtain⟨m,U,_⟩:=id K.loc;have B:=d.compBack f2 j hD K hv hz;obtain⟨_,nD,aa,_,_⟩:=K.pin (D,{ cls:=.type "list",data:=.seq its.toArray n }) (yV _ (yy.mpr rfl));show wpAny _ X.A (assign (.Name y r) X.env (.ref D)) _ _ _;show wpAny_assign_Name (qcF (i:=i) (x:=y) (v:=.ref D) B P S (.inl hy) rfl (fun ab B' W=>?_) (.inr hy));obtain⟨a,sa,ha⟩:=W
 have M:C≠a:=by
  rintro rfl;rcases ha with z | z
  .show absurd (show X.env.locals<C from yj d.lt j) (by rw[z];show YB _)
  .obtain⟨_,q⟩:=d.cell y C z;show absurd (yj q.lt j) (YB _)
 show⟨m,U.sameBut sa M,fun h' sb=>⟨_,_,?_,q D nD⟩⟩;show B'.turned (it:=C) (h':=h') (t':=ab.toks) (fun b o hb e=>(sb.2 b hb).trans e) ((qf (H:=H') (a:=D) (b:=C) (o:=.lst ys) (Ym aa)).trans K.free) (Yj (yj d.lt j)) (.inr (yi d.sz j)) (fun x c e z=>?_) (fun p hp z=>?_)
 .obtain⟨_,q⟩:=d.cell x c e;show absurd (yj q.lt (by rw[z];show j)) (YB _)
 .show absurd (yj (yN (d.pin p hp).1) (by rw[z];show j)) (YB _)
end
def Its(x:Str):It:=⟨fun i _=>i<x.cps.size,fun i H v H'=>H'=H/\∃ c,x.cps[i]?=some c/\v=.str ⟨#[c]⟩,fun i _=>i=x.cps.size⟩
theorem qd0{K:yg}{t:Tok}(W:∀ A:Around,A.handled=none->Walks P w A it [it] [it] x.cps.size (SignAt x) fun i h=>h.IsStrIter it T x t i)
  (L:∀(A:Around) (i:Nat) (s:Shared) (Q:Value->Shared->Prop) (E:Value->Shared->Prop),s.heap.IsStrIter it T x t i->Q (.ref it) s->wpAny (model P w) A (pyIter (.ref it)) Q E s)
  (C:∀ v,letOwnedTupleGo tg (.ref it) v=pure ()):Turn P w K tg (Its x) [it] it (fun i h=>h.IsStrIter it T x t i) where
 mem:=by simp
 obj:=fun i h st b a=>by
  have e:b=it:=by simpa using a
  subst e;obtain⟨o,e,c,d⟩:=st;show⟨o,e,fun v z=>by rw[d] at z;cases z⟩
 keep:=fun i h h' st k=>by
  obtain⟨o,e,r⟩:=st;show⟨o,k it (by simp) o e,r⟩
 item:=by
  intro X q hw p hc i pins s σ H E I f st B;subst q hw p;obtain⟨g,j,J,l,m,n⟩:=f it (by simp);show(W X.A (I.ok.hd hc)).item i s _ _ B st fun v h' tk hv F D=>?_;obtain⟨c,u,y,rfl⟩:=hv;have G:Inv X pins σ H { s with heap:=h',toks:=tk }:=I.turned (fun b o a e=>D b o (by simpa using a) e) g j l m n;show⟨_,rfl,Y3 (C _) ⟨.str ⟨#[c]⟩,H,G,⟨u,rfl⟩,⟨rfl,c,y,rfl⟩,F,fun b a=>(f b a).1⟩⟩
 done:=by
  intro X q hw p hc i pins s σ H E I f st B;subst q hw p;obtain⟨g,j,J,l,m,n⟩:=f it (by simp);have e:i=x.cps.size:=B;subst e;show(W X.A (I.ok.hd hc)).done s _ _ st fun h' tk D=>⟨rfl,I.turned (fun b o a e=>D b o (by simpa using a) e) g j l m n⟩
 self:=L
section
variable{X:Cx}{tg:Expr}
end
section
variable{K:yg}{a:Addr}{xs:List V}{g:TG}{tc:TT}{te:TE}{σ':St}{H1:Hp}{Q:V->Hp->Prop}
def qeP(J:It)(g:TG)(tc:TT)(te:TE)(σ':St)(H1:Hp)(Q:V->Hp->Prop):Prop:=
 ∃ W:Nat->Nat->List V->Hp->Prop,(∃ m,W 0 m [] H1)/\∀ i m ys H,W i m ys H ->
   (J.stop i H/\ys.length<=sizeLine/\∀ p,H p=none->Q (.ref p) (upd H p (.lst ys))) \/
   (J.go i H/\∃ M:List V->Hp->Prop,(∀ ys' H',M ys' H'->∃ d,d<m/\W (i+1) d ys' H')/\∀ x H',J.yld i H x H'->g x σ' H' fun a e=>tc a e fun b c =>
    if b=true then te a c fun v f=>ys.length<sizeLine/\M (ys++[v]) f else M ys c)
theorem qF(c:Nat->List V->Hp->Prop)(n:c 0 [] H1)(hl:∀ i ys H,i<=xs.length->c i ys H->SqL K H a xs)
  (s:∀ i x ys H,xs[i]?=some x->c i ys H->g x σ' H fun f j=>tc f j fun b h=>if b=true then te f h fun v l=>ys.length<sizeLine/\c (i+1) (ys++[v]) l else c (i+1) ys h)
  (o:∀ ys H,c xs.length ys H->ys.length<=sizeLine/\∀ p,H p=none->Q (.ref p) (upd H p (.lst ys))):qeP (Itl K a) g tc te σ' H1 Q:=by
 show⟨fun i m ys H=>m=xs.length-i/\i<=xs.length/\c i ys H,⟨xs.length,by simp,YS _,n⟩,?_⟩;rintro i m ys H ⟨rfl,r,p⟩;have q:=hl i ys H r p;by_cases d:i<xs.length
 .show .inr ⟨⟨xs,xs[i],q,by simp[d]⟩,c (i+1),fun ys' H' t=>⟨xs.length-(i+1),by lk,rfl,d,t⟩,fun x H' y=>?_⟩;obtain⟨e,y⟩:=y;subst e;show s i x ys _ (y xs q) p
 .have e:i=xs.length:=by lk
  subst e;show .inl ⟨⟨xs,q,yh _⟩,o ys H p⟩
theorem jW{lo:Int}(a:Nat->List V->Hp->Prop)(l:a 0 [] H1)
  (q:∀ i ys H,i<n->a i ys H->g (.int (lo+i)) σ' H fun d h=>tc d h fun b f=>if b=true then te d f fun v j=>ys.length<sizeLine/\a (i+1) (ys++[v]) j else a (i+1) ys f)
  (o:∀ ys H,a n ys H->ys.length<=sizeLine/\∀ p,H p=none->Q (.ref p) (upd H p (.lst ys))):qeP (Itr lo n) g tc te σ' H1 Q:=by
 show⟨fun i m ys H=>m=n-i/\i<=n/\a i ys H,⟨n,by simp,YS _,l⟩,?_⟩;rintro i m ys H ⟨rfl,s,p⟩;by_cases c:i<n
 .show .inr ⟨c,a (i+1),fun ys' H' r=>⟨n-(i+1),by lk,rfl,c,r⟩,fun x H' y=>?_⟩;obtain⟨e,y⟩:=y;subst e y;show q i ys _ c p
 .have e:i=n:=by lk
  subst e;show .inl ⟨yh _,o ys H p⟩
theorem comp_str(a:Nat->List V->Hp->Prop)(n:a 0 [] H1)
  (q:∀ i c ys H,x.cps[i]?=some c->a i ys H->g (.str ⟨#[c]⟩) σ' H fun f j=>tc f j fun b h=>if b=true then te f h fun v l=>ys.length<sizeLine/\a (i+1) (ys++[v]) l else a (i+1) ys h)
  (o:∀ ys H,a x.cps.size ys H->ys.length<=sizeLine/\∀ p,H p=none->Q (.ref p) (upd H p (.lst ys))):qeP (Its x) g tc te σ' H1 Q:=by
 show⟨fun i m ys H=>m=x.cps.size-i/\i<=x.cps.size/\a i ys H,⟨x.cps.size,by simp,YS _,n⟩,?_⟩;rintro i m ys H ⟨rfl,s,p⟩;by_cases d:i<x.cps.size
 .show .inr ⟨d,a (i+1),fun ys' H' r=>⟨x.cps.size-(i+1),by lk,rfl,d,r⟩,fun v H' y=>?_⟩;obtain⟨e,c,hc,y⟩:=y;subst e y;show q i c ys _ hc p
 .have e:i=x.cps.size:=by lk
  subst e;show .inl ⟨rfl,o ys H p⟩
end
def qcY:V->Option Value
 | .ty n=>some (.type n)
 | .ref a=>some (.ref a)
 | _=>none
theorem qcc{c:Value}(h:qcY y=some c)(r:RelV y u):u=c:=by
 cases y with
 | ty n=>cases h;show r
 | ref a=>cases h;show r
 | _=>cases h
section
variable{X:Cx}{pins:List (Addr×Obj)}{σ:St}{H:Hp}{s:Shared}
theorem TyOf.kit{x:V}(I:Inv X pins σ H s)(b:RelV x u)(ty:TyOf X.K H x t):∃ P:Heap->Prop,PySem.W.KitX X.K u t P/\P s.heap/\u≠.builtin "__main__.__loader__#opaque":=by
 cases ty with
 | non=>cases (show u=Value.none from b);show⟨_,PySem.W.kitx_none,Y0,(fun z=>nomatch z)⟩
 | bl y=>cases (show u=Value.bool y from b);show⟨_,PySem.W.kitx_bool,Y0,(fun z=>nomatch z)⟩
 | int i=>obtain⟨t,q⟩:=(show ∃ t,u=Value.int i t from b);cases q;show⟨_,PySem.W.kitx_int,Y0,(fun z=>nomatch z)⟩
 | str y=>obtain⟨t,q⟩:=(show ∃ t,u=Value.str y t from b);cases q;show⟨_,PySem.W.kitx_str,Y0,(fun z=>nomatch z)⟩
 | flt y=>obtain⟨t,q⟩:=(show ∃ t,u=Value.float y t from b);cases q;show⟨_,PySem.W.kitx_float,Y0,(fun z=>nomatch z)⟩
 | @lst a xs ea =>
  cases (show u=Value.ref a from b);obtain⟨_,_,n,_,h1⟩:=(show ObjOk X.prog X.w H s.heap a (.lst xs) from I.hok a _ ea);show⟨_,PySem.W.kitx_list,⟨_,h1,rfl⟩,(fun z=>nomatch z)⟩
 | @frz a ob xs ea =>
  cases (show u=Value.ref a from b);obtain⟨_,_,_,n,_,h1⟩:=(show ObjOk X.prog X.w H s.heap a (.frz ob (.lst xs)) from I.hok a _ ea);show⟨_,PySem.W.kitx_list,⟨_,h1,rfl⟩,(fun z=>nomatch z)⟩
 | @tup a xs ea =>
  cases (show u=Value.ref a from b);obtain⟨_,_,_,p⟩:=(show ObjOk X.prog X.w H s.heap a (.tup xs) from I.hok a _ ea);obtain⟨o,h1,c,_⟩:=p;show⟨_,PySem.W.kitx_tuple,⟨o,h1,c⟩,(fun z=>nomatch z)⟩
 | @dK a kvs ea =>
  cases (show u=Value.ref a from b);obtain⟨_,_,vs,_,p⟩:=(show ObjOk X.prog X.w H s.heap a (.dK kvs) from I.hok a _ ea);obtain⟨o,d,ep,h1,c,_⟩:=p;show⟨_,PySem.W.kitx_dict,⟨o,h1,c.1⟩,(fun z=>nomatch z)⟩
 | @dT a kvs ea =>
  cases (show u=Value.ref a from b);obtain⟨_,_,xs,_,o,d,ep,h1,c,_⟩:=(show ObjOk X.prog X.w H s.heap a (.dT kvs) from I.hok a _ ea);show⟨_,PySem.W.kitx_dict,⟨o,h1,c.1⟩,(fun z=>nomatch z)⟩
 | @ins a C dx fs ea cl ha hn htk hm =>
  cases (show u=Value.ref a from b);obtain⟨e,O,_⟩:=qbc I.hok ea;obtain⟨od,J,_⟩:=O.look;show⟨_,PySem.W.kitx_own (cl.get _) cl.hd ha hn htk hm,J,(fun z=>nomatch z)⟩
end
section
variable{X:Cx}
theorem qbP:∀{ys:List V} {a us:List Value},ys.map qcY=a.map some->Vals ys us->us=a
 | [],[],_,_,.nil=>rfl
 | [],_::_,_,h,_=>by cases h
 | y::ys,[],_,h,_=>by cases h
 | y::ys,c::a,_,h,.cons r t=>by
  rw[YC,YC] at h
  injection h with h1 h2
  rw[qcc h1 r,qbP h2 t]
theorem qci:∀{bs:List Bool} {us:List Value},Vals (bs.map V.bl) us->us=bs.map Value.bool
 | [],_,.nil=>rfl
 | b::bs,_,.cons r t=>by
  have e:=qci t;rw[e];cases r;rfl
def qhf(K:yg):List V->Hp->VK->Prop:=fun xs H Q=>∃(p:Addr) (bs:List Bool),xs=[.ref p]/\SqL K H p (bs.map V.bl)/\Q (.bl (bs.all id)) H
theorem call_all(hc:X.calm=true):zU X (.builtin "all") (qhf X.K):=by
 intro pins s σ H xs us Q I r h;obtain⟨p,bs,rfl,w,q⟩:=h;obtain⟨u,rfl,y⟩:=qbH r;cases y;obtain⟨its,z,pl,hz⟩:=I.list w;have e:=qci z;subst e;have m:X.A.in1.handled=none:=I.ok.hd hc;show call_all_walk (X2 pl.isList ?_)
 have f:p≠s.heap.objs.size:=by
  obtain⟨o,t,_⟩:=pl.isList;show yT (yN t)
 show⟨s.heap.objs.size,_,_,_,_,_,fun i=>(bs[i]?).getD false,rfl,Walks.list m s.heap.objs.size p f (bs.map Value.bool).toArray,⟨⟨_,yZ _ rfl,rfl,rfl⟩,pl.isList.at fun o e=>yw _ e⟩,fun i v s Q E hv x=>?_,fun h' tk n=>?_⟩
 .have a:(bs.map Value.bool)[i]?=some v:=by simpa using hv
  rw[yd] at a
  cases e:bs[i]? with
  | none=>rw[e] at a;cases a
  | some b =>
   rw[e] at a;cases a;have c:Q ((bs[i]?).getD false) s:=x;rw[e] at c;show yv c
 .have e:((List.range (bs.map Value.bool).toArray.size).all fun i=>(bs[i]?).getD false)=bs.all id:=by
   rw[yz,ya]
   have g:∀ bs:List Bool,((List.range bs.length).all fun i=>(bs[i]?).getD false)=bs.all id:=by
    intro bs
    induction bs with
    | nil=>rfl
    | cons b r ih =>
     rw[yJ,List.range_succ_eq_map,ke,kZ,ke,<- ih];rfl
   show g bs
  rw[e];show⟨.bl _,H,?_,rfl,q⟩;have j:Inv X pins σ H { s with heap:=s.heap.push { cls:=.type "list_iterator",data:=.fields #[.ref p,.int 0 0] } }:=I.kept (t':=s.toks) fun b o e=>yw _ e;have d:=I.fpOk (b:=s.heap.objs.size) (yh _) (I.hok.fresh (yh _));show j.turned (it:=s.heap.objs.size) (h':=h') (t':=tk) (fun b o l e=>n b o (by simpa using l) e) d.1 d.2.1 d.2.2.2.1 d.2.2.2.2.1 d.2.2.2.2.2
theorem op_le_str:OpR X (compareOp .LtE) (fun x y H Q=>∃ i j,x=.str i/\y=.str j/\Q (.bl (!decide (j.cps.toList<i.cps.toList))) H):=by
 intro pins s σ H x y v u Q I a b h;obtain⟨i,j,rfl,rfl,q⟩:=h;obtain⟨t,rfl⟩:=a;obtain⟨t',rfl⟩:=b;show PySem.P.le_str (qdT I q (by rfl))
def qgY:R2:=fun x y H Q=>match x,y with
 | .int i,.int j=>Q (.bl (decide (i<=j))) H
 | .str i,.str j=>Q (.bl (!decide (j.cps.toList<i.cps.toList))) H
 | _,_=>False
theorem qgQ:OpR X (compareOp .LtE) qgY:=by
 intro pins s σ H x y v u Q I a b h
 cases x with
 | int i=>cases y with
  | int j=>show op_le pins s σ H _ _ v u Q I a b ⟨i,j,rfl,rfl,h⟩
  | _=>show False.elim h
 | str i=>cases y with
  | str j=>show op_le_str pins s σ H _ _ v u Q I a b ⟨i,j,rfl,rfl,h⟩
  | _=>show False.elim h
 | _=>show False.elim h
theorem op_is_bl:OpR X (compareOp .Is) (fun x y H Q=>∃ i j,x=.bl i/\y=.bl j/\Q (.bl (i==j)) H):=by
 intro pins s σ H x y v u Q I a b h;obtain⟨i,j,rfl,rfl,q⟩:=h;cases a;cases b;show wpAny_is_plain (by cases i<;>cases j<;>rfl) (qdT I q (by cases i<;>cases j<;>rfl))
def qhg:R2:=fun x y H Q=>match x,y with
 | .bl i,.bl j=>Q (.bl (i==j)) H
 | x,.non=>Q (.bl (decide (x=.non))) H
 | _,_=>False
theorem qhh:OpR X (compareOp .Is) qhg:=by
 intro pins s σ H x y v u Q I a b h
 cases y with
 | non=>show op_isN pins s σ H x _ v u Q I a b ⟨rfl,by cases x<;>show h⟩
 | bl j=>cases x with
  | bl i=>show op_is_bl pins s σ H _ _ v u Q I a b ⟨i,j,rfl,rfl,h⟩
  | _=>show False.elim h
 | _=>cases x<;>show False.elim h
theorem op_rep_str:OpR X (binaryOp .Mult) (fun x y H Q=>∃ z k,x=.str z/\y=.int k/\MulOk z k/\Q (.str (Txt.mul z k)) H):=by
 intro pins s σ H x y v u Q I b c h;obtain⟨z,k,rfl,rfl,a,q⟩:=h;obtain⟨t,rfl⟩:=b;obtain⟨t',rfl⟩:=c;show SB.mul a fun t' k'=>⟨.str _,H,I.tok _,⟨_,rfl⟩,q⟩
def qgs:R2:=fun x y H Q=>match x,y with
 | .int i,.int j=>CMul i j/\Q (.int (i*j)) H
 | .str z,.int k=>MulOk z k/\Q (.str (Txt.mul z k)) H
 | .ref a,.int k=>rRep (.ref a) (.int k) H Q
 | _,_=>False
theorem qcZ:OpR X (binaryOp .Mult) qgs:=by
 intro pins s σ H x y v u Q I b c h
 cases y with
 | int j=>cases x with
  | int i=>show op_mul pins s σ H _ _ v u Q I b c ⟨i,j,rfl,rfl,h.1,h.2⟩
  | str i=>show op_rep_str pins s σ H _ _ v u Q I b c ⟨i,j,rfl,rfl,h.1,h.2⟩
  | ref a=>show qeL pins s σ H _ _ v u Q I b c h
  | _=>show False.elim h
 | _=>cases x<;>show False.elim h
def qdu(K:yg):R2:=fun x y H Q=>match x,y with
 | .int i,.int j=>Q (.int (i+j)) H
 | .str i,.str j=>i.length+j.length<=sizeLine/\Q (.str (i++j)) H
 | .ref a,.ref b=>rCat (.ref a) (.ref b) H Q\/rCatT K (.ref a) (.ref b) H Q
 | _,_=>False
theorem u_add:OpR X (binaryOp .Add) (qdu X.K):=by
 intro pins s σ H x y v u Q I c d h
 cases x with
 | int i=>cases y with
  | int j=>show op_add pins s σ H _ _ v u Q I c d ⟨i,j,rfl,rfl,h⟩
  | _=>show False.elim h
 | str i=>cases y with
  | str j=>show op_add_str pins s σ H _ _ v u Q I c d ⟨i,j,rfl,rfl,h.1,h.2⟩
  | _=>show False.elim h
 | ref a=>cases y with
  | ref b=>show h.elim (fun h=>op_cat pins s σ H _ _ v u Q I c d h) fun h=>op_catT pins s σ H _ _ v u Q I c d h
  | _=>show False.elim h
 | _=>show False.elim h
def qeq(K:yg):List V->Hp->VK->Prop:=fun xs H Q=>match xs with
 | [.str z]=>z.length<=sizeLine/\Q (.int z.length) H
 | [.ref p]=>(∃ ys,(SqL K H p ys\/SqT K H p ys)/\Q (.int ys.length) H)\/∃ kvs,H p=some (.dK kvs)/\Q (.int kvs.length) H
 | _=>False
theorem call_lenU:zU X (.builtin "len") (qeq X.K):=by
 intro pins s σ H xs us Q I r h
 match xs,h with
 | [.str z],h=>show call_len_str pins s σ H _ us Q I r ⟨z,rfl,h.1,h.2⟩
 | [.ref p],.inl ⟨ys,h,q⟩=>show call_len_seq pins s σ H _ us Q I r ⟨p,ys,rfl,h,q⟩
 | [.ref p],.inr ⟨kvs,h,q⟩=>show call_lenD pins s σ H _ us Q I r ⟨p,kvs,rfl,h,q⟩
theorem sl_str:SlR X (fun x lo b H Q=>∃ z,x=.str z/\z.length<=sizeLine/\Q (.str (Txt.slice z lo b)) H):=by
 intro pins s σ H x v f g lo b e Q I d a pl c h;obtain⟨z,rfl,hz,q⟩:=h;obtain⟨t,rfl⟩:=d;show⟨"str",_,F.slot_str_getitem.lookup,typeIs_str _ _ _,?_⟩
 cases pl with
 | none =>
  cases c with
  | none=>show Xf (l:=none) (u:=none) (st:=none) a rfl (ki ⟨yi (k7 z _ _) hz,fun t' k=>⟨.str _,H,I.tok _,⟨_,rfl⟩,q⟩⟩)
  | int j uj=>show Xf (l:=none) (u:=some (j,uj)) (st:=none) a rfl (ki ⟨yi (k7 z _ _) hz,fun t' k=>⟨.str _,H,I.tok _,⟨_,rfl⟩,q⟩⟩)
 | int i ui =>
  cases c with
  | none=>show Xf (l:=some (i,ui)) (u:=none) (st:=none) a rfl (ki ⟨yi (k7 z _ _) hz,fun t' k=>⟨.str _,H,I.tok _,⟨_,rfl⟩,q⟩⟩)
  | int j uj=>show Xf (l:=some (i,ui)) (u:=some (j,uj)) (st:=none) a rfl (ki ⟨yi (k7 z _ _) hz,fun t' k=>⟨.str _,H,I.tok _,⟨_,rfl⟩,q⟩⟩)
def qgZ(K:yg):V->Option Int->Option Int->Hp->VK->Prop:=fun x lo b H Q=>match x with
 | .str z=>z.length<=sizeLine/\Q (.str (Txt.slice z lo b)) H
 | .ref a=>rSlL K (.ref a) lo b H Q\/rSlT K (.ref a) lo b H Q
 | _=>False
theorem u_sl:SlR X (qgZ X.K):=by
 intro pins s σ H x v g i lo b f Q I e c pl d h
 cases x with
 | str z=>show sl_str pins s σ H _ v g i lo b f Q I e c pl d ⟨z,rfl,h.1,h.2⟩
 | ref a=>show h.elim (fun h=>sl_list pins s σ H _ v g i lo b f Q I e c pl d h) fun h=>sl_tup pins s σ H _ v g i lo b f Q I e c pl d h
 | _=>show False.elim h
theorem qcj:∀{ys:LS} {us:List Value},Vals (ys.map V.str) us->StrsAre us ys
 | [],_,.nil=>.nil
 | y::ys,_,.cons r t=>by
  obtain⟨tk,rfl⟩:=r;show .cons y tk (qcj t)
def qgt(K:yg):V->List V->Hp->VK->Prop:=fun x vs H Q=>∃(z:Str) (p:Addr) (ys:LS),x=.str z/\vs=[.ref p]/\SqL K H p (ys.map V.str)/\(ys.map (·.length)).sum+ys.length*z.length<=16777216/\Q (.str (Txt.join z ys)) H
theorem mt_join:MtR X "str.join" (qgt X.K):=by
 intro pins s σ H x vs v us Q I d c h;obtain⟨z,p,ys,rfl,rfl,a,hz,q⟩:=h;obtain⟨t,rfl⟩:=d;obtain⟨u,rfl,b⟩:=c.one;cases b;obtain⟨its,r,pl,_⟩:=I.list a;show join_list pl.isList (by simpa using qcj r) hz fun t' k=>⟨.str _,H,I.tok _,⟨_,rfl⟩,q⟩
def qgR(K:yg)(te:TE):TI:=fun σ H R=>te σ H fun v b=>match v with
 | .str x=>R (Its x) b
 | .ref a=>((∃ xs,SqL K b a xs)/\R (Itl K a) b)\/((∃ xs,SqT K b a xs)/\R (Itt K a) b)
 | _=>False
theorem pi_any{e:Expr}(w:PE X e te)(g:∀ it v,letOwnedTupleGo tg it v=pure ():=by intro _ _;rfl):PI X tg e (qgR X.K te):=by
 intro pins s σ H R I h;show thn (w pins s σ H _ I h) fun v c ⟨y,f,d,u,j⟩=>?_
 cases y with
 | str x =>
  obtain⟨t,rfl⟩:=u
  have fp:∀ b∈[c.heap.objs.size],qdo X pins f b:=fun b m=>by
   have e:b=c.heap.objs.size:=by simpa using m
   subst e;show d.fpOk (yh _) (d.hok.fresh (yh _))
  cases r:x.cps.all (· < 128)
  .show wpAny_pyIter_wide r ⟨c.heap.objs.size,[c.heap.objs.size],_,_,f,rfl,d.kept (t':=c.toks) fun b o e=>yw _ e,
    qd0 (T:="str_iterator") (fun A l=>Walks.strWide l _ x t) (fun A i s Q E st h=>wpAny_pyIter_striter_wide st h) (g _),⟨_,yZ _ rfl,rfl,rfl⟩,fp,j⟩
  .show wpAny_pyIter_ascii r ⟨c.heap.objs.size,[c.heap.objs.size],_,_,f,rfl,d.kept (t':=c.toks) fun b o e=>yw _ e,
    qd0 (T:="str_ascii_iterator") (fun A l=>Walks.strAscii l _ x t) (fun A i s Q E st h=>wpAny_pyIter_striter_ascii st h) (g _),⟨_,yZ _ rfl,rfl,rfl⟩,fp,j⟩
 | ref a =>
  cases u
  have fp:∀ b∈[c.heap.objs.size],qdo X pins f b:=fun b m=>by
   have e:b=c.heap.objs.size:=by simpa using m
   subst e;show d.fpOk (yh _) (d.hok.fresh (yh _))
  rcases j with⟨⟨xs,n⟩,q⟩ | ⟨⟨xs,n⟩,q⟩
  .obtain⟨its,z,p,hz⟩:=d.list n;show X2 p.isList ⟨c.heap.objs.size,[c.heap.objs.size],_,_,f,rfl,d.kept (t':=c.toks) fun b o e=>yw _ e,qcI a _,⟨_,yZ _ rfl,rfl,rfl⟩,fp,q⟩
  .obtain⟨its,z,p,hz⟩:=d.tuple n;show wpAny_pyIter_tuple (show c.heap.IsTuple a its.toArray from p) ⟨c.heap.objs.size,[c.heap.objs.size],_,_,f,rfl,d.kept (t':=c.toks) fun b o e=>yw _ e,turn_tuple a _,⟨_,yZ _ rfl,rfl,rfl⟩,fp,q⟩
 | _=>show False.elim j
end
section
variable{D:Ends}{σ:St}{H:Hp}{Q:VK}{QT:Bool->Hp->Prop}{QA:List V->Hp->Prop}{t u:TS}{te ta tb tc:TE}{c c':TT}{tr tas:TA}{r r':R2}{K:yg}
theorem qg0(h:t { D with nx:=u D } σ H):qgS t u D σ H:=h
theorem qg1{i:Nat}(h:te σ H fun x a=>D.nx (σ.set i (some x)) a):qgm te (qb2 i) D σ H:=h
theorem vAsgS{to a:TE}{s:qgl}(h:te σ H fun x b=>to σ b fun o c=>a σ c fun i d=>s o i x d fun e=>D.nx σ e):qgm te (qg9 to a s) D σ H:=h
theorem vIfS(h:c σ H fun b a=>if b=true then t D σ a else u D σ a):qg6 c t u D σ H:=h
theorem vRet(h:te σ H D.rt):qg5 te D σ H:=h
theorem vRetN(h:D.rt .non H):qgk D σ H:=h
theorem vDrop(h:te σ H fun _ a=>D.nx σ a):qgj te D σ H:=h
theorem vNext(h:D.nx σ H):qgi D σ H:=h
theorem vC(h:Q v H):tC v σ H Q:=h
theorem qgu{i:Nat}(e:σ[i]?=some (some v))(h:Q v H):qeA i σ H Q:=⟨v,e,h⟩
theorem vOp(h:ta σ H fun x a=>tb σ a fun y b=>r x y b Q):tOp r ta tb σ H Q:=h
theorem vUn{f:V->Hp->VK->Prop}(h:ta σ H fun x a=>f x a Q):tUn f ta σ H Q:=h
theorem vChain(h:ta σ H fun x b=>tb σ b fun y c=>r x y c fun z a=>∃ k,z=.bl k/\if k=true then tc σ a fun e d=>r' y e d Q else Q (.bl false) a):qeD r r' ta tb tc σ H Q:=h
theorem vNil(h:QA [] H):qgO σ H QA:=h
theorem qgv(h:ta σ H fun x a=>tr σ a fun xs b=>QA (x::xs) b):qgp ta tr σ H QA:=h
theorem vCB{f:List V->Hp->VK->Prop}(h:tas σ H fun vs a=>f vs a Q):tCB f tas σ H Q:=h
theorem vCall{sp:Sp}{E:XK}(h:tas σ H fun vs a=>sp (vs++[]) a Q E):qf0 sp [] E tas σ H Q:=h
theorem vLst(h:tas σ H fun xs a=>NewL xs a Q):qhd tas σ H Q:=h
theorem vTup(h:tas σ H fun xs a=>NewT xs a Q):qhc tas σ H Q:=h
theorem qf2(h:te σ H fun x H'=>∃ k,x=.bl k/\QT k H'):qfr te σ H QT:=h
theorem vB(h:te σ H fun x H'=>∃ k,x=.bl k/\QT k H'):tB te σ H QT:=h
theorem vNot(h:c σ H fun b a=>QT (!b) a):qg4 c σ H QT:=h
theorem vAnd(h:c σ H fun b a=>if b=true then c' σ a QT else QT false a):qg3 c c' σ H QT:=h
theorem vOr(h:c σ H fun b a=>if b=true then QT true a else c' σ a QT):tOr c c' σ H QT:=h
theorem vAndV(h:ta σ H fun x a=>∃ k,x=.bl k/\if k=true then tb σ a Q else Q (.bl false) a):qgh ta tb σ H Q:=h
theorem vOrV(h:ta σ H fun x a=>∃ k,x=.bl k/\if k=true then Q (.bl true) a else tb σ a Q):tOrV ta tb σ H Q:=h
theorem vNotV(h:ta σ H fun x a=>∃ k,x=.bl k/\Q (.bl (!k)) a):tNotV ta σ H Q:=h
theorem vIf(h:c σ H fun b a=>if b=true then ta σ a Q else tb σ a Q):tIf c ta tb σ H Q:=h
theorem vYes(h:QT true H):qhe σ H QT:=h
theorem vI0{g:Int->Int->V}(h:Q (g i j) H):rI0 g (.int i) (.int j) H Q:=⟨i,j,rfl,rfl,h⟩
theorem vI{C:Int->Int->Prop}{g:Int->Int->V}(hc:C i j)(h:Q (g i j) H):rI C g (.int i) (.int j) H Q:=⟨i,j,rfl,rfl,hc,h⟩
theorem vU{g:Int->V}(h:Q (g i) H):rU g (.int i) H Q:=⟨i,rfl,h⟩
theorem vEqI(h:Q (.bl (decide (i=j))) H):rEq (.int i) (.int j) H Q:=⟨rfl,by
 have e:decide (V.int i=V.int j)=decide (i=j):=by
  by_cases h:i=j
  .subst h;simp
  .rw [yl h,yl (fun e=>h (V.int.inj e))]
 rw[e];show h⟩
theorem vEqB{i j:Bool}(h:Q (.bl (i==j)) H):rEq (.bl i) (.bl j) H Q:=⟨rfl,by rw[dec_bl];show h⟩
theorem zN(b:H p=some (.lst xs))(a:atI xs i=some v)(h:Q v H):rIx K (.ref p) (.int i) H Q:=.inl ⟨p,xs,i,v,rfl,rfl,SqL.of b,a,h⟩
theorem vIxLs(b:SqL K H p xs)(a:atI xs i=some v)(h:Q v H):rIx K (.ref p) (.int i) H Q:=.inl ⟨p,xs,i,v,rfl,rfl,b,a,h⟩
theorem qaV(b:H p=some (.tup xs))(a:atI xs i=some v)(h:Q v H):rIx K (.ref p) (.int i) H Q:=.inr (.inl ⟨p,xs,i,v,rfl,rfl,SqT.of b,a,h⟩)
theorem qhi{ch:Nat}(hz:z.length<=sizeLine)(a:atI z.cps.toList i=some ch)(h:Q (.str ⟨#[ch]⟩) H):rIx K (.str z) (.int i) H Q:=.inr (.inr ⟨z,i,ch,rfl,rfl,hz,a,h⟩)
theorem qer{k:Int}{j:Nat}{a:Hp->Prop}(c:H p=some (.lst xs))(b:ixN xs.length k=some j)(h:a (upd H p (.lst (xs.set j v)))):rSetL (.ref p) (.int k) v H a:=⟨p,xs,k,j,rfl,rfl,c,b,h⟩
theorem vEx{k:Bool}{P:Bool->Prop}(h:P k):∃ k',V.bl k=.bl k'/\P k':=⟨k,rfl,h⟩
theorem vLeI(h:Q (.bl (decide (i<=j))) H):qgY (.int i) (.int j) H Q:=h
theorem vLeS{i j:Str}(h:Q (.bl (!decide (j.cps.toList<i.cps.toList))) H):qgY (.str i) (.str j) H Q:=h
theorem vIsB{i j:Bool}(h:Q (.bl (i==j)) H):qhg (.bl i) (.bl j) H Q:=h
theorem vAddI(h:Q (.int (i+j)) H):qdu K (.int i) (.int j) H Q:=h
theorem qf3{i j:Str}(hz:i.length+j.length<=sizeLine)(h:Q (.str (i++j)) H):qdu K (.str i) (.str j) H Q:=⟨hz,h⟩
theorem qc0(hc:CMul i j)(h:Q (.int (i*j)) H):qgs (.int i) (.int j) H Q:=⟨hc,h⟩
theorem vLenS(hz:z.length<=sizeLine)(h:Q (.int z.length) H):qeq K [.str z] H Q:=⟨hz,h⟩
theorem zq(a:H p=some (.lst ys))(h:Q (.int ys.length) H):qeq K [.ref p] H Q:=.inl ⟨ys,.inl (SqL.of a),h⟩
theorem vLenLs(a:SqL K H p ys)(h:Q (.int ys.length) H):qeq K [.ref p] H Q:=.inl ⟨ys,.inl a,h⟩
theorem qgw(a:H p=some (.tup ys))(h:Q (.int ys.length) H):qeq K [.ref p] H Q:=.inl ⟨ys,.inr (SqT.of a),h⟩
theorem qg2{lo a:Option Int}(hz:z.length<=sizeLine)(h:Q (.str (Txt.slice z lo a)) H):qgZ K (.str z) lo a H Q:=⟨hz,h⟩
theorem vSl{f:V->Option Int->Option Int->Hp->VK->Prop}{tl a:TO}(h:te σ H fun x b=>tl σ b fun l c=>a σ c fun u d=>f x l u d Q):tSl f te tl a σ H Q:=h
theorem vNoPart(h:QO none H):qeH σ H QO:=h
theorem vPart(h:te σ H fun x a=>∃ i,x=.int i/\QO (some i) a):qgq te σ H QO:=h
theorem vExI{P:Int->Prop}(h:P i):∃ j,V.int i=.int j/\P j:=⟨i,rfl,h⟩
theorem vBM(h:te σ H fun x a=>tyV K T x a/\tas σ a fun xs b=>f x xs b Q):tBM K T f te tas σ H Q:=h
theorem vBM0(h:te σ H fun x a=>tyV K T x a/\f x [] a Q):qgW K T f te σ H Q:=h
theorem qgx(h:wi σ H fun J a=>qeP J g c te (qeo nl ixs σ) a Q):qeO wi g c te nl ixs σ H Q:=h
theorem vFor (h:wi σ H fun J d=>∃ W:Nat->Nat->St->Hp->Prop,(∃ m,W 0 m σ d)/\∀ i m σ H,W i m σ H ->
 (J.stop i H/\D.nx σ H)\/(J.go i H/\∃ N:St->Hp->Prop,(∀ a H',N a H'->∃ c,c<m/\W (i+1) c a H')/\∀ x H',J.yld i H x H'->g x σ H' fun b e=>t { D with nx:=N,ct:=N,bk:=D.nx } b e)):qha wi g t D σ H:=h
theorem vRng1(h:tas σ H fun vs a=>∃ j:Int,vs=[.int j]/\-(2 ^ 62)<=j/\j<2 ^ 62/\R (Itr 0 j.toNat) a):qgn tas σ H R:=h
theorem vAny (h:te σ H fun v b=>match v with
 | .str x=>R (Its x) b
 | .ref a=>((∃ xs,SqL K b a xs)/\R (Itl K a) b)\/((∃ xs,SqT K b a xs)/\R (Itt K a) b)
 | _=>False):qgR K te σ H R:=h
theorem vGN{i:Nat}{a:St->Hp->Prop}(h:a (σ.set i (some v)) H):qb2 i v σ H a:=h
end
section
variable{X:Cx}{K:yg}{o e:Expr}{es:List Expr}{to ta:TE}{t:TA}{name f:Str}{apos cpos pos:Pos}{T id:String}{r:V->List V->Hp->VK->Prop}{tg:Expr}
theorem jL(a:X.K=K):zU X (.builtin "len") (qeq K):=by subst a;show call_lenU
theorem qf4(a:X.K=K)(hc:X.calm=true):zU X (.builtin "all") (qhf K):=by subst a;show call_all hc
theorem qes(a:X.K=K):SlR X (qgZ K):=by subst a;show u_sl
theorem j6(a:X.K=K):OpR X (binaryOp .Add) (qdu K):=by subst a;show u_add
theorem k_join(a:X.K=K):MtR X "str.join" (qgt K):=by subst a;show mt_join
theorem qG(b:X.K=K)(c:PE X e ta)(a:∀ it v,letOwnedTupleGo tg it v=pure ():=by intro _ _;rfl):PI X tg e (qgR K ta):=by subst b;show pi_any c a
theorem k_bm0(e:X.K=K)(h:PlainAttrs T)(c:Slot T name id)(d:typeOf (.builtin id)=pure (.type "method_descriptor"))(f:MtR X id r)(g:PE X o to)
  (a:attributeBase o name X.env (eval o X.env)=eval o X.env:=by rfl) (b:(apos.endLine==cpos.line)=true:=by rfl):PE X (.Call (.Attribute o name apos) [] [] cpos) (qgW K T r to):=by
 subst e;show pe_bm0 h c d f g a b
theorem qbl(h:X.K=K)(n:PlainAttrs T)(f:Slot T name id)(g:typeOf (.builtin id)=pure (.type "method_descriptor"))(j:MtR X id r)(l:PE X o to)(i:PA X (e::es) t)
  (b:attributeBase o name X.env (eval o X.env)=eval o X.env:=by rfl)
  (d:((backTo cpos (starEach (e::es) X.env)).all (fun x=>!x.1)&&(backToKw cpos (keywordEach [] X.env)).all (fun x=>x.1.isSome)
   && decide ((e::es).length+([]:List Keyword).length+(if ([]:List Keyword).isEmpty then 0 else 1)<30))=true:=by rfl)
  (c:(apos.endLine==cpos.line)=true:=by rfl) (m:starEach (e::es) X.env=(false,eval e X.env)::starEach es X.env:=by rfl) (a:(backTo cpos (starEach es X.env)).any (·.1)=false:=by rfl) :
  PE X (.Call (.Attribute o name apos) (e::es) [] cpos) (tBM K T r to t):=by
 subst h;show pe_bm n f g j l i b d c m a
end
structure DefOk(P:Program)(w:World)(K:yg)(mg:Str->Option Value)(base:Heap)(CX:CXT)(k:Nat)(x:Str)(ps:LS)(sp:Sp):Prop where
 ex:∃ f fd,FnOk P w K mg base CX k f fd ps sp/\mg x=some (.ref f)/\PySem.W.keepIn K (.ref f)=true/\Binds K fd ps []
section
variable{X:Cx}{CX:CXT}{k:Nat}{ps:LS}{sp:Sp}{E:XK}{x:Str}{p pos:Pos}{e:Expr}{es:List Expr}{t:TA}
theorem qq(D:DefOk X.prog X.w X.K X.mg X.base CX k x ps sp)(l:Room k X.A)(m:qbk CX X E)(c:PA X (e::es) t)(h:Gl X x:=by rfl)(a:(x==("__debug__":Str))=false:=by decide)
  (g:starEach (e::es) X.env=(false,eval e X.env)::starEach es X.env:=by rfl) (b:(backTo pos (starEach es X.env)).any (·.1)=false:=by rfl):PE X (.Call (.Name x p) (e::es) [] pos) (qf0 sp [] E t):=by
 obtain⟨f,n,F,j,i,d⟩:=D.ex;show pe_call F l h j i d .nil m c a g b
theorem qck(c:Gl X x)(a:∃ tk,X.mg x=some (.int i tk))(b:(x==("__debug__":Str))=false:=by decide):PE X (.Name x pos) (tC (.int i)):=by
 obtain⟨tk,a⟩:=a;show pe_glob c a ⟨tk,rfl⟩ b
end
def isaT(t c:String):Bool:=t==c||(t=="bool"&&c=="int")
theorem qbd(K:yg):∀ t∈["NoneType","bool","int","str","list","tuple","dict"],∀ c∈["bool","int","str","list","tuple","dict"],PySem.W.kitOne K (.type t) (.type c)=some (isaT t c):=by
 intro t a c hc;simp only[yx,Yb,YH] at a hc;rcases a with rfl | rfl | rfl | rfl | rfl | rfl | rfl<;>rcases hc with rfl | rfl | rfl | rfl | rfl | rfl<;>rfl
def qfD:List Value->Bool
 | [.type a,.type b,.type c,.type d]=>a=="ValueError"&&b=="Exception"&&c=="BaseException"&&d=="object"
 | .ref _::r=>qfD r
 | _=>false
def xcIn(K:yg)(C:Addr):Bool:=match K.lookup C with
 | some ⟨.type "type",_,.cls cd,sl⟩=>(match cd.mro,sl.toList with
  | .ref D::bm,[_,_,_,_,some (.builtin n),_]=>D==C&&!cd.hasDel&&qfD bm&&n=="ValueError.__new__"
  | _,_=>false)
 | _=>false
structure XAt(K:yg)(C:Addr):Prop where
 ga:PySem.W.findIn K (.ref C) "__getattribute__"=some (some (.builtin "BaseException.__getattribute__"))
 gn:PySem.W.findIn K (.ref C) "__getattr__"=some none
 bx:PySem.W.mroIn K C (.type "BaseException")=some true
 ob:PySem.W.mroIn K C (.type "object")=some true
 hd:PySem.W.hasDictIn K C=true
 cl:PySem.W.findIn K (.ref C) "__class__"=some (some (.builtin "object.__class__"))
 cg:PySem.W.specialIn K (.builtin "object.__class__") "__get__"=some (some (.builtin "getset_descriptor.__get__"))
 ct:PySem.W.takesIn K (.builtin "object.__class__")=some true
 sa:PySem.W.findIn K (.ref C) "__setattr__"=some (some (.builtin "object.__setattr__"))
 mr:(PySem.W.clsIn K C).any (fun cd=>qfD cd.mro)=true
 xc:xcIn K C=true
theorem bexc_ga_slot:Slot "ValueError" "__getattribute__" "BaseException.__getattribute__":=PySem.F.attr_ValueError.ga
section
variable{prog:Program}{w:World}{A:Around}{E:Value->Shared->Prop}{s:Shared}{K:yg}{x C:Addr}{ox:Obj}{od:Option Obj}{name:Str}{v:Value}
theorem xga_value{Q:Fin->Shared->Prop}(X:K.In s.heap)(I:PySem.W.InstAt s.heap x ox C od)(a:PySem.W.findObj K C od name=some (.value v))(h:Q (.done (.ret v)) s) :
  wpAny (model prog w) A (Builtin.«object.__getattribute__» ⟨[.ref x,.str name tk],[]⟩) Q E s:=by
 have F:=PySem.W.looks_find (M:=model prog w) X I a;show yr (yv (yr (yv (yr (I.type.here (yr (F.here ?_)))))));show yv h
theorem xga_call{R:Result->Shared->Prop}(X:K.In s.heap)(I:PySem.W.InstAt s.heap x ox C od)(c:PySem.W.mroIn K C (.type "BaseException")=some true)
  (h:wpAny (model prog w) A.in1 (Builtin.«object.__getattribute__» ⟨[.ref x,.str name tk],[]⟩) (fun b a=>match b with | .done f=>R (.ok f) a | .again c'=>c'.quiet=true/\codeAny (model prog w) A c' R a) (fun e a=>R (.error e) a) s) :
  codeAny (model prog w) A (.call (.builtin "BaseException.__getattribute__") ⟨[.ref x,.str name tk],[]⟩) R s:=by
 show Xx bexc_ga_slot.plain PySem.F.entry_bexc_ga ?_;show @PySem.W.check_slot (model prog w) _ _ s "BaseException.__getattribute__" "BaseException" "__getattribute__" (.ref x) [.str name tk] [] _ (by room) (by room) (I.type.andThen (xY X c)) (PySem.F.args_bexc_ga _ _) h
theorem qeQ{b:Bool}{Q:Value->Shared->Prop}(X:K.In s.heap)(I:PySem.W.InstAt s.heap x ox C od)(c:XAt K C)
  (h:wpAny (model prog w) A.in1 (Builtin.«object.__getattribute__» ⟨[.ref x,.str name tk],[]⟩) (fun a d=>match a with | .done (.ret v)=>wpAny (model prog w) A (handedOut v) Q E d | _=>False) (fun _ _=>False) s) :
  wpAny (model prog w) A (getAttrBy (.ref x) (.str name tk) b expr) Q E s:=by
 unfold getAttrBy;show Yz (yr (I.type.here (yr ((xo X c.ga).here ?_))))
 have e:(onTheHeap (Value.ref C)&&Value.builtin "BaseException.__getattribute__"==Value.builtin "object.__getattribute__")=false:=by
  rw[show(Value.builtin "BaseException.__getattribute__"==Value.builtin "object.__getattribute__")=false by room];rfl
 dsimp only;rw[e,yB (by decide)];unfold getAttrByItsOwn hookBefore;rw[yG (show onTheHeap (Value.ref C)=true from rfl)];show yr ((xo X c.gn).here (yr (kL (Yz ?_))));have f:(expr&&onTheHeap (Value.builtin "BaseException.__getattribute__"))=false:=by cases expr<;>rfl
 unfold callGetattribute;rw[f,yB (by decide)];unfold boundAndCalled;rw[bexc_ga_slot.bind];show yr (yv ?_);show wpAny _ _ (call (.builtin "BaseException.__getattribute__") [.ref x,.str name tk]) _ _ _;show kD (xga_call X I c.bx (YY h (fun a d z=>?_) fun _ _ z=>z.elim));rcases a with(_ | _ | _ | _) | _<;>first | show z | show z.elim
theorem xget{Q:Value->Shared->Prop}(X:K.In s.heap)(I:PySem.W.InstAt s.heap x ox C od)(c:XAt K C)(a:PySem.W.findObj K C od name=some (.value v))(b:PySem.W.handedIn v=true)
  (h:Q v { s with toks:=s.toks+1 }):wpAny (model prog w) A (getAttr (.ref x) name expr) Q E s:=by
 unfold getAttr;show yr (wpAny_mkText (qeQ (s:={ s with toks:=s.toks+1 }) X I c (xga_value (s:={ s with toks:=s.toks+1 }) X I a ?_)));show wpAny _ _ (handedOut v) _ _ _;rw[PySem.W.handedOut_of b];show yv h
theorem xclass{Q:Option Value->Shared->Prop}(X:K.In s.heap)(I:PySem.W.InstAt s.heap x ox C od)(c:XAt K C)(a:PySem.W.findObj K C od "__class__"=some (.bind (.builtin "getset_descriptor.__get__") (.builtin "object.__class__")))
  (h:Q (some (.ref C)) { s with toks:=s.toks+1 }):wpAny (model prog w) A (getAttr? (.ref x) "__class__") Q E s:=by
 unfold getAttr? getAttrBy?;show yr (wpAny_mkText (yr (kL (qeQ (s:={ s with toks:=s.toks+1 }) X I c ?_))));have F:=PySem.W.looks_find (M:=model prog w) X I a;show yr (yv (yr (yv (yr (I.type.here (s:={ s with toks:=s.toks+1 }) (yr (F.here (s:={ s with toks:=s.toks+1 }) ?_)))))));show wpAny _ _ (holding [Value.builtin "object.__class__"] (call (.builtin "getset_descriptor.__get__") [.builtin "object.__class__",.ref x,.ref C])>>=ret) _ _ _;show yr (Yz (kD (PySem.W.class_get (s:={ s with toks:=s.toks+1 }) X I c.ob ?_)));show yv ?_;show wpAny _ _ (handedOut (.ref C)) _ _ _;show yv (yv h)
theorem findObj_class(c:XAt K C):PySem.W.findObj K C od "__class__"=some (.bind (.builtin "getset_descriptor.__get__") (.builtin "object.__class__")):=by
 obtain⟨a,hc,_⟩:=Xb c.hd;unfold PySem.W.findObj;rw[hc,Option.bind_some,c.cl,Option.bind_some];simp[c.cg,c.ct]
theorem qd1(c:XAt K C):PySem.W.KitX K (.ref x) (.ref C) (fun h=>PySem.W.InstAt h x ox C od) where
 ty:=fun _ _ _ I=>I.type
 it:=fun _ _ X _=>by
  obtain⟨b,hc,_⟩:=Xb c.hd;unfold PySem.W.clsIn at hc;split at hc
  .rename_i c1 d1 cd1 sl1 ho
   intro f i g l k q;unfold isType loadHead;show yr (wpAny_loadPart (k _ _ (X _ _ ho)) (yv q))
  .cases hc
 ne:=fun h d j its n m X a=>by
  obtain⟨b,hc,_⟩:=Xb c.hd;show Bool.eq_false_iff.mpr fun q=>?_;have e:C=d:=Value.ref.inj (Yy.mp q);subst e;unfold PySem.W.clsIn at hc;split at hc
  .rename_i c1 d1 cd1 sl1 ho
   have z:=(X _ _ ho).symm.trans a;cases z
  .cases hc
 ca:=fun X I k=>xclass X I c (findObj_class c) k
end
theorem qc1{r:List Value}(e:qfD (.ref c::r)=true):qfD r=true:=by
 cases r with
 | nil=>cases e
 | cons a r=>show e
theorem qc2:∀{l:List Value},qfD l=true->∃ f:LQ,l=f.map Value.ref++[.type "ValueError",.type "Exception",.type "BaseException",.type "object"]
 | [],e=>by cases e
 | .ref c::r,e=>by
  obtain⟨f,q⟩:=qc2 (qc1 e);show⟨c::f,by rw[q];rfl⟩
 | .type a::r,e=>by
  match r,e with
  | [.type b,.type c,.type d],e =>
   simp only[qfD,yY,Yy] at e;obtain⟨⟨⟨rfl,rfl⟩,rfl⟩,rfl⟩:=e;show⟨[],rfl⟩
theorem refuse_exc(self:Value){l:List Value}(e:qfD l=true):refuseLoop self "__setattr__" l=pure ():=by
 obtain⟨a,rfl⟩:=qc2 e
 induction a with
 | nil=>show PySem.F.store_ValueError.passes self
 | cons c a ih=>rw[YC,kP,refuseLoop_ref];show ih (qc1 e)
section
variable{prog:Program}{w:World}{A:Around}{E:Value->Shared->Prop}{s:Shared}{K:yg}{x C:Addr}{name:Str}{v:Value}{R:Result->Shared->Prop}
theorem xosa(X:K.In s.heap)(I:PySem.W.InstAt s.heap x ox C od)(c:XAt K C)(n:NoAttr K C name)
  (h:wpAny (model prog w) A.in1 (Builtin.ObjectAttr.storeInOwnDict (.ref x) (.ref C) (.str name tk) name v false)
   (fun d b=>match d with | .done f=>R (.ok f) b | .again c'=>c'.quiet=true/\codeAny (model prog w) A c' R b) (fun e b=>R (.error e) b) s) :
  codeAny (model prog w) A (.call (.builtin "object.__setattr__") ⟨[.ref x,.str name tk,v],[]⟩) R s:=by
 have a:=PySem.F.store_object;obtain⟨g,hc,j⟩:=Xb c.mr;have i:PySem.W.Looks (model prog w) s.heap (mroOf (.ref C)) g.mro:=(ky X hc).andThen .now;show Xx a.slot.plain a.entry (@PySem.W.check_slot (model prog w) _ _ s "object.__setattr__" "object" "__setattr__" (.ref x) [.str name tk,v] [] _ a.kind a.split (I.type.andThen (xY X c.ob)) (a.args (.ref x) (.str name tk) v) ?_);rw[PySem.W.osa_eq,refuse_eq];show yr (yr (I.type.here (yr (i.here ?_))));rw[refuse_exc _ j];show yv (yr (I.type.here (yr ((xo X n).here (yr (yv ?_))))));show h
theorem xset{vs:Array Value}(X:K.In s.heap)(m:s.heap.get? x=some ⟨.ref C,none,.fields vs,#[]⟩)(c:XAt K C)(n:NoAttr K C name){Q:Unit->Shared->Prop}
  (h:∀ h',h'.get? x=some ⟨.ref C,some s.heap.objs.size,.fields vs,#[]⟩->h'.Ns1 s.heap.objs.size (fun y=>if y=name then some v else none)->(∀ b o,b≠x->s.heap.get? b=some o->h'.get? b=some o) ->
   Q () { s with heap:=h',toks:=s.toks+2 }):wpAny (model prog w) A (setAttr (.ref x) name v) Q E s:=by
 have I:PySem.W.InstAt s.heap x ⟨.ref C,none,.fields vs,#[]⟩ C none:=⟨m,rfl,rfl,Y0⟩;obtain⟨J,hc,F⟩:=Xb c.hd;show PySem.W.set_plain X I c.sa (xosa (s:={ s with toks:=s.toks+1 }) X I c n ?_);show yr (yv (yr (yr (wpAny_loadPart m (yr ((ky X hc).here (s:={ s with toks:=s.toks+1 }) ?_))))));rw[F];obtain⟨a,g,L,tk,N⟩:=s;show wpAny _ _ (alloc { cls:=.type "dict",data:=.dict #[] }>>=fun d=>update x (fun o=>{ cls:=o.cls,dict:=some d,data:=o.data,slots:=o.slots })>>=fun _=>pure (some d)) _ _ _;have l:x≠a.objs.size:=yT (yN m);have i:=yw { cls:=.type "dict",data:=.dict #[] } m;show yr (wpAny_alloc' (yr (wpAny_update' i (yv ?_))));have j:=Y7 (fun o:Obj=>{ cls:=o.cls,dict:=some a.objs.size,data:=o.data,slots:=o.slots }) i rfl;have f:=(Heap.get?_update_ne (a.push { cls:=.type "dict",data:=.dict #[] }) a.objs.size x (fun o:Obj=>{ cls:=o.cls,dict:=some a.objs.size,data:=o.data,slots:=o.slots }) l.symm).trans (Heap.get?_push_at rfl rfl);generalize H:(a.push { cls:=.type "dict",data:=.dict #[] }).update x (fun o:Obj=>{ cls:=o.cls,dict:=some a.objs.size,data:=o.data,slots:=o.slots })=h2 at j f ⊢;have nd:h2.Ns a.objs.size (fun _=>none):=⟨_,#[],_,f,rfl,fun e G=>absurd G (by simp),fun _=>rfl⟩;show wpAny _ _ (Builtin.ObjectAttr.storeInDict a.objs.size (.str name tk) name v) _ _ _;unfold Builtin.ObjectAttr.storeInDict Builtin.ObjectAttr.newKeyGuard;show yr (yv (yr (wpAny_nsSet1 (Heap.Ns1.of_empty nd) fun h' u z=>?_)));obtain⟨M,p,B,t,r,q⟩:=u.count (PySem.Within.cons name v PySem.Within.nil);have hz:p.size<=sizeLine:=yi q (by rw[yJ,YW,YA];lk);show yr (wpAny_lookBehind t (by rw[r];show pastItsLine_dict (Y1 hz)) ?_);show yv (h h' ((z.2 x l).trans j) u fun b o D e=>(z.2 b (yT (yN e))).trans ?_);rw[<- H];show(Heap.get?_update_ne _ _ _ _ D).trans (yw _ e)
abbrev xfs(a:Addr):Array Value:=#[.ref a,.none,.none,.none,.bool false,.none]
end
section
variable{prog:Program}{w:World}{A:Around}{R:Result->Shared->Prop}{E:Value->Shared->Prop}{h:Heap}{g:Array GenState}{d:Drawn}{t:Nat}{os:OsState}
variable{nm q:Str}{C N:Addr}{bs bm:List Value}{hdct:Bool}{sn:LS}{sub:List Value}{ab:Bool}{col:Option Bool}{dd:Option Addr}{k0 k1 k2 k3 k5:Option Value}
end
def XN(e C:Addr)(dx:Option Addr):HO:=.ext fun h=>∃ a,h.get? e=some ⟨.ref C,dx,.fields (xfs a),#[]⟩
def XO(e C:Addr)(dx:Option Addr):HO:=.ext fun h=>∃ vs,h.get? e=some ⟨.ref C,dx,.fields vs,#[]⟩
theorem XN.ok{b:Addr}(q:h.get? e=some ⟨.ref C,dx,.fields (xfs b),#[]⟩):ObjOk P w H h e (XN e C dx):=
 ⟨⟨b,q⟩,⟨_,q⟩,fun _ _ ⟨a,x⟩ k=>⟨a,k _ x⟩⟩
def IsX(H:Hp)(e C:Addr)(dx:Option Addr):Prop:=H e=some (XN e C dx)\/H e=some (XO e C dx)
theorem IsX.get(q:IsX H e C dx)(b:HOk P w H h):∃ vs,h.get? e=some ⟨.ref C,dx,.fields vs,#[]⟩:=by
 rcases q with q | q
 .obtain⟨⟨a,x⟩,_⟩:=(show ObjOk P w H h e (XN e C dx) from b e _ q);show⟨_,x⟩
 .obtain⟨⟨a,x⟩,_⟩:=(show ObjOk P w H h e (XO e C dx) from b e _ q);show⟨_,x⟩
section
variable{X:Cx}{pins:List (Addr×Obj)}{σ:St}{H:Hp}{s:Shared}{e C:Addr}{dx:Option Addr}
theorem qfE(I:Inv X pins σ H s){d:Addr}{fs:List (Str×V)}(h:H d=some (.xd fs)):∃(od:Obj) (a:Str->Option Value),s.heap.get? d=some od/\(∀ name,PySem.W.lookIn name od=some (a name))/\∀ f,RelO (fs.lookup f) (a f):=by
 obtain⟨a,n,r⟩:=(show ObjOk X.prog X.w H s.heap d (.xd fs) from I.hok d _ h);obtain⟨od,h1,b⟩:=qcK n;show⟨od,a,h1,b,r⟩
end
section
variable{X:Cx}{pins:List (Addr×Obj)}{σ:St}{H:Hp}{s:Shared}{a d:Addr}{h':Heap}{o u:HO}{t':Nat}
theorem Inv.both(I:Inv X pins σ H s)(i:Mut (H a))(l:s.heap.objs.size<=d)(k:∀ b v,b≠a->s.heap.get? b=some v->h'.get? b=some v)(m:∃ v,h'.get? a=some v)
  (p:ObjOk X.prog X.w (upd (upd H d u) a o) h' a o) (t:ObjOk X.prog X.w (upd (upd H d u) a o) h' d u) (ne:d≠a):Inv X pins σ (upd (upd H d u) a o) { s with heap:=h',toks:=t' }:=by
 have nd:H d=none:=I.hok.fresh l;have g:∀ b q,H b=some q->¬ Mut (some q)->b≠a:=fun b q e x z=>by subst z;rw[e] at i;show x i
 have j:∀ b,H b=none->b≠a:=fun b e z=>by subst z;rw[e] at i;show i
 have big:∀ b v,s.heap.get? b=some v->b≠d:=fun b v e=>yT (yj (yN e) l);have up:∀ b q,H b=some q->b≠a->upd (upd H d u) a o b=some q:=fun b q e n=>by rw[qf n,qf (qJ e nd)];show e
 show I.un ⟨fun b v e n _ _=>k b v (j b n) e,fun b v e n _ _=>⟨v.slots,k b v (j b n) e⟩,fun b v e n _=>by rw[qf (j b n),qf (big b v e)];show n,fun b v e _=>?_,fun b xs e=>up b _ e (g b _ e fun z=>z),fun b q xs e=>up b _ e (g b _ e fun z=>z),
  fun b ps e=>⟨#[],by rw[up b _ e (g b _ e fun z=>z)];simp⟩⟩ fun b q e=>?_
 .by_cases f:b=a
  .subst f;show m
  .show⟨v,k b v f e⟩
 .by_cases f:b=a
  .subst f;rw[qb] at e;cases e;show p
  .rw [qf f] at e;by_cases h:b=d
   .subst h;rw[qb] at e;cases e;show t
   .rw [qf h] at e;show(I.hok b q e).stay (fun c v hc r=>k c v ?_ r) (fun c r=>up c _ r (g c _ r fun z=>z)) fun c xs r=>up c _ r (g c _ r fun z=>z);rcases hc with rfl | hc
    .show f
    .show g c _ hc fun z=>z
end
inductive FldR(K:yg)(f:Str)(x:V)(H:Hp)(Q:VK):Prop|mk (a C dx:Addr) (fs:List (Str×V)) (v:V) (_:x=.ref a) (_:H a=some (.ins C dx fs)) (_:Cls K C) (_:NoAttr K C f) (_:fs.lookup f=some v) (_:Q v H)
inductive XFlR(K:yg)(f:Str)(x:V)(H:Hp)(Q:VK):Prop|mk (a C dx:Addr) (fs:List (Str×V)) (v:V) (_:x=.ref a) (_:IsX H a C (some dx)) (_:XAt K C) (_:NoAttr K C f) (_:H dx=some (.xd fs)) (_:fs.lookup f=some v) (_:Q v H)
inductive FlUR(K:yg)(f:Str)(x:V)(H:Hp)(Q:VK):Prop | inl (_:FldR K f x H Q) | inr (_:XFlR K f x H Q)
inductive SFdR(K:yg)(f:Str)(x y:V)(H:Hp)(k:Hp->Prop):Prop|mk (a C dx:Addr) (fs:List (Str×V)) (_:x=.ref a) (_:H a=some (.ins C dx fs)) (_:Cls K C) (_:NoAttr K C f) (_:fs.length<1000) (_:k (upd H a (.ins C dx (qI f y fs))))
inductive SXdR(K:yg)(f:Str)(x y:V)(H:Hp)(k:Hp->Prop):Prop|mk (a C:Addr) (_:x=.ref a) (_:H a=some (XN a C none)) (_:XAt K C) (_:NoAttr K C f) (_:∀ dx,H dx=none->k (upd (upd H dx (.xd [(f,y)])) a (XN a C (some dx))))
inductive SFUR(K:yg)(f:Str)(x y:V)(H:Hp)(k:Hp->Prop):Prop | inl (_:SFdR K f x y H k) | inr (_:SXdR K f x y H k)
def qgy(K:yg)(b:TE)(f:Str):TE:=fun σ H Q=>b σ H fun x a=>FlUR K f x a Q
def qgz(K:yg)(c d:TE)(f:Str):TS:=fun D σ H=>d σ H fun y a=>c σ a fun x b=>SFUR K f x y b (D.nx σ)
section
variable{X:Cx}{o e value:Expr}{f:Str}{pos pos':Pos}{ta tv:TE}{K:yg}
theorem qB(w:X.K=K)(A:PE X e ta)(y:attributeBase e f X.env (eval e X.env)=eval e X.env):PE X (.Attribute e f pos) (qgy K ta f):=by
 subst w;intro pins s σ H Q I h;show attr_of y (thn (A pins s σ H _ I h) fun u F ⟨x,j,b,m,i⟩=>?_);rcases i with⟨a,C,dx,fs,v,rfl,g,c,n,l,q⟩ | ⟨a,C,dx,fs,v,rfl,g,c,n,z,l,q⟩
 .obtain rfl:u=Value.ref a:=m;show getattr_ok b g c n l fun E G p d=>⟨v,j,p,d,q⟩
 .obtain rfl:u=Value.ref a:=m;obtain⟨vs,i⟩:=g.get b.hok;obtain⟨od,D,h1,t,r⟩:=qfE b z;obtain⟨E,B,d⟩:=RelO.some_of (v:=v) (o:=D f) (by rw[<- l];show r f);show xget b.kIn (od:=some od) ⟨i,rfl,rfl,h1⟩ c (PySem.W.findObj_own c.hd n rfl (by rw[t,B])) (qcL d) ⟨v,j,b.tok _,d,q⟩
theorem zf(J:X.K=K)(L:PE X o ta)(hv:PE X value tv)(N:swapsWith value (some (.Attribute o f pos')) pos.line X.env=pure false):PS X (.Assign [.Attribute o f pos'] value pos) (qgz K ta tv f):=by
 subst J;intro pins s σ H D I h;show plainObj_wpAny_Assign_Attribute (thn (hv pins s σ H _ I h) fun u O ⟨y,A,B,z,q⟩=>thn (L pins O σ A _ B q) fun t i ⟨x,p,b,v,e⟩=>?_) N;rcases e with⟨a,C,dx,fs,rfl,d,c,n,l,m⟩ | ⟨a,C,rfl,d,c,n,m⟩
 .obtain rfl:t=Value.ref a:=v;show setattr_ok b d c n l z fun R E=>⟨σ,_,E,m⟩
 .obtain rfl:t=Value.ref a:=v;obtain⟨⟨P,e⟩,_⟩:=(show ObjOk X.prog X.w p i.heap a (XN a C none) from b.hok a _ d);show xset b.kIn e c n fun h' r F G=>?_;have nd:p i.heap.objs.size=none:=b.hok.fresh (yh _);have ne:i.heap.objs.size≠a:=Yj (yN e);show⟨σ,_,b.both (o:=XN a C (some i.heap.objs.size)) (u:=.xd [(f,y)]) (by rw[d];show Y0) (yh _) G ⟨_,r⟩ (XN.ok r) ⟨_,F,fun g=>?_⟩ ne,m _ nd⟩;by_cases j:g=f
  .subst j;simp only[List.lookup,Xe,XD];show z
  .have M:(g==f)=false:=YR.mpr j;simp only[List.lookup,M,yB j];show Y0
end
def tXMake(C:Addr)(sp:Sp)(E:XK)(t:TA):TE:=fun σ H Q=>t σ H fun vs a=>vs.length<=1000/\∀ x,a x=none->sp (.ref x::vs) (upd a x (XN x C none)) (fun v b=>v=.non/\Q (.ref x) b) E
structure XMk(K:yg)(C f:Addr):Prop where
 at_:XAt K C
 init:PySem.W.findIn K (.ref C) "__init__"=some (some (.ref f))
 fn:PySem.W.isFn K (.ref f)=true
 kp:PySem.W.keepIn K (.ref C)=true
section
variable{X:Cx}{CX:CXT}{k:Nat}{f C:Addr}{fd:FuncData}{ps:LS}{sp:Sp}{E:XK}{x m:Str}{p pos apos:Pos}{e o:Expr}{es:List Expr}{ta:TE}{t:TA}
structure CMeth(K:yg)(C:Addr)(m:Str)(f:Addr):Prop where
 rd:PySem.W.readsIn K C (.type "type")=true
 at_:PySem.W.findCls K (.ref C) (.type "type") m=some (.val (.ref f))
 ga:PySem.W.specialIn K (.ref C) "__getattribute__"=some (some (.builtin "type.__getattribute__"))
 kp:PySem.W.keepIn K (.ref f)=true
end
def tVinit(K:yg)(t:TA):TE:=fun σ H Q=>t σ H fun vs b=>∃ a C y,vs=[.ref a,y]/\b a=some (XN a C none)/\XAt K C/\Q .non b
structure VInit(K:yg):Prop where
 ga:PySem.W.findIn K (.type "type") "__getattribute__"=some (some (.builtin "type.__getattribute__"))
 su:PySem.W.subIn K (.type "type") (.type "type")=some true
 at_:PySem.W.findCls K (.type "ValueError") (.type "type") "__init__"=some (.val (.builtin "ValueError.__init__"))
section
variable{X:Cx}{p pos apos:Pos}{e:Expr}{es:List Expr}{t:TA}{K:yg}
end
structure Keep(fs zs:LQ)(h h':Heap):Prop where
 keep:∀ b o,h.get? b=some o->b∉zs->b∉fs->h'.get? b=some o
 slot:∀ b o,h.get? b=some o->b∉zs->b∈fs->∃ sl,h'.get? b=some { o with slots:=sl }
structure Trc(h:Heap)(e:Addr)(C:Value)(dx:Option Addr)(T:Addr)(fl:Value):Prop where
 ex:∃ vs,h.get? e=some ⟨C,dx,.fields vs,#[]⟩/\vs[1]?=some (.ref T)/\vs[2]?=some .none
 tb:∃ ts,h.get? T=some ⟨.type "traceback",none,.fields ts,#[]⟩/\ts[3]?=some fl
 ne:T≠e
section
variable{M:Model}{A:Around}{E:Value->Shared->Prop}{s:Shared}{base:Heap}{env:Env}{outer:List Env}{L e:Addr}{C:Value}{dx:Option Addr}{vs:Array Value}
end
def CX1(P:Program)(w:World):CXT:=fun b H s E d c=>∃(a C:Addr) (dx:Option Addr) (T:Addr) (H':Hp),d=.ref a/\c.os=s.os/\AllBare c.gens/\Un (frs b) [] H H' s.heap c.heap/\HOk P w H' c.heap /\
 H' a=some (XO a C dx)/\Trc c.heap a (.ref C) dx T .none/\s.heap.objs.size<=T/\H' T=none/\E (.ref C) dx H'
section
variable{X:Cx}{pins:List (Addr×Obj)}{σ:St}{H:Hp}{s:Shared}
end
structure XOk(X:Cx)(EK:St->XK):Prop where
 pass:∀(pins:List (Addr×Obj)) (σ:St) (H:Hp) (s:Shared) (e:Value) (s':Shared),Inv X pins σ H s->CX1 X.prog X.w X.stack H s (EK σ) e s'->X.xe e s'
 rais:∀(pins:List (Addr×Obj)) (σ:St) (H:Hp) (s:Shared) (a C:Addr) (dx:Option Addr),Inv X pins σ H s->H a=some (XN a C dx)->EK σ (.ref C) dx (upd H a (XO a C dx))->X.xe (.ref a) s
 calm:X.calm=true
section
variable{P:Program}{w:World}{K:yg}{mg:Str->Option Value}{base:Heap}{N:LS}{qual:Str}{scope:Scope}{f:Addr}{cd:Value}{A:Around}{outer:List Env}{s0:Shared}{H0:Hp}{E:XK}
end
def tRaise(K:yg)(c:St->XK)(te:TE):TS:=fun _ σ H=>te σ H fun x b=>∃ a C dx,x=.ref a/\b a=some (XN a C dx)/\XAt K C/\c σ (.ref C) dx (upd b a (XO a C dx))
section
variable{X:Cx}{EK:St->XK}{e:Expr}{te:TE}{pos:Pos}{K:yg}
end
def tCallS(sp:Sp)(a:St->XK)(t:TA):TE:=fun σ H Q=>t σ H fun vs b=>sp vs b Q (a σ)
def tMethS(C:Addr)(m:Str)(sp:Sp)(b:St->XK)(d:TE)(t:TA):TE:=fun σ H Q=>d σ H fun x a=>MeR C m x a (t σ a fun vs c=>sp (x::vs) c Q (b σ))
def tMakeS(C:Addr)(sp:Sp)(b:St->XK)(t:TA):TE:=fun σ H Q=>t σ H fun vs a=>∀ x dx,a x=none->a dx=none->dx≠x ->
 sp (.ref x::vs) (upd (upd a dx (.own x)) x (.ins C dx [])) (fun v c=>v=.non/\Q (.ref x) c) (b σ)
structure MethOk(P:Program)(w:World)(K:yg)(mg:Str->Option Value)(base:Heap)(CX:CXT)(k:Nat)(C:Addr)(m:Str)(ps:LS)(sp:Sp):Prop where
 ex:∃ f fd,FnOk P w K mg base CX k f fd ps sp/\Meth K C m f/\Binds K fd ps []
 cl:Cls K C
structure MakeOk(P:Program)(w:World)(K:yg)(mg:Str->Option Value)(base:Heap)(CX:CXT)(k:Nat)(C:Addr)(x:Str)(ps:LS)(sp:Sp):Prop where
 ex:∃ f fd,FnOk P w K mg base CX k f fd ps sp/\Mk K C f/\Binds K fd ps []
 mg_:mg x=some (.ref C)
structure XMakeOk(P:Program)(w:World)(K:yg)(mg:Str->Option Value)(base:Heap)(k:Nat)(C:Addr)(x:Str)(ps:LS)(sp:Sp):Prop where
 ex:∃ f fd,wq7 k f fd ps sp/\XMk K C f/\Binds K fd ps []
 mg_:mg x=some (.ref C)
section
variable{X:Cx}{EK:St->XK}{k:Nat}{f C:Addr}{fd:FuncData}{ps:LS}{sp:Sp}{x m:Str}{p pos apos:Pos}{e o:Expr}{es:List Expr}{ta:TE}{t:TA}
theorem qE{pl:Sem Bool}(D:MethOk X.prog X.w X.K X.mg X.base CX0 k C m ps sp)(i:Room k X.A)(g:PE X o ta)(c:PA X (e::es) t)
  (b:starEach (e::es) X.env=(false,eval e X.env)::starEach es X.env:=by rfl) (a:(backTo pos (starEach es X.env)).any (·.1)=false:=by rfl)
  (j:eval (.Call (.Attribute o m apos) (e::es) [] pos) X.env=(do
   let ov <- eval o X.env
   standAt apos.atName
   let (f,first) <- holding [ov] (getMethod ov m pl)
   callWith pos f first (backTo pos (starEach (e::es) X.env)) (backToKw pos (keywordEach [] X.env))):=by rfl) :
  PE X (.Call (.Attribute o m apos) (e::es) [] pos) (qeE C m sp [] E0 ta t):=by
 obtain⟨f,fd,F,h,d⟩:=D.ex;show pe_meth (pl:=pl) g D.cl h F i d .nil qA c b a j
theorem jg{pl:Sem Bool}(D:MethOk X.prog X.w X.K X.mg X.base CX0 k C m ps sp)(d:Room k X.A)(b:PE X o ta)
  (e:eval (.Call (.Attribute o m apos) [] [] pos) X.env=(do
   let ov <- eval o X.env
   standAt apos.atName
   let (f,first) <- holding [ov] (getMethod ov m pl)
   callWith pos f first (backTo pos (starEach [] X.env)) (backToKw pos (keywordEach [] X.env))):=by rfl) :
  PE X (.Call (.Attribute o m apos) [] [] pos) (qeE C m sp [] E0 ta qgO):=by
 obtain⟨f,fd,F,c,a⟩:=D.ex;show pe_meth0 (pl:=pl) b D.cl c F d a .nil qA e
end
section
variable{P:Program}{w:World}{K:yg}{mg:Str->Option Value}{base:Heap}
end
abbrev Cx.tried(X:Cx)(pn:List (Addr×Obj))(E:Value->Shared->Prop):Cx:={ X with pn:=pn,xe:=E }
abbrev Cx.hand(X:Cx)(a:Addr):Cx:={ X with A:=X.A.mark (some (.ref a)),calm:=false,xe:=fun _ _=>False }
section
variable{X:Cx}{pins pins':List (Addr×Obj)}{σ:St}{H:Hp}{s:Shared}{E:Value->Shared->Prop}{a:Addr}
structure Loose(X:Cx)(pins:List (Addr×Obj))(H:Hp)(T:Addr):Prop where
 hn:H T=none
 lo:X.s₀.heap.objs.size<=T
 nl:T≠X.env.locals
 nf:T∉X.fs
 nc:∀ x c,X.env.cells.lookup x=some c->c≠T
 np:∀ p∈X.pn++pins,p.1≠T
end
structure Held(X:Cx)(pins:List (Addr×Obj))(H:Hp)(h:Heap)(a C:Addr)(dx:Option Addr):Prop where
 at_:H a=some (XO a C dx)
 tr:∃ T,Trc h a (.ref C) dx T .none/\Loose X pins H T
section
variable{X:Cx}{a C D:Addr}{dx:Option Addr}{c n:Str}{cp pos:Pos}{b0:Stmt}{body:List Stmt}{qex:List ExceptHandler}{tb tr:TS}{i:Nat}{K:yg}
end
section
variable{X:Cx}{body orelse:List Stmt}{h0:ExceptHandler}{hs:List ExceptHandler}{pos:Pos}{te:TS}
end
def TyX(K:yg)(H:Hp)(x:V)(t:Value):Prop:=TyOf K H x t\/∃ a C dx,x=.ref a/\t=.ref C/\IsX H a C dx/\XAt K C/\∀ d,dx=some d->∃ fs,H d=some (.xd fs)
theorem TyX.kit{x:V}(I:Inv X pins σ H s)(e:RelV x u)(ty:TyX X.K H x t):∃ P:Heap->Prop,PySem.W.KitX X.K u t P/\P s.heap/\u≠.builtin "__main__.__loader__#opaque":=by
 rcases ty with ty | ⟨a,C,dx,rfl,rfl,hx,c,hd⟩
 .show ty.kit I e
 .cases e;obtain⟨vs,b⟩:=hx.get I.hok
  cases dx with
  | none=>show⟨_,qd1 (od:=none) c,⟨b,rfl,rfl,Y0⟩,fun z=>nomatch z⟩
  | some d =>
   obtain⟨fs,f⟩:=hd d rfl;obtain⟨od,g,h1,_⟩:=qfE I f;show⟨_,qd1 (od:=some od) c,⟨b,rfl,rfl,h1⟩,fun z=>nomatch z⟩
def qgA(K:yg):List V->Hp->VK->Prop:=fun xs H Q=>∃ x y t c b,xs=[x,y]/\TyX K H x t/\qcY y=some c/\PySem.W.kitOne K t c=some b/\Q (.bl b) H
def qfF(K:yg):List V->Hp->VK->Prop:=fun xs H Q=>∃ x p ys t a b,xs=[x,.ref p]/\TyX K H x t/\H p=some (.tup ys)/\ys.map qcY=a.map some/\PySem.W.kitAny K t a=some b/\Q (.bl b) H
section
variable{X:Cx}{K:yg}
theorem qcd(a:X.K=K):zU X (.builtin "isinstance") (qgA K):=by
 subst a;intro pins s σ H xs us Q I r h;obtain⟨x,y,t,c,b,rfl,ty,f,d,q⟩:=h;obtain⟨u,v,rfl,g,i⟩:=qfZ r;have e:=qcc f i;subst e;obtain⟨P,Z,p,ne⟩:=ty.kit I g;show PySem.W.kia_one Z I.kIn p d ne fun tk=>⟨.bl b,H,I.tok tk,rfl,q⟩
theorem qdv(i:X.K=K):zU X (.builtin "isinstance") (qfF K):=by
 subst i;intro pins s σ H xs us Q I r h;obtain⟨x,p,ys,t,C,b,rfl,ty,y,z,j,q⟩:=h;obtain⟨u,v,rfl,B,f⟩:=qfZ r;cases f;obtain⟨P,Z,A,ne⟩:=ty.kit I B;obtain⟨_,its,f,o,m,hc,n,l⟩:=(show ObjOk X.prog X.w H s.heap p (.tup ys) from I.hok p _ y);have e:=qbP z f;subst e;obtain⟨c,D,g,E⟩:=o;have a:c=.type "tuple":=hc;have d:g=.seq its.toArray n:=l;subst a d;show PySem.W.kia_tup Z I.kIn A m j ne fun tk=>⟨.bl b,H,I.tok tk,rfl,q⟩
end
mutual
inductive EqD(K:yg)(H:Hp):Nat->V->V->Bool->Prop
 | flat {n:Nat} {x y:V} (fx:qaB x=true) (fy:qaB y=true):EqD K H n x y (eqV x y)
 | self {n:Nat} {a:Addr}:EqD K H n (.ref a) (.ref a) true
 | deep {n:Nat} {a b:Addr} {k:Bool} (h:EqT K H n a b k) (ne:a≠b):EqD K H n (.ref a) (.ref b) k
inductive EqT(K:yg)(H:Hp):Nat->Addr->Addr->Bool->Prop
 | lst {n:Nat} {a b:Addr} {xs ys:List V} {e:Nat->Bool} (ha:SqL K H a xs) (hb:SqL K H b ys) (hl:xs.length=ys.length) (he:∀ j x y,xs[j]?=some x->ys[j]?=some y->EqD K H n x y (e j)):EqT K H (n+1) a b ((List.range xs.length).all e)
 | lstL {n:Nat} {a b:Addr} {xs ys:List V} (ha:SqL K H a xs) (hb:SqL K H b ys) (hl:xs.length≠ys.length):EqT K H (n+1) a b false
 | tup {n:Nat} {a b:Addr} {xs ys:List V} {e:Nat->Bool} (ha:SqT K H a xs) (hb:SqT K H b ys) (he:∀ j x y,xs[j]?=some x->ys[j]?=some y->EqD K H n x y (e j)):EqT K H (n+1) a b ((List.range (min xs.length ys.length)).all e&&xs.length==ys.length)
 | lt {n:Nat} {a b:Addr} {xs ys:List V} (ha:SqL K H a xs) (hb:SqT K H b ys):EqT K H (n+1) a b false
 | tl {n:Nat} {a b:Addr} {xs ys:List V} (ha:SqT K H a xs) (hb:SqL K H b ys):EqT K H (n+1) a b false
end
theorem jz:∀{xs:List V} {us:List Value} {j:Nat} {u:Value},Vals xs us->us[j]?=some u->∃ x,xs[j]?=some x/\RelV x u
 | _,_,_,_,.nil,e=>by simp at e
 | _,_,0,_,.cons r _,e=>by simp at e;subst e;show⟨_,rfl,r⟩
 | _,_,j+1,u,.cons _ t,e=>by
  obtain⟨x,h1,a⟩:=jz (j:=j) (u:=u) t (by simpa using e);show⟨x,by simpa using h1,a⟩
section
variable{X:Cx}{pins:List (Addr×Obj)}{σ:St}{H:Hp}{s:Shared}
theorem qdw(I:Inv X pins σ H s):∀ n,(∀(A:Around) (x y:V) (k:Bool) (u v:Value),EqD X.K H n x y k->RelV x u->RelV y v->A.units+n<cLine->SeqAt.EqAt A s u v k)/\(∀(A:Around) (a b:Addr) (k:Bool),EqT X.K H n a b k->A.units+n<cLine->SeqAt.RcAt A s (.ref a) (.ref b) k):=by
 intro n
 induction n with
 | zero =>
  have F:∀(A:Around) (a b:Addr) (k:Bool),EqT X.K H 0 a b k->A.units+0<cLine->SeqAt.RcAt A s (.ref a) (.ref b) k:=fun A a b k h=>by cases h
  show⟨fun A x y k u v h g i z=>?_,F⟩
  cases h with
  | flat fx fy=>show qeJ g i fx fy
  | self=>cases g;cases i;show kh _
  | deep h ne=>cases h
 | succ n ih =>
  have D:∀(A:Around) (a b:Addr) (k:Bool),EqT X.K H (n+1) a b k->A.units+(n+1)<cLine->SeqAt.RcAt A s (.ref a) (.ref b) k:=fun A a b k h z=>by
   have f:A.units<cLine:=by lk
   have o:A.in1.units+n<cLine:=by show A.units+1+n<cLine;lk
   cases h with
   | @lst _ _ _ xs ys e ha hb hl he =>
    obtain⟨its,r,pl,hz⟩:=I.list ha;obtain⟨c,m,d,l⟩:=I.list hb;have p:xs.length=its.toArray.size:=by rw[yz];show r.length
    have q:ys.length=c.toArray.size:=by rw[yz];show m.length
    rw[p];show SeqAt.RcAt.lists pl.isList d.isList (by rw[<- p,<- q,hl]) f fun j h1 E=>?_;have t:its[j]?=some its.toArray[j]:=by simp
    have w:c[j]?=some c.toArray[j]:=by simp
    obtain⟨x,B,g⟩:=jz r t;obtain⟨y,C,i⟩:=jz m w;show ih.1 A.in1 x y (e j) _ _ (he j x y B C) g i o
   | @lstL _ _ _ xs ys ha hb hl =>
    obtain⟨its,r,pl,hz⟩:=I.list ha;obtain⟨c,m,d,l⟩:=I.list hb;show SeqAt.RcAt.lists_lengths pl.isList d.isList ?_ f;rw[yz,yz,<- r.length,<- m.length];simp[hl]
   | @tup _ _ _ xs ys e ha hb he =>
    obtain⟨its,r,pl,hz⟩:=I.tuple ha;obtain⟨c,m,d,l⟩:=I.tuple hb;have p:xs.length=its.toArray.size:=by rw[yz];show r.length
    have q:ys.length=c.toArray.size:=by rw[yz];show m.length
    rw[p,q];show SeqAt.RcAt.tuples pl d f fun j h1 E=>?_;have t:its[j]?=some its.toArray[j]:=by simp
    have w:c[j]?=some c.toArray[j]:=by simp
    obtain⟨x,B,g⟩:=jz r t;obtain⟨y,C,i⟩:=jz m w;show ih.1 A.in1 x y (e j) _ _ (he j x y B C) g i o
   | lt ha hb =>
    obtain⟨its,r,pl,hz⟩:=I.list ha;obtain⟨c,m,d,l⟩:=I.tuple hb;show SeqAt.RcAt.list_tuple pl.isList d f
   | tl ha hb =>
    obtain⟨its,r,pl,hz⟩:=I.tuple ha;obtain⟨c,m,d,l⟩:=I.list hb;show SeqAt.RcAt.tuple_list pl d.isList f
  show⟨fun A x y k u v h g i z=>?_,D⟩
  cases h with
  | flat fx fy=>show qeJ g i fx fy
  | self=>cases g;cases i;show kh _
  | deep h ne=>cases g;cases i;show SeqAt.EqAt.of_refs ne (D A _ _ k h z)
theorem ne_refs(I:Inv X pins σ H s){n:Nat}{A:Around}{a b:Addr}{k:Bool}(h:EqT X.K H n a b k)(z:A.units+n<cLine):SeqAt.RcNeAt A s (.ref a) (.ref b) (!k):=by
 cases n with
 | zero=>cases h
 | succ n =>
  have v:=qdw I n;have f:A.units<cLine:=by lk
  have l:A.in1.units+n<cLine:=by show A.units+1+n<cLine;lk
  cases h with
  | @lst _ _ _ xs ys e ha hb hl he =>
   obtain⟨its,r,pl,hz⟩:=I.list ha;obtain⟨c,i,d,g⟩:=I.list hb;have m:xs.length=its.toArray.size:=by rw[yz];show r.length
   have o:ys.length=c.toArray.size:=by rw[yz];show i.length
   rw[m];show SeqAt.RcNeAt.lists pl.isList d.isList (by rw[<- m,<- o,hl]) f fun j h1 w=>?_;obtain⟨x,p,t⟩:=jz r (show its[j]?=some its.toArray[j] by simp);obtain⟨y,q,u⟩:=jz i (show c[j]?=some c.toArray[j] by simp);show v.1 A.in1 x y (e j) _ _ (he j x y p q) t u l
  | @lstL _ _ _ xs ys ha hb hl =>
   obtain⟨its,r,pl,hz⟩:=I.list ha;obtain⟨c,i,d,g⟩:=I.list hb;show SeqAt.RcNeAt.lists_lengths pl.isList d.isList ?_ f;rw[yz,yz,<- r.length,<- i.length];simp[hl]
  | @tup _ _ _ xs ys e ha hb he =>
   obtain⟨its,r,pl,hz⟩:=I.tuple ha;obtain⟨c,i,d,g⟩:=I.tuple hb;have m:xs.length=its.toArray.size:=by rw[yz];show r.length
   have o:ys.length=c.toArray.size:=by rw[yz];show i.length
   rw[m,o];show SeqAt.RcNeAt.tuples pl d f fun j h1 w=>?_;obtain⟨x,p,t⟩:=jz r (show its[j]?=some its.toArray[j] by simp);obtain⟨y,q,u⟩:=jz i (show c[j]?=some c.toArray[j] by simp);show v.1 A.in1 x y (e j) _ _ (he j x y p q) t u l
  | lt ha hb =>
   obtain⟨its,r,pl,hz⟩:=I.list ha;obtain⟨c,i,d,g⟩:=I.tuple hb;show SeqAt.RcNeAt.list_tuple pl.isList d f
  | tl ha hb =>
   obtain⟨its,r,pl,hz⟩:=I.tuple ha;obtain⟨c,i,d,g⟩:=I.list hb;show SeqAt.RcNeAt.tuple_list pl d.isList f
theorem qfG{A:Around}{x y:V}{u v:Value}(e:RelV x u)(c:RelV y v)(f:qaB x=true)(d:qaB y=true):SeqAt.RcAt A s u v (eqV x y)/\SeqAt.RcNeAt A s u v (!eqV x y):=by
 cases x with
 | non =>
  cases e
  cases y with
  | non=>cases c;show⟨SeqAt.RcAt.none_none,SeqAt.RcNeAt.none_none⟩
  | bl b=>cases c;show⟨SeqAt.RcAt.none_bool b,SeqAt.RcNeAt.none_bool b⟩
  | int b=>obtain⟨t,rfl⟩:=c;show⟨SeqAt.RcAt.none_int b t,SeqAt.RcNeAt.none_int b t⟩
  | str b=>obtain⟨t,rfl⟩:=c;show⟨SeqAt.RcAt.none_str b t,SeqAt.RcNeAt.none_str b t⟩
  | _=>cases d
 | bl a =>
  cases e
  cases y with
  | non=>cases c;show⟨SeqAt.RcAt.bool_none a,SeqAt.RcNeAt.bool_none a⟩
  | bl b=>cases c;show⟨SeqAt.RcAt.bool_bool a b,SeqAt.RcNeAt.bool_bool a b⟩
  | int b=>obtain⟨t,rfl⟩:=c;show⟨SeqAt.RcAt.bool_int a b t,SeqAt.RcNeAt.bool_int a b t⟩
  | str b=>obtain⟨t,rfl⟩:=c;show⟨SeqAt.RcAt.bool_str a b t,SeqAt.RcNeAt.bool_str a b t⟩
  | _=>cases d
 | int a =>
  obtain⟨t',rfl⟩:=e
  cases y with
  | non=>cases c;show⟨SeqAt.RcAt.int_none a t',SeqAt.RcNeAt.int_none a t'⟩
  | bl b=>cases c;show⟨SeqAt.RcAt.int_bool a t' b,SeqAt.RcNeAt.int_bool a t' b⟩
  | int b=>obtain⟨t,rfl⟩:=c;show⟨SeqAt.RcAt.int_int a t' b t,SeqAt.RcNeAt.int_int a t' b t⟩
  | str b=>obtain⟨t,rfl⟩:=c;show⟨SeqAt.RcAt.int_str a t' b t,SeqAt.RcNeAt.int_str a t' b t⟩
  | _=>cases d
 | str a =>
  obtain⟨t',rfl⟩:=e
  cases y with
  | non=>cases c;show⟨SeqAt.RcAt.str_none a t',SeqAt.RcNeAt.str_none a t'⟩
  | bl b=>cases c;show⟨SeqAt.RcAt.str_bool a t' b,SeqAt.RcNeAt.str_bool a t' b⟩
  | int b=>obtain⟨t,rfl⟩:=c;show⟨SeqAt.RcAt.str_int a t' b t,SeqAt.RcNeAt.str_int a t' b t⟩
  | str b=>obtain⟨t,rfl⟩:=c;show⟨SeqAt.RcAt.str_str a t' b t,SeqAt.RcNeAt.str_str a t' b t⟩
  | _=>cases d
 | _=>cases f
end
def qfH(K:yg)(c:Bool):R2:=fun x y H Q=>(qaB x=true/\qaB y=true/\Q (.bl (if c then !eqV x y else eqV x y)) H) \/
 (∃ a b k n,x=.ref a/\y=.ref b/\n<=60/\EqT K H n a b k/\Q (.bl (if c then !k else k)) H) \/
 (∃ a kvs,x=.ref a/\y=.ref a/\H a=some (.dK kvs)/\Q (.bl (!c)) H)
theorem qbQ{b:Type}[DecidableEq b]:∀{a:List (b×Value)} {k:b} {v:Value},(a.map (·.1)).Nodup->(k,v)∈a->valueAt a k=some v
 | [],_,_,_,h=>by cases h
 | (k',v')::r,k,v,hn,h=>by
  obtain⟨h1,c⟩:=yo.mp (show(k'::r.map (·.1)).Nodup from hn);unfold valueAt;rw[xN];by_cases e:k'=k
  .subst e;simp only[decide_true];rcases yx.mp h with z | z
   .cases z;rfl
   .show absurd (yI.mpr ⟨(k',v),z,rfl⟩) h1
  .simp only[e,Ki];rcases yx.mp h with z | z
   .cases z;show absurd rfl e
   .show qbQ c z
theorem qdx{A:Around}{s:Shared}{c:Type}[DecidableEq c](a:List (c×Value))(d:(a.map (·.1)).Nodup):∀ f:List (c×Value),(∀ p∈f,p∈a)->PySem.W.KeqHits A s a f true
 | [],_=>.nil
 | (k,v)::r,h=>by
  have hv:valueAt a k=some v:=qbQ d (h (k,v) yU);show .hit (e:=true) (b:=true) hv (kh v) (qdx a d r fun p g=>h p (yC _ g))
section
variable{X:Cx}{K:yg}
theorem k_eqU(m:X.K=K)(p:X.A.units+100<cLine):OpR X (compareOp .Eq) (qfH K false):=by
 subst m;intro pins s σ H x y u v Q I c f h;rcases h with⟨j,l,q⟩ | ⟨a,b,k,n,rfl,rfl,o,e,q⟩ | ⟨a,kvs,rfl,rfl,i,q⟩
 .show(qfG c f j l).1 _ _ _ _ ⟨.bl _,H,I,rfl,q⟩
 .cases c;cases f;show(qdw I n).2 X.A a b k e (by lk) _ _ _ _ ⟨.bl _,H,I,rfl,q⟩
 .cases c;cases f;obtain⟨_,g,vs,r,d⟩:=(show ObjOk X.prog X.w H s.heap a (.dK kvs) from I.hok a _ i);obtain⟨_,_,_,_,_,_,_,_,nd⟩:=id d;show PySem.W.keq_eq g g d d (by lk) (fun _=>qdx vs nd vs fun _ h=>h) ?_;rw[Xe];show⟨.bl true,H,I,rfl,q⟩
theorem qaj(m:X.K=K)(p:X.A.units+100<cLine):OpR X (compareOp .NotEq) (qfH K true):=by
 subst m;intro pins s σ H x y u v Q I c f h;rcases h with⟨j,l,q⟩ | ⟨a,b,k,n,rfl,rfl,o,e,q⟩ | ⟨a,kvs,rfl,rfl,i,q⟩
 .show(qfG c f j l).2 _ _ _ _ ⟨.bl _,H,I,rfl,q⟩
 .cases c;cases f;show ne_refs I e (by lk) _ _ _ _ ⟨.bl _,H,I,rfl,q⟩
 .cases c;cases f;obtain⟨_,g,vs,r,d⟩:=(show ObjOk X.prog X.w H s.heap a (.dK kvs) from I.hok a _ i);obtain⟨_,_,_,_,_,_,_,_,nd⟩:=id d;show PySem.W.keq_ne g g d d (by lk) (fun _=>qdx vs nd vs fun _ h=>h) ?_;rw[Xe];show⟨.bl false,H,I,rfl,q⟩
end
section
variable{X:Cx}{K:yg}
def qgd(K:yg):R2:=fun x y H Q=>rIx K x y H Q\/∃ a v,x=.ref a/\DGet H a y (some v)/\Q v H
theorem qt(f:X.K=K)(m:X.A.units+100<cLine):IxR X (qgd K):=by
 subst f;show IxR.or ix_seq ?_;intro d c pins s σ H x y v u Q I j l h i;obtain⟨a,z,rfl,g,q⟩:=h;cases j;show tail_any (dict_typeIs I g) PySem.F.slot_dict_getitem.lookup (d_getItem (by lk) I g l fun o n e b=>⟨z,H,e,b,q⟩) i
def rSetU:qgl:=fun o i v H Q=>rSetL o i v H Q\/∃ a H',o=.ref a/\DPut H a i v H'/\Q H'
theorem jJ(l:X.A.units+100<cLine):qgT X rSetU:=by
 intro pins s σ H o i v j f u Q I c b d h;rcases h with h | ⟨a,H',rfl,g,q⟩
 .show set_list pins s σ H o i v j f u Q I c b d h
 .cases c;show d_setItem (by lk) I g b d fun m e=>⟨H',e,q⟩
def qey(K:yg)(b:Bool):R2:=fun x y H Q=>rIn K b x y H Q\/(∃ a o,y=.ref a/\DGet H a x o/\Q (.bl (if b then !o.isSome else o.isSome)) H) \/
 (∃ p xs e n,y=.ref p/\SqL K H p xs/\n<=60/\(∀ z∈xs,EqD K H n z x (e z))/\Q (.bl (if b then !xs.any e else xs.any e)) H)
theorem qfI{pins:List (Addr×Obj)}{σ:St}{H:Hp}{s:Shared}{xs:List V}{its:List Value}{x:V}{u:Value}{e:V->Bool}{n:Nat}{A:Around}(I:Inv X pins σ H s)(r:Vals xs its)(p:RelV x u)(o:A.units+n<cLine)(m:∀ z∈xs,EqD X.K H n z x (e z)) :
  ∃ g:Value->Bool,(∀ w,w∈its.toArray->SeqAt.EqAt A s w u (g w))/\its.toArray.any g=xs.any e:=by
 classical
 show⟨fun w=>decide (∃ z∈xs,RelV z w/\e z=true),fun w hw=>?_,?_⟩
 .have d:w∈its:=by simpa using hw
  obtain⟨j,c⟩:=Xv.mp d;obtain⟨z,hz,a⟩:=jz r c;have i:=ye hz
  have eq:decide (∃ z∈xs,RelV z w/\e z=true)=e z:=by
   cases q:e z with
   | true=>show yD ⟨z,i,a,q⟩
   | false =>
    show yl fun⟨t,_,f,l⟩=>?_;rw[RelV.inj f a,q] at l;cases l
  show SeqAt.EqAt A s w u (decide (∃ z∈xs,RelV z w/\e z=true));rw[eq];show(qdw I n).1 A z x (e z) w u (m z i) a p o
 .rw [Yn,YK];constructor
  .intro h;have h':its.any (fun w=>decide (∃ z∈xs,RelV z w/\e z=true))=true:=by simpa using h
   obtain⟨w,_,q⟩:=YK.mp h';obtain⟨z,hz,_,b⟩:=yk q;show⟨z,hz,b⟩
  .rintro ⟨z,hz,b⟩;obtain⟨j,c⟩:=Xv.mp hz;obtain⟨w,hw,a⟩:=r.get c;have:its.any (fun w=>decide (∃ z∈xs,RelV z w/\e z=true))=true:=YK.mpr ⟨w,ye hw,yD ⟨z,hz,a,b⟩⟩;simpa using this
theorem qae(j:X.K=K)(l:X.A.units+100<cLine):OpR X (compareOp .In) (qey K false):=by
 subst j;intro pins s σ H x y u v Q I b c h;rcases h with h | ⟨a,o,rfl,g,q⟩ | ⟨p,xs,e,n,rfl,hl,hn,he,q⟩
 .show op_in_seq pins s σ H x y u v Q I b c h
 .cases c;show d_in (by lk) I g b fun m d=>⟨.bl _,H,d,rfl,q⟩
 .cases c;obtain⟨its,r,pl,hz⟩:=I.list hl;obtain⟨f,h1,i⟩:=qfI (A:=X.A.in1) I r b (by show X.A.units+1+n<cLine;lk) he;show SeqAt.in_listAt f pl.isList h1 (by rw[i];show⟨.bl _,H,I,rfl,q⟩)
theorem zz(j:X.K=K)(l:X.A.units+100<cLine):OpR X (compareOp .NotIn) (qey K true):=by
 subst j;intro pins s σ H x y u v Q I b c h;rcases h with h | ⟨a,o,rfl,g,q⟩ | ⟨p,xs,e,n,rfl,hl,hn,he,q⟩
 .show op_notIn_seq pins s σ H x y u v Q I b c h
 .cases c;show d_notIn (by lk) I g b fun m d=>⟨.bl _,H,d,rfl,q⟩
 .cases c;obtain⟨its,r,pl,hz⟩:=I.list hl;obtain⟨f,h1,i⟩:=qfI (A:=X.A.in1) I r b (by show X.A.units+1+n<cLine;lk) he;show SeqAt.notIn_listAt f pl.isList h1 (by rw[i];show⟨.bl _,H,I,rfl,q⟩)
def rListU(K:yg):List V->Hp->VK->Prop:=fun xs H Q=>(∃ p ys,xs=[.ref p]/\(SqL K H p ys\/SqT K H p ys)/\∀ l,H l=none->Q (.ref l) (upd H l (.lst ys))) \/
 (∃ p kvs,xs=[.ref p]/\H p=some (.dK kvs)/\∀ l,H l=none->Q (.ref l) (upd H l (.lst (kvs.map fun a=>kV a.1)))) \/
 (∃ x,xs=[.str x]/\x.length<=1000/\∀ l,H l=none->Q (.ref l) (upd H l (.lst (x.cps.toList.map fun c=>.str ⟨#[c]⟩))))
theorem qbe{c d:Type}{F:c->d->Prop}:∀{l:List c} {m:List d} {j:Nat} {a:c},Paired F l m->l[j]?=some a->∃ b,m[j]?=some b/\F a b
 | _,_,_,_,.nil,e=>by simp at e
 | _,_,0,_,.cons r _,e=>by simp at e;subst e;show⟨_,rfl,r⟩
 | _,_,j+1,a,.cons _ t,e=>by
  obtain⟨b,h1,f⟩:=qbe (j:=j) (a:=a) t (by simpa using e);show⟨b,by simpa using h1,f⟩
theorem zO:∀{ys:List V} {us:List Value},ys.length=us.length->(∀(j:Nat) y u,ys[j]?=some y->us[j]?=some u->RelV y u)->Vals ys us
 | [],[],_,_=>.nil
 | [],_::_,h,_=>by cases h
 | _::_,[],h,_=>by cases h
 | y::ys,u::us,h,q=>.cons (q 0 y u rfl rfl) (zO (Nat.succ.inj h) fun j c b h1 a=>q (j+1) c b (by simpa using h1) (by simpa using a))
theorem qcl(J:X.K=K)(hc:X.calm=true):zU X (.type "list") (rListU K):=by
 subst J;intro pins s σ H xs us Q I r h;rcases h with h | ⟨p,kvs,rfl,ea,q⟩ | ⟨x,rfl,hx,q⟩
 .show call_list_of pins s σ H xs us Q I r h
 .obtain⟨u,rfl,M⟩:=qbH r;cases M;obtain⟨hz,L,vs,D,d⟩:=(show ObjOk X.prog X.w H s.heap p (.dK kvs) from I.hok p _ ea);obtain⟨ep,n⟩:=d.dictAt;have hl:kvs.length=vs.length:=D.length;show PySem.W.kdl_call (PySem.W.kdl_dict (knd:=jh X.prog X.w) (kvs:=vs) (ep:=ep) L) (I.ok.hd hc) n (by rw[<- hl];show hz) fun h' tk a f A e it=>?_;obtain⟨o,v⟩:=it
  have hv:Vals (kvs.map fun b=>kV b.1) a.toList:=by
   show zO (by rw[ya,hl,<- o];simp) fun j y u h1 g=>?_;obtain⟨k,x,l,F⟩:=v j u (by simpa using g);rw[yd] at h1
   cases B:kvs[j]? with
   | none=>rw[B] at h1;cases h1
   | some b =>
    rw[B] at h1;cases h1;obtain⟨O,C,G,N⟩:=qbe D B;rw[l] at C;cases C;have E:b.1=k:=G;show RelV (kV b.1) u;rw[E];rcases qW (show qcE k u=true from F) with⟨i,t,rfl,rfl⟩ | ⟨z,t,rfl,rfl⟩
    .show⟨t,rfl⟩
    .show⟨t,rfl⟩
  show⟨.ref s.heap.objs.size,_,I.laid (t':=tk) A (yh _) (show ObjOk X.prog X.w _ h' _ (.lst (kvs.map fun b=>kV b.1)) from⟨by rw[ya];show hz,a.toList,f,hv,by simpa using e⟩),rfl,q _ (I.hok.fresh (yh _))⟩
 .obtain⟨u,rfl,t,rfl⟩:=qbH r;have hsz:x.cps.size<=sizeLine:=yX (qi hx);show call_list_str (I.ok.hd hc) x t (fun h' tk a f A e it=>?_) hsz;obtain⟨o,v⟩:=it
  have hv:Vals (x.cps.toList.map fun c=>V.str ⟨#[c]⟩) a.toList:=by
   show zO (by rw[ya];simp[o]) fun j y u h1 g=>?_;obtain⟨c,t',l,rfl⟩:=v j u (by simpa using g);rw[yd] at h1;have m:x.cps.toList[j]?=some c:=by simpa using l
   rw[m] at h1;cases h1;show⟨t',rfl⟩
  show⟨.ref s.heap.objs.size,_,I.laid (t':=tk) A (yh _) (show ObjOk X.prog X.w _ h' _ (.lst (x.cps.toList.map fun c=>V.str ⟨#[c]⟩)) from⟨by rw[ya];simpa using hsz,a.toList,f,hv,by simpa using e⟩),rfl,q _ (I.hok.fresh (yh _))⟩
end
structure CMethOk(P:Program)(w:World)(K:yg)(mg:Str->Option Value)(base:Heap)(CX:CXT)(k:Nat)(C:Addr)(x m:Str)(ps:LS)(sp:Sp):Prop where
 ex:∃ f fd,FnOk P w K mg base CX k f fd ps sp/\CMeth K C m f/\Binds K fd ps []
 mg_:mg x=some (.ref C)
section
variable{X:Cx}{k:Nat}{C:Addr}{ps:LS}{sp:Sp}{x m:Str}{p pos apos:Pos}{e:Expr}{es:List Expr}{t:TA}
theorem qaW(D:MakeOk X.prog X.w X.K X.mg X.base CX0 k C x ps sp)(i:Room (k+1) X.A)(c:PA X (e::es) t)(h:Gl X x:=by rfl)(a:(x==("__debug__":Str))=false:=by decide)
  (g:starEach (e::es) X.env=(false,eval e X.env)::starEach es X.env:=by rfl) (b:(backTo pos (starEach es X.env)).any (·.1)=false:=by rfl):PE X (.Call (.Name x p) (e::es) [] pos) (qf1 C sp [] E0 t):=by
 obtain⟨f,j,F,M,d⟩:=D.ex;show pe_make M F i h D.mg_ d .nil qA c a g b
end
theorem own_eq_same{prog:Program}{w:World}{A:Around}{E:Value->Shared->Prop}{s:Shared}{K:yg}{x C:Addr}{ox:Obj}{od:Option Obj}{Q:Value->Shared->Prop}(m:A.units<cLine)(X:K.In s.heap)(I:PySem.W.InstAt s.heap x ox C od)
  (l:PySem.W.findIn K (.ref C) "__eq__"=some (some (.builtin "object.__eq__"))) (i:PySem.W.mroIn K C (.type "object")=some true) (h:Q (.bool true) s):wpAny (model prog w) A (richCompare .Eq (.ref x) (.ref x)) Q E s:=by
 have a:∀{g:Around} {f:Value->Shared->Prop},f (.bool true) s->wpAny (model prog w) g (call (.builtin "object.__eq__") [.ref x,.ref x]) f E s:=fun{g f} q=>by
  show kD (Xx PySem.F.slot_object_eq.plain PySem.F.entry_object_eq (@PySem.W.check_slot (model prog w) _ _ s "object.__eq__" "object" "__eq__" (.ref x) [.ref x] [] _ (by room) (by room) (I.type.andThen (xY X i)) (PySem.F.args_object_eq_2 _ _) ?_));show yr (yv (yr (wpAny_isSame_ref_self ?_)));show yv q
 have one:wpAny (model prog w) A (tryCompare (.ref x) "__eq__" (.ref x)) (fun r c=>∃ v,r=some v/\Q v c) E s:=by
  unfold tryCompare;show yr ?_;simp only[callSpecialIfBound?,bindSpecialIfBound?];show Yz (yr (yr (yr (I.type.here ((xo X l).here ?_)))));show yr (kQ (wpAny_ite ?_));have b:=PySem.F.slot_object_eq.bind (.ref x)
  have d:wpAny (model prog w) A (call (.builtin "object.__eq__") ([.ref x]++[.ref x])>>=fun v=>pure (some v)) (fun r c=>wpAny (model prog w) A (match r with | some .notImplemented | none=>pure none | some v=>pure (some v)) (fun r c=>∃ v,r=some v/\Q v c) E c) E s:=
   yr (a (yv (yv ⟨_,rfl,h⟩)))
  split
  .show yr (Y3 b (yv d))
  .show wpAny_tryCatch (yr (Y3 b (yv d)))
 unfold richCompare;simp only[oneThing_ref];show Yz (yr (wpAny_cRoomFor m ?_));show yr (I.type.here (yr (I.type.here ?_)));rw[yB (by simp)];show yr (yv ?_);simp only[YX,Xw];show yr (YY one (fun r c z=>?_) fun _ _ e=>e);obtain⟨v,rfl,j⟩:=z;show yv j
structure OEq(K:yg)(C:Addr):Prop where
 eq:PySem.W.findIn K (.ref C) "__eq__"=some (some (.builtin "object.__eq__"))
 ob:PySem.W.mroIn K C (.type "object")=some true
def qhj(K:yg):R2:=fun x y H Q=>qfH K false x y H Q\/∃ a C dx fs,x=.ref a/\y=.ref a/\H a=some (.ins C dx fs)/\OEq K C/\Q (.bl true) H
theorem k_eqW{X:Cx}{K:yg}(d:X.K=K)(e:X.A.units+100<cLine):OpR X (compareOp .Eq) (qhj K):=by
 subst d;intro pins s σ H x y u v Q I b c h;rcases h with h | ⟨a,C,dx,fs,rfl,rfl,ea,oe,q⟩
 .show k_eqU rfl e pins s σ H x y u v Q I b c h
 .cases b;cases c;obtain⟨f,O,_⟩:=qbc I.hok ea;obtain⟨od,J,_⟩:=O.look;show own_eq_same (by lk) I.kIn J oe.eq oe.ob ⟨.bl true,H,I,rfl,q⟩
theorem qN{X:Cx}:MtR X "list.append" rAppend:=mt_append
theorem zP{X:Cx}:MtR X "list.extend" rExtend:=mt_extend
theorem mtR_pop{X:Cx}:MtR X "list.pop" rPop:=mt_pop
theorem mtR_popAt{X:Cx}:MtR X "list.pop" rPopAt:=mt_popAt
section
variable{D:Ends}{σ:St}{H:Hp}{Q:VK}{t u:TS}{te ta tb tc:TE}{tas:TA}{K:yg}{sp:Sp}{E:XK}{EK:St->XK}{C:Addr}{f m:Str}
theorem vFldU(h:ta σ H fun x a=>FlUR K f x a Q):qgy K ta f σ H Q:=h
theorem vSFldU(h:te σ H fun y a=>ta σ a fun x b=>SFUR K f x y b (D.nx σ)):qgz K ta te f D σ H:=h
theorem vXMake(h:tas σ H fun vs a=>vs.length<=1000/\∀ x,a x=none->sp (.ref x::vs) (upd a x (XN x C none)) (fun v b=>v=.non/\Q (.ref x) b) E):tXMake C sp E tas σ H Q:=h
theorem vMake(h:tas σ H fun vs a=>∀ x dx,a x=none->a dx=none->dx≠x->sp (.ref x::(vs++[])) (upd (upd a dx (.own x)) x (.ins C dx [])) (fun v b=>v=.non/\Q (.ref x) b) E):qf1 C sp [] E tas σ H Q:=h
theorem vMeth(h:ta σ H fun x a=>MeR C m x a (tas σ a fun vs b=>sp (x::(vs++[])) b Q E)):qeE C m sp [] E ta tas σ H Q:=h
theorem vVinit(h:tas σ H fun vs b=>∃ a C y,vs=[.ref a,y]/\b a=some (XN a C none)/\XAt K C/\Q .non b):tVinit K tas σ H Q:=h
theorem vCallS(h:tas σ H fun vs a=>sp vs a Q (EK σ)):tCallS sp EK tas σ H Q:=h
theorem vMethS(h:ta σ H fun x a=>MeR C m x a (tas σ a fun vs b=>sp (x::vs) b Q (EK σ))):tMethS C m sp EK ta tas σ H Q:=h
theorem vMakeS(h:tas σ H fun vs a=>∀ x dx,a x=none->a dx=none->dx≠x->sp (.ref x::vs) (upd (upd a dx (.own x)) x (.ins C dx [])) (fun v b=>v=.non/\Q (.ref x) b) (EK σ)):tMakeS C sp EK tas σ H Q:=h
theorem vRaise(h:te σ H fun x b=>∃ a C dx,x=.ref a/\b a=some (XN a C dx)/\XAt K C/\EK σ (.ref C) dx (upd b a (XO a C dx))):tRaise K EK te D σ H:=h
theorem qet{x y:V}{t a:Value}{b:Bool}(ty:TyX K H x t)(d:qcY y=some a)(c:PySem.W.kitOne K t a=some b)(h:Q (.bl b) H):qgA K [x,y] H Q:=⟨x,y,t,a,b,rfl,ty,d,c,h⟩
end
section
variable{prog:Program}{w:World}{A:Around}{E:Value->Shared->Prop}{s:Shared}
theorem none_dict{a:Addr}{Q:Value->Shared->Prop}(d:s.TypeIs (.ref a) "dict")(e:A.units<cLine)(h:Q (.bool false) s):wpAny (model prog w) A (richCompare .Eq .none (.ref a)) Q E s:=by
 show SeqAt.rc_eq_decline_or (k:=false) rfl d (by decide) PySem.F.sub_dict_NoneType YU PySem.F.slot_dict_eq_refl
  (fun _ c=>call_gives YU rfl PySem.F.entry_NoneType_eq (PySem.F.args_NoneType_eq_2 _ _) (SeqAt.NoneType___eq___none_ref_0 a) c) (fun f c=>?_) (fun _ c=>Y3 (rfl:isSame .none (.ref a)=pure false) c) (.inr e) h
 show XE PySem.F.slot_dict_eq_refl d PySem.F.entry_dict_eq ?_ (PySem.F.args_dict_eq_2 _ _);show wpAny _ _ (Builtin.Dict.dictSlotArgs "__eq__" ⟨[.ref a,.none],[]⟩>>=_) _ _ s;show yr ?_;unfold Builtin.Dict.dictSlotArgs;show yr (wpAny_notOrdered_dict d ?_);show wpAny _ _ (pure (Value.ref a,Value.none)) _ _ s;show yv ?_;show yr (wpAny_isInstance (T:="NoneType") (b:=false) rfl PySem.F.sub_NoneType_dict ?_);simp only[Bool.not_false,XD];show yr (wpAny_rule (yv ⟨_,rfl,c⟩))
theorem none_own{K:yg}{x C:Addr}{ox:Obj}{od:Option Obj}{Q:Value->Shared->Prop}(j:A.units<cLine)(X:K.In s.heap)(I:PySem.W.InstAt s.heap x ox C od)(g:OEq K C)(i:PySem.W.mroIn K C (.type "NoneType")=some false)
  (h:Q (.bool false) s):wpAny (model prog w) A (richCompare .Eq .none (.ref x)) Q E s:=by
 have l:wpAny (model prog w) A (tryCompare .none "__eq__" (.ref x)) (fun r a=>r=none/\a=s) E s:=by
  unfold tryCompare;show yr ?_;simp only[callSpecialIfBound?,bindSpecialIfBound?];show Yz (yr (yr ?_));show yr (Y3 (rfl:typeOf .none=pure (.type "NoneType")) ?_);show Y3 YU.lookup ?_;show yr (kQ (wpAny_ite ?_))
  have d:wpAny (model prog w) A (call (.builtin "NoneType.__eq__") ([.none]++[.ref x])>>=fun v=>pure (some v)) (fun r a=>wpAny (model prog w) A (match r with | some .notImplemented | none=>pure none | some v=>pure (some v)) (fun r a=>r=none/\a=s) E a) E s:=
   yr (call_gives YU rfl PySem.F.entry_NoneType_eq (PySem.F.args_NoneType_eq_2 _ _) (SeqAt.NoneType___eq___none_ref_0 x) (yv (yv ⟨rfl,rfl⟩)))
  split
  .show yr (Y3 (YU.bind .none) (yv d))
  .show wpAny_tryCatch (yr (Y3 (YU.bind .none) (yv d)))
 have m:wpAny (model prog w) A (tryCompare (.ref x) "__eq__" .none) (fun r a=>r=none/\a=s) E s:=by
  unfold tryCompare;show yr ?_;simp only[callSpecialIfBound?,bindSpecialIfBound?];show Yz (yr (yr (yr (I.type.here ((xo X g.eq).here ?_)))));show yr (kQ (wpAny_ite ?_));have b:=PySem.F.slot_object_eq.bind (.ref x)
  have c:∀{f:Value->Shared->Prop},f .notImplemented s->wpAny (model prog w) A (call (.builtin "object.__eq__") [.ref x,.none]) f E s:=fun{f} q=>by
   show kD (Xx PySem.F.slot_object_eq.plain PySem.F.entry_object_eq (@PySem.W.check_slot (model prog w) _ _ s "object.__eq__" "object" "__eq__" (.ref x) [.none] [] _ (by room) (by room) (I.type.andThen (xY X g.ob)) (PySem.F.args_object_eq_2 _ _) ?_));show yr (yv (yr (Y3 (rfl:isSame (.ref x) .none=pure false) ?_)));show yv q
  have d:wpAny (model prog w) A (call (.builtin "object.__eq__") ([.ref x]++[.none])>>=fun v=>pure (some v)) (fun r a=>wpAny (model prog w) A (match r with | some .notImplemented | none=>pure none | some v=>pure (some v)) (fun r a=>r=none/\a=s) E a) E s:=
   yr (c (yv (yv ⟨rfl,rfl⟩)))
  split
  .show yr (Y3 b (yv d))
  .show wpAny_tryCatch (yr (Y3 b (yv d)))
 unfold richCompare;show Yz (yr (wpAny_cRoomFor j ?_));show wpAny _ _ (typeOf .none>>=_) _ _ _;show yr (Y3 (rfl:typeOf .none=pure (.type "NoneType")) (yr (I.type.here ?_)));rw[yG (by rfl)];show yr ((xY X i).here ?_);simp only[YX,Xw];show yr (YY l (fun r a z=>?_) fun _ _ e=>e);obtain⟨rfl,rfl⟩:=z;simp only[Bool.not_false,XD];show yr (YY m (fun r a z=>?_) fun _ _ e=>e);obtain⟨rfl,rfl⟩:=z;show yr (wpAny_rule (yr (Y3 (rfl:isSame .none (.ref x)=pure false) (yv h))))
end
def rNoneRef(K:yg):R2:=fun x y H Q=>∃ a,x=.non/\y=.ref a/\((∃ xs,SqL K H a xs\/SqT K H a xs)\/(∃ kvs,H a=some (.dK kvs))\/∃ C dx fs,H a=some (.ins C dx fs)/\OEq K C/\PySem.W.mroIn K C (.type "NoneType")=some false)/\Q (.bl false) H
def qge(K:yg):R2:=fun x y H Q=>qhj K x y H Q\/rNoneRef K x y H Q
theorem jx{X:Cx}{K:yg}(e:X.K=K)(j:X.A.units+100<cLine):OpR X (compareOp .Eq) (qge K):=by
 intro pins s σ H x y u v Q I f g h;rcases h with h | ⟨a,rfl,rfl,h,q⟩
 .show k_eqW e j pins s σ H x y u v Q I f g h
 .subst e;cases f;cases g;have b:EP X pins σ Q (.bool false) s:=⟨.bl false,H,I,rfl,q⟩;rcases h with⟨xs,hl | hl⟩ | ⟨kvs,c⟩ | ⟨C,dx,fs,c,l,i⟩
  .obtain⟨its,r,pl,_⟩:=I.list hl;show SeqAt.RcAt.none_list pl.isList (by lk) _ _ _ _ b
  .obtain⟨its,r,pl,_⟩:=I.tuple hl;show SeqAt.RcAt.none_tuple pl (by lk) _ _ _ _ b
  .obtain⟨_,_,vs,_,d⟩:=(show ObjOk X.prog X.w H s.heap a (.dK kvs) from I.hok a _ c);show none_dict d.typeIs (by lk) b
  .obtain⟨m,O,_⟩:=qbc I.hok c;obtain⟨od,J,_⟩:=O.look;show none_own (by lk) I.kIn J l i b
def XL(K:yg)(C:Addr)(d:List Value):Prop:=∃ l m N bs a sn sub c b e f g h i j,K.lookup C=some (excClassObj l m C N bs d a sn sub c b e f g h i j "ValueError.__new__")
section
variable{K:yg}{C D:Addr}{bm bn:List Value}
end
end L2
namespace HT
open PySem PySem.Spec PyProof.Rows
section
variable{prog:Program}{w:World}{A:Around}{E:Value->Shared->Prop}{s:Shared}
end
end HT
namespace L2
open PySem PySem.Spec PyProof.Rows
variable{H:Hp}{X:Cx}{es:List Expr}{pos:Pos}{σ:St}
def tRev(K:yg)(d:TE)(e:TO):TE:=fun σ H Q=>d σ H fun x c=>e σ c fun o b=>o=some (-1)/\∃ a y z,x=.ref a/\SqT K b a [y,z]/\∀ p,b p=none->Q (.ref p) (upd b p (.tup [z,y]))
theorem vRev{K:yg}{c:TE}{d:TO}{Q:VK}(h:c σ H fun x e=>d σ e fun o b=>o=some (-1)/\∃ a y z,x=.ref a/\SqT K b a [y,z]/\∀ p,b p=none->Q (.ref p) (upd b p (.tup [z,y]))):tRev K c d σ H Q:=h
section
variable{X:Cx}{K:yg}{e st:Expr}{te:TE}{ts:TO}{p2 pos:Pos}
end
theorem Inv.turnedL{a:List (Addr×Obj)}{s:Shared}{h':Heap}{t':Nat}{fp:LQ}(I:Inv X a σ H s)(k:∀ b o,b∉fp->s.heap.get? b=some o->h'.get? b=some o)(f:∀ b∈fp,qdo X a H b):Inv X a σ H { s with heap:=h',toks:=t' }:=by
 have d:∀ b u,H b=some u->b∉fp:=fun b u e z=>by rw[(f b z).1] at e;cases e
 have l:X.env.locals∉fp:=fun z=>(f _ z).2.1 rfl;show I.step (g':=s.gens) (d':=s.drawn) (ch:=fp) (fun b p=>?_) (fun b o _ _ hc e _=>k b o hc e) (fun b o _ _ hc e _=>⟨o.slots,k b o hc e⟩) (fun _ _ _ _ n=>n)
  (fun b o hc e=>⟨o,k b o hc e⟩) (fun _ _ e=>e) (fun _ _ _ e=>e) (fun b ps e=>⟨#[],by rw[e];simp⟩) (fun m t=>?_) (fun b u e=>?_) I.bare
 .obtain⟨x,g,y,h,i,j⟩:=f b p;show⟨h,g,i,j⟩
 .obtain⟨o,es,ep,w,r⟩:=t;show⟨o,es,ep,k _ o l w,r⟩
 .show(I.hok b u e).stay (fun c v hc q=>k c v ?_ q) (fun _ q=>q) fun _ _ q=>q;rcases hc with z | z
  .rw [z];show d b u e
  .show d c _ z
def Ite(K:yg)(a:Addr):It:=
 ⟨fun i H=>∃ xs x,SqL K H a xs/\xs[i]?=some x,fun i H x H'=>∃ t y,x=.ref t/\H t=none/\H'=upd H t (.tup [.int i,y])/\∀ xs,SqL K H a xs->xs[i]?=some y,fun i H=>∃ xs,SqL K H a xs/\xs.length<=i⟩
theorem qc3{h:Heap}{o v:Obj}{b:Addr}(e:(h.push o).get? b=some v)(ne:b≠h.objs.size):h.get? b=some v:=(Heap.get?_push_cases e).elim (fun z=>absurd z.1 ne) fun z=>z
theorem turn_enum{P:Program}{w:World}{K:yg}{x1}(a e it:Addr)(r:e≠it):Turn P w K (.Tuple es x1 pos) (Ite K a) [e,it] e (fun i h=>(∃ j,IsEnum h e it i j)/\h.IsListIter it a i) where
 mem:=by simp
 obj:=fun i h st b g=>by
  obtain⟨⟨j,n⟩,o,D,c,d⟩:=st;simp only[yx,Yb,YH] at g;rcases g with rfl | rfl
  .show⟨_,n,fun v z=>by
    have T:Data.fields _=Data.cell v:=z;cases T⟩
  .show⟨o,D,fun v z=>by rw[d] at z;cases z⟩
 keep:=fun i h h' st k=>by
  obtain⟨⟨j,n⟩,l⟩:=st;show⟨⟨j,k e (by simp) _ n⟩,l.at fun o x=>k it (by simp) o x⟩
 item:=by
  intro X G hw F hc i m s σ H E I L st M;subst G hw F;obtain⟨⟨j,n⟩,l⟩:=st;obtain⟨xs,x,C,N⟩:=M;obtain⟨O,S,p,hz⟩:=I.list C;obtain⟨u,hu,ru⟩:=S.get N;show wpAny_pyNext_enum_item n l p.isList (x:=u) (by simpa using hu) r fun h' ho A hT hsz hk=>?_;show⟨_,rfl,wpAny_letOwnedTupleGo_enum ho fun U J q=>?_⟩;have fre:H s.heap.objs.size=none:=I.hok.fresh (yh _);have B:s.heap.objs.size≠e:=Yj (yN n);have R:s.heap.objs.size≠it:=by obtain⟨o,D,_⟩:=l;show Yj (yN D)
  have W:Inv X m σ (upd H s.heap.objs.size (.tup [.int i,x])) { s with heap:=s.heap.push { cls:=.type "tuple",data:=.seq #[.int i s.toks,u] },toks:=s.toks+1 }:=
   I.laid (fun b u e=>yw _ e) (yh _) ⟨wqqb,[.int i s.toks,u],.cons ⟨_,rfl⟩ (.cons ru .nil),⟨_,yZ _ rfl,rfl,_,rfl⟩⟩
  have t:∀ b∈[e,it],qdo X m (upd H s.heap.objs.size (.tup [.int i,x])) b:=fun b g=>by
   obtain⟨f0,f⟩:=L b g;show⟨?_,f⟩;rw[qf]
   .show f0
   .simp only[yx,Yb,YH] at g;rcases g with rfl | rfl
    .show B.symm
    .show R.symm
  have kk:∀ b o,b∉[e,it]->(s.heap.push { cls:=.type "tuple",data:=.seq #[.int i s.toks,u] }).get? b=some o->U.get? b=some o:=fun b o g z=>by
   simp only[yx,Yb,YH,not_or] at g;by_cases hz:b=s.heap.objs.size
   .subst hz;rw[yZ _ rfl] at z;cases z;show(q.2 _ B).trans hT
   .show(q.2 b g.1).trans (hk b o g.1 g.2 (qc3 z hz))
  have Y:=W.turnedL (h':=U) (t':=s.toks+1) (fp:=[e,it]) kk t;show⟨.ref s.heap.objs.size,_,Y,rfl,⟨_,x,rfl,fre,rfl,fun ys hy=>by rw[I.list_inj hy C];show N⟩,⟨⟨_,by simpa using J⟩,A.at fun o y=>(q.2 it r.symm).trans y⟩,fun b g=>(t b g).1⟩
 done:=by
  intro X G hw F hc i m s σ H E I L st M;subst G hw F;obtain⟨⟨j,n⟩,l⟩:=st;obtain⟨xs,C,N⟩:=M;obtain⟨O,S,p,hz⟩:=I.list C;have hl:=S.length;show wpAny_pyNext_enum_end (I.ok.hd hc) n l p.isList (xz (by simp;lk)) fun h' Z=>⟨rfl,I.turnedL (t':=s.toks) (fp:=[e,it]) (fun b o g z=>Z b o (fun T=>g (by simp[T])) z) L⟩
 self:=fun _ _ _ _ _ st h=>by
  obtain⟨⟨j,n⟩,_⟩:=st;show wpAny_pyIter_enum n h
theorem boot_enumerate:bootBuiltins "enumerate"=some (.type "enumerate"):=by room
def qgB(K:yg)(c:TA):TI:=fun σ H R=>c σ H fun vs b=>∃ a xs,vs=[.ref a]/\SqL K b a xs/\R (Ite K a) b
theorem pi_enum{K:yg}{a:Expr}{j:TA}{x1}{B p:Pos}(m:X.K=K)(o:Gl X "enumerate")(v:X.mg "enumerate"=none)(n:PA X [a] j)(x:starEach [a] X.env=[(false,eval a X.env)]:=by rfl):PI X (.Tuple es x1 B) (.Call (.Name "enumerate" p) [a] [] pos) (qgB K j):=by
 subst m;intro d s σ H R I h;show Call_ (qaM I o v boot_enumerate (YD (thn (n pos d s σ H _ I h) fun us f ⟨vs,l,c,A,z⟩=>?_) x rfl));obtain⟨a,xs,e,w,q⟩:=z;subst e
 cases A with
 | cons r rr =>
  cases rr;cases r;obtain⟨y,C,pl,hz⟩:=c.list w;show call_enumerate_list pl.isList fun h' i t hsz u=>wpAny_pyIter_enum i ?_;show⟨_,[f.heap.objs.size+1,f.heap.objs.size],_,_,l,rfl,c.kept (t':=f.toks) u,turn_enum a _ _ (Nat.succ_ne_self _),⟨⟨_,i⟩,t⟩,fun b g=>?_,q⟩;simp only[yx,Yb,YH] at g;rcases g with rfl | rfl
  .show c.fpOk (xS _) (c.hok.fresh (xS _))
  .show c.fpOk (yh _) (c.hok.fresh (yh _))
theorem for_enum{K:yg}{a:Addr}{xs:List V}{g:TG}{l:TS}{D:Ends}(b:Nat->St->Hp->Prop)(n:b 0 σ H)(hl:∀ i σ H,i<=xs.length->b i σ H->SqL K H a xs)
  (s:∀ i x t σ H,xs[i]?=some x->H t=none->b i σ H->g (.ref t) σ (upd H t (.tup [.int i,x])) fun d h=>l { D with nx:=b (i+1),ct:=b (i+1),bk:=D.nx } d h) (o:∀ σ H,b xs.length σ H->D.nx σ H) :
  ∃ W:Nat->Nat->St->Hp->Prop,(∃ m,W 0 m σ H)/\∀ i m σ H,W i m σ H ->
   ((Ite K a).stop i H/\D.nx σ H)\/((Ite K a).go i H/\∃ N:St->Hp->Prop,(∀ c H',N c H'->∃ j,j<m/\W (i+1) j c H')/\∀ x H',(Ite K a).yld i H x H'->g x σ H' fun d h=>l { D with nx:=N,ct:=N,bk:=D.nx } d h):=by
 show⟨fun i m σ H=>m=xs.length-i/\i<=xs.length/\b i σ H,⟨xs.length,by simp,YS _,n⟩,?_⟩;rintro i m σ H ⟨rfl,r,p⟩;have q:=hl i σ H r p;by_cases f:i<xs.length
 .show .inr ⟨⟨xs,xs[i],q,by simp[f]⟩,b (i+1),fun c H' w=>⟨xs.length-(i+1),by lk,rfl,f,w⟩,fun x H' y=>?_⟩;obtain⟨t,v,rfl,u,rfl,y⟩:=y;show s i v t σ _ (y xs q) u p
 .have e:i=xs.length:=by lk
  subst e;show .inl ⟨⟨xs,q,yh _⟩,o σ H p⟩
theorem vEnum{K:yg}{b:TA}{R:It->Hp->Prop}(h:b σ H fun vs c=>∃ a xs,vs=[.ref a]/\SqL K c a xs/\R (Ite K a) c):qgB K b σ H R:=h
section
variable{X:Cx}
end
end L2
namespace L2
open PySem PySem.Spec PyProof.Rows PySem.Builtin PySem.Builtin.Str
theorem qft{a c:Nat}(h:a+100<c):a+1<c:=by lk
theorem qeR{e ty f:TE}{b:St}{H:Hp}{Q:VK}(h:e b H fun x c=>∃ a,x=.ref a/\IsD c a/\ty b c fun y g=>f b g fun z d=>∃ o,DGet d a y o/\Q (o.getD z) d):qdX e ty f b H Q:=h
end L2
namespace L2
open PySem PySem.Spec PyProof.Rows
theorem eqV_strD(a b:Str):eqV (.str a) (.str b)=decide (a=b):=by
 have e:eqV (.str a) (.str b)=(a==b):=by simp[eqV]
 rw[e,Yn,Yy,yE]
theorem qc4:∀(ys:LS) (y:Str) (m:Nat) (b:m<ys.length),m<ys.idxOf y->ys[m]≠y
 | [],_,_,b,_=>by simp at b
 | a::r,y,m,b,h=>by
  rw[List.idxOf_cons] at h;by_cases e:a=y
  .subst e;simp at h
  .have c:(a==y)=false:=YR.mpr e;rw[c] at h
   cases m with
   | zero=>show e
   | succ k =>
    have d:k<r.idxOf y:=by
     have h:k+1<r.idxOf y+1:=h;lk
    show qc4 r y k (by simpa using b) d
section
variable{X:Cx}{K:yg}
def rIndex(K:yg):V->List V->Hp->VK->Prop:=fun x vs H Q=>∃(p:Addr) (ys:LS) (y:Str),x=.ref p/\vs=[.str y]/\SqL K H p (ys.map V.str)/\y∈ys/\Q (.int (ys.idxOf y:Nat)) H
theorem qdy(A:X.K=K):MtR X "list.index" (rIndex K):=by
 subst A;intro t s N H x vs v us Q I J G h;obtain⟨p,ys,y,rfl,rfl,B,D,q⟩:=h;cases J;obtain⟨u,rfl,E⟩:=G.one;obtain⟨a,r,pl,hz⟩:=I.list B;obtain⟨⟨cls,z,data,L⟩,o,hc,n,l⟩:=id pl.isList;simp only at hc l;subst hc l;have fs:(ys.map V.str).all qaB=true:=by rw[kZ];show Yw.mpr fun _ _=>rfl
 have b:(ys.map V.str).length=a.length:=r.length;rw[ya] at b;have d:ys.idxOf y<ys.length:=List.idxOf_lt_length_iff.mpr D
 have at_:∀(m:Nat) (i:m<ys.length) (c:m<a.toArray.size),eqU (.str y) a.toArray[m]=decide (ys[m]=y):=fun m i c=>by
  have g:(ys.map V.str)[m]?=some (.str ys[m]):=by rw[yd,yb i];rfl
  obtain⟨w,hw,j⟩:=r.get g
  have e:a.toArray[m]=w:=by
   have:a.toArray[m]?=some w:=by simpa using hw
   rw[xK c] at this;show ym this
  rw[e,qeK j rfl,eqV_strD]
 have M:ys.length<=sizeLine:=by rw[ya] at hz;show hz
 have C:sizeLine<2 ^ 63-1:=by decide
 show X9 Xg ⟨_,o,rfl⟩ PySem.F.entry_list_index (PySem.F.args_list_index_2 _ _)
  (SeqAt.list_indexAt p a.toArray n z L u (eqU (.str y)) (ys.idxOf y) (by simpa [<- b] using d) (by lk) ?_ ?_) ⟨o,fun w hw=>qaq E rfl r fs w (by simpa using hw),.int _,H,I.tok _,⟨_,rfl⟩,q⟩
 .rw [at_ _ d];show yD (YN d)
 .intro m i f;rw[at_ m (by lk)];show yl fun e=>qc4 ys y m (by lk) f e
end
theorem qaX(xs:List V)(k:Nat):qcQ xs none (some (k:Int))=xs.take k:=by
 unfold qcQ;rw[HT.sIx_none,HT.sIx_nat,List.drop_zero,Kj];by_cases h:k<=xs.length
 .rw [Kb h]
 .rw [kR (by lk),YQ (yh _),YQ (by lk)]
theorem qbR(xs:List V)(k:Nat):qcQ xs (some (k:Int)) none=xs.drop k:=by
 unfold qcQ;rw[HT.sIx_none,HT.sIx_nat];by_cases h:k<=xs.length
 .rw [Kb h,YQ (by rw[X8];lk)]
 .rw [kR (by lk),List.drop_length,List.drop_of_length_le (by lk)];simp
section
variable{X:Cx}{K:yg}
theorem qd2:∀{ns:LX} {us:List Value},Vals (ns.map V.int) us->IntsAre us ns
 | [],_,.nil=>.nil
 | n::ns,_,.cons r t=>by
  obtain⟨tk,rfl⟩:=r;show .cons n tk (qd2 t)
def rSum(K:yg):List V->Hp->VK->Prop:=fun xs H Q=>∃(p:Addr) (ns:LX),xs=[.ref p]/\SqL K H p (ns.map V.int)/\Q (.int ns.sum) H
theorem k_sum(i:X.K=K)(hc:X.calm=true):zU X (.builtin "sum") (rSum K):=by
 subst i;intro e s o H xs us Q I r h;obtain⟨p,ns,rfl,l,q⟩:=h;obtain⟨u,rfl,m⟩:=qbH r;cases m;obtain⟨b,n,pl,hz⟩:=I.list l;have c:=qd2 n;obtain⟨xs,d⟩:=c.allInts.items;have a:s.heap.IsList p (intItems xs):=d ▸ pl.isList;show sum_intListG (I.ok.hd hc) a fun h' tk t' j=>?_
 have f:ns=xs.toList.map (·.1):=by
  rw[<- nums_intItems,<- d];show(show numsOf b.toArray.toList=ns from c.numsOf).symm
 have g:preSum (numAt xs) xs.size=ns.sum:=by
  rw[preSum_eq,YQ (by simp),f]
 rw[g];show⟨.int _,H,I.kept j,⟨_,rfl⟩,q⟩
theorem boot_sum:bootBuiltins "sum"=some (.builtin "sum"):=by room
end
end L2
namespace HT
open PySem PySem.Spec PyProof.Rows
section
variable{prog:Program}{w:World}{A:Around}{E:Value->Shared->Prop}{s:Shared}
end
end HT
namespace L2
open PySem PySem.Spec PyProof.Rows
def tStep(K:yg)(e:TE)(f:TO):TE:=fun c H Q=>e c H fun x d=>f c d fun o b=>∃ a y z,x=.ref a/\SqT K b a [y,z]/\((o=some (-1)/\∀ p,b p=none->Q (.ref p) (upd b p (.tup [z,y])))\/(o=some 1/\Q (.ref a) b))
theorem vStep{K:yg}{d:TE}{e:TO}{c:St}{H:Hp}{Q:VK}(h:d c H fun x f=>e c f fun o b=>∃ a y z,x=.ref a/\SqT K b a [y,z]/\((o=some (-1)/\∀ p,b p=none->Q (.ref p) (upd b p (.tup [z,y])))\/(o=some 1/\Q (.ref a) b))):tStep K d e c H Q:=h
section
variable{X:Cx}{K:yg}{e st:Expr}{te:TE}{ts:TO}{p2 pos:Pos}
end
def FG(K:yg)(a:Str)(st:Stmt):Prop:=∃ f b,PySem.W.nsIn K mainGlobals a=some (some (.ref f))/\Fun K a a st f b
def FM(K:yg)(C:Addr)(m b:Str)(st:Stmt):Prop:=∃ f a,PySem.W.findIn K (.ref C) m=some (some (.ref f))/\PySem.W.isFn K (.ref f)=true/\Fun K m b st f a
structure XQ(K:yg)(C:Addr):Prop where
 xa:PySem.W.findIn K (.ref C) "__getattribute__"=some (some (.builtin "BaseException.__getattribute__"))
 xb:PySem.W.findIn K (.ref C) "__getattr__"=some none
 xd:PySem.W.mroIn K C (.type "BaseException")=some true
 xe:PySem.W.mroIn K C (.type "object")=some true
 xf:PySem.W.hasDictIn K C=true
 xg:PySem.W.findIn K (.ref C) "__class__"=some (some (.builtin "object.__class__"))
 xh:PySem.W.findIn K (.ref C) "__setattr__"=some (some (.builtin "object.__setattr__"))
 p:PySem.W.keepIn K (.ref C)=true
section
variable{P:Program}{w:World}{K:yg}{mg:Str->Option Value}{base h:Heap}{CX:CXT}{k:Nat}{sp:Sp}{st:Stmt}{f:Addr}{fd:FuncData}{ps:LS}{nm m ql x:Str}{C:Addr}
theorem lN0{P:List Value->Prop}(h:P []):∀ us:List Value,us.length=0->P us:=fun us e=>by rw[List.eq_nil_of_length_eq_zero e];show h
theorem lNs{P:List Value->Prop}{n:Nat}(h:∀ a r,r.length=n->P (a::r)):∀ us:List Value,us.length=n+1->P us:=fun us e=>by
 cases us with
 |nil=>cases e
 |cons a r=>show h a r (Nat.succ.inj e)
theorem lN1{P:List Value->Prop}(h:∀ a,P [a]):∀ us:List Value,us.length=1->P us:=lNs fun a=>lN0 (h a)
theorem lN2{P:List Value->Prop}(h:∀ a b,P [a,b]):∀ us:List Value,us.length=2->P us:=lNs fun a=>lN1 (h a)
theorem lN3{P:List Value->Prop}(h:∀ a b c,P [a,b,c]):∀ us:List Value,us.length=3->P us:=lNs fun a=>lN2 (h a)
theorem lN4{P:List Value->Prop}(h:∀ a b c d,P [a,b,c,d]):∀ us:List Value,us.length=4->P us:=lNs fun a=>lN3 (h a)
abbrev BA(x ql:Str)(st:Stmt)(ps:LS):Prop:=∀(kV b d:Value) (c:Option Addr) (a ct:Value) (us:List Value),us.length=ps.length->bindArgs (PySem.W.fnOf x ql (qaG st) (qai st) (qg st) .none kV b d c a ct) ⟨us,[]⟩=pure (ps.zip us)
theorem fg_mk(X:K.In h)(G:h.Ns mainGlobals mg)(a:PySem.W.nsIn K mainGlobals nm=some (some (.ref f)))(F:Fun K nm nm st f fd)(o:FnOk P w K mg base CX k f fd ps sp)
  (b:BA nm nm st ps:=by first | (show fun _ _ _ _ _ _=>lN1 fun _=>rfl) | (show fun _ _ _ _ _ _=>lN2 fun _ _=>rfl) | (show fun _ _ _ _ _ _=>lN3 fun _ _ _=>rfl) | (show fun _ _ _ _ _ _=>lN4 fun _ _ _ _=>rfl)) :
  DefOk P w K mg base CX k nm ps sp:=⟨_,_,o,PySem.W.mg_of X G a,F.kp,F.binds b⟩
theorem fm_mk(b:Cls K C)(a:PySem.W.findIn K (.ref C) m=some (some (.ref f)))(n:PySem.W.isFn K (.ref f)=true)(F:Fun K m ql st f fd)(o:FnOk P w K mg base CX k f fd ps sp)
  (c:BA m ql st ps:=by first | (show fun _ _ _ _ _ _=>lN1 fun _=>rfl) | (show fun _ _ _ _ _ _=>lN2 fun _ _=>rfl) | (show fun _ _ _ _ _ _=>lN3 fun _ _ _=>rfl) | (show fun _ _ _ _ _ _=>lN4 fun _ _ _ _=>rfl)) :
  MethOk P w K mg base CX k C m ps sp:=⟨⟨_,_,o,⟨a,n,F.kp⟩,F.binds c⟩,b⟩
theorem fw_mk(X:K.In h)(G:h.Ns mainGlobals mg)(c:PySem.W.nsIn K mainGlobals x=some (some (.ref C)))(d:PySem.W.makesIn K C=true)(e:PySem.W.keepIn K (.ref C)=true)(a:PySem.W.findIn K (.ref C) "__init__"=some (some (.ref f)))(n:PySem.W.isFn K (.ref f)=true)(F:Fun K "__init__" ql st f fd)(o:FnOk P w K mg base CX k f fd ps sp)
  (b:BA "__init__" ql st ps:=by first | (show fun _ _ _ _ _ _=>lN1 fun _=>rfl) | (show fun _ _ _ _ _ _=>lN2 fun _ _=>rfl) | (show fun _ _ _ _ _ _=>lN3 fun _ _ _=>rfl)) :
  MakeOk P w K mg base CX k C x ps sp:=⟨⟨_,_,o,⟨d,a,n,e⟩,F.binds b⟩,PySem.W.mg_of X G c⟩
end
end L2
namespace HT
open PySem PySem.Spec PyProof.Rows
section
variable{prog:Program}{w:World}{A:Around}{E:Value->Shared->Prop}{s:Shared}
end
end HT
namespace L2
open PySem PySem.Spec PyProof.Rows
variable{H:Hp}{R:It->Hp->Prop}{es:List Expr}{pos:Pos}{te:TE}{σ:St}
section
variable{X:Cx}{K:yg}{pos p:Pos}{x:Str}
end
section
variable{X:Cx}{K:yg}{e lo st:Expr}{te:TE}{tl ts:TO}{p2 pos:Pos}
def qhk(K:yg)(te:TE):TI:=fun σ H R=>te σ H fun v b=>∃ a xs,v=.ref a/\SqL K b a xs/\R (Itl K a) b
theorem qfu{K:yg}(h:te σ H fun v b=>∃ a xs,v=.ref a/\SqL K b a xs/\R (Itl K a) b):qhk K te σ H R:=h
theorem qd3{u:Expr}(j:X.K=K)(m:PE X e te):PI X u e (qhk K te):=by
 subst j;intro c s σ H R I h;show thn (m c s σ H _ I h) fun v d ⟨y,g,f,t,a,xs,i,n,q⟩=>?_;subst i;cases t
 have fp:∀ b∈[d.heap.objs.size],qdo X c g b:=fun b l=>by
  have e:b=d.heap.objs.size:=by simpa using l
  subst e;show f.fpOk (yh _) (f.hok.fresh (yh _))
 obtain⟨r,w,p,hz⟩:=f.list n;show X2 p.isList ⟨d.heap.objs.size,[d.heap.objs.size],_,_,g,rfl,f.kept (t':=d.toks) fun b o e=>yw _ e,qcI a _,⟨_,yZ _ rfl,rfl,rfl⟩,fp,q⟩
end
def Itz(K:yg)(a b:Addr):It:=
 ⟨fun i H=>∃ xs ys x y,SqL K H a xs/\SqL K H b ys/\xs[i]?=some x/\ys[i]?=some y,fun i H v H'=>∃ t x y,v=.ref t/\H t=none/\H'=upd H t (.tup [x,y])/\(∀ xs,SqL K H a xs->xs[i]?=some x)/\∀ ys,SqL K H b ys->ys[i]?=some y,fun i H=>∃ xs ys,SqL K H a xs/\SqL K H b ys/\(xs.length<=i\/ys.length<=i)⟩
def tnZ(z TI TO c d a b:Addr)(i:Nat)(h:Heap):Prop:=IsZip h z TI TO .none/\IsPair h TI (.ref c) (.ref d)/\(∃ u v,IsPair h TO u v)/\h.IsListIter c a i/\h.IsListIter d b i
theorem turn_zip{P:Program}{w:World}{K:yg}{x1}(a b z TI TO n q:Addr)(D:ZipApart z TI TO n q a b):Turn P w K (.Tuple es x1 pos) (Itz K a b) [z,TI,TO,n,q] z (tnZ z TI TO n q a b) where
 mem:=by simp
 obj:=fun i h st c hc=>by
  obtain⟨hz,d,⟨u,v,g⟩,⟨o1,e1,c1,d1⟩,⟨o2,e2,c2,d2⟩⟩:=st;simp only[yx,Yb,YH] at hc;rcases hc with rfl | rfl | rfl | rfl | rfl
  .show⟨_,hz,fun v z=>by have F:Data.fields _=Data.cell v:=z;cases F⟩
  .show⟨_,d,fun v z=>by have F:Data.seq _ _=Data.cell v:=z;cases F⟩
  .show⟨_,g,fun v z=>by have F:Data.seq _ _=Data.cell v:=z;cases F⟩
  .show⟨o1,e1,fun v z=>by rw[d1] at z;cases z⟩
  .show⟨o2,e2,fun v z=>by rw[d2] at z;cases z⟩
 keep:=fun i h h' st k=>by
  obtain⟨hz,d,⟨u,v,g⟩,h1,t⟩:=st;show⟨k z (by simp) _ hz,k TI (by simp) _ d,⟨u,v,k TO (by simp) _ g⟩,h1.at fun o x=>k n (by simp) o x,t.at fun o x=>k q (by simp) o x⟩
 item:=by
  intro X S hw R hc i l s σ H E I T st U;subst S hw R;obtain⟨hz,d,⟨u,v,g⟩,h1,t⟩:=st;obtain⟨xs,ys,x,y,J,m,hx,hy⟩:=U;obtain⟨ad,rv,p,_⟩:=I.list J;obtain⟨C,r,p2,_⟩:=I.list m;obtain⟨L,W,ag⟩:=rv.get hx;obtain⟨M,Y,ah⟩:=r.get hy;show wpAny_pyNext_zip_item D hz d g h1 t p.isList p2.isList (x:=L) (y:=M) (by simpa using W) (by simpa using Y) fun h' ab A N O hT hsz G=>?_;show⟨_,rfl,wpAny_letOwnedTupleGo_zip ab fun h3 ac j=>?_⟩;have fre:H s.heap.objs.size=none:=I.hok.fresh (yh _);have lt:∀{c o},s.heap.get? c=some o->s.heap.objs.size≠c:=fun e=>Yj (yN e);have nz:=lt hz;have ae:=lt d;have af:=lt g;have n1:s.heap.objs.size≠n:=by obtain⟨_,e,_⟩:=h1;show lt e
  have n2:s.heap.objs.size≠q:=by obtain⟨_,e,_⟩:=t;show lt e
  have I1:Inv X l σ (upd H s.heap.objs.size (.tup [x,y])) { s with heap:=s.heap.push { cls:=.type "tuple",data:=.seq #[L,M] },toks:=s.toks }:=
   I.laid (fun b u e=>yw _ e) (yh _) ⟨wqqb,[L,M],.cons ag (.cons ah .nil),⟨_,yZ _ rfl,rfl,_,rfl⟩⟩
  have B:∀ c∈[z,TI,TO,n,q],qdo X l (upd H s.heap.objs.size (.tup [x,y])) c:=fun c hc=>by
   obtain⟨f0,f⟩:=T c hc;show⟨?_,f⟩;rw[qf]
   .show f0
   .simp only[yx,Yb,YH] at hc;rcases hc with rfl | rfl | rfl | rfl | rfl
    .show nz.symm
    .show ae.symm
    .show af.symm
    .show n1.symm
    .show n2.symm
  have kk:∀ c o,c∉[z,TI,TO,n,q]->(s.heap.push { cls:=.type "tuple",data:=.seq #[L,M] }).get? c=some o->h3.get? c=some o:=fun c o hc e=>by
   simp only[yx,Yb,YH,not_or] at hc;show j.extBut _ _ hc.1 ?_;by_cases hz:c=s.heap.objs.size
   .subst hz;rw[yZ _ rfl] at e;cases e;show hT
   .show G c o hc.1 hc.2.2.1 hc.2.2.2.1 hc.2.2.2.2 (qc3 e hz)
  have I2:=I1.turnedL (h':=h3) (t':=s.toks) (fp:=[z,TI,TO,n,q]) kk B;show⟨.ref s.heap.objs.size,_,I2,rfl,⟨_,x,y,rfl,fre,rfl,fun ai Z=>by rw[I.list_inj Z J];show hx,fun ys' aa=>by rw[I.list_inj aa m];show hy⟩,⟨ac,?_,⟨_,_,j.extBut _ _ D.TOz A⟩,N.extBut j.extBut D.i1z,O.extBut j.extBut D.i2z⟩,fun c hc=>(B c hc).1⟩;show j.extBut _ _ D.TIz (G _ _ D.TIz D.TITO D.TIi1 D.TIi2 d)
 done:=by
  intro X S hw R hc i l s σ H E I T st U;subst S hw R;obtain⟨hz,d,⟨u,v,g⟩,h1,t⟩:=st;obtain⟨xs,ys,J,m,he⟩:=U;obtain⟨ad,rv,p,_⟩:=I.list J;obtain⟨C,r,p2,_⟩:=I.list m;have l1:=rv.length;have l2:=r.length;show wpAny_pyNext_zip_end (I.ok.hd hc) D hz d g h1 t p.isList p2.isList (he.imp (fun e=>xz (by simp;lk)) fun e=>xz (by simp;lk)) fun h' G=>⟨rfl,I.turnedL (t':=s.toks) (fp:=[z,TI,TO,n,q]) (fun c o hc e=>?_) T⟩;simp only[yx,Yb,YH,not_or] at hc;show G c o hc.1 hc.2.2.1 hc.2.2.2.1 hc.2.2.2.2 e
 self:=fun _ _ _ _ _ st h=>kS st.1 h
theorem qd4:bootBuiltins "zip"=some (.type "zip"):=by room
def qhl(K:yg)(d:TA):TI:=fun σ H R=>d σ H fun vs c=>∃ a b xs ys,vs=[.ref a,.ref b]/\SqL K c a xs/\SqL K c b ys/\R (Itz K a b) c
theorem vZip{K:yg}{c:TA}(h:c σ H fun vs d=>∃ a b xs ys,vs=[.ref a,.ref b]/\SqL K d a xs/\SqL K d b ys/\R (Itz K a b) d):qhl K c σ H R:=h
theorem pi_zip{X:Cx}{K:yg}{a b:Expr}{x:TA}{x1}{N p:Pos}(z:X.K=K)(B:Gl X "zip")(D:X.mg "zip"=none)(A:PA X [a,b] x)(F:starEach [a,b] X.env=[(false,eval a X.env),(false,eval b X.env)]:=by rfl)(g:starEach [b] X.env=[(false,eval b X.env)]:=by rfl):PI X (.Tuple es x1 N) (.Call (.Name "zip" p) [a,b] [] pos) (qhl K x):=by
 subst z;intro i s σ H R I h;show Call_ (qaM I B D qd4 (YD (thn (A pos i s σ H _ I h) fun us f ⟨vs,y,d,L,J⟩=>?_) (by rw[F,g]) (by rw[g];rfl)));obtain⟨a,b,xs,ys,e,E,t,q⟩:=J;subst e
 cases L with
 | cons r rr =>
  cases rr with
  | cons r2 rr =>
   cases rr;cases r;cases r2;obtain⟨G,O,pl,_⟩:=d.list E;obtain⟨w,M,j,_⟩:=d.list t;have u:a<f.heap.objs.size:=by obtain⟨_,e,_⟩:=pl.isList;show yN e
   have v:b<f.heap.objs.size:=by obtain⟨_,e,_⟩:=j.isList;show yN e
   show call_zip_2 pl.isList j.isList fun h' hz l m n o hsz C=>kS hz ?_;show⟨_,[f.heap.objs.size+4,f.heap.objs.size+2,f.heap.objs.size+3,f.heap.objs.size,f.heap.objs.size+1],_,_,y,rfl,d.kept (t':=f.toks) C,turn_zip a b _ _ _ _ _ (PySem.W.ktu_apart _ _ _ u v),⟨hz,l,⟨_,_,m⟩,n,o⟩,fun c hc=>?_,q⟩;simp only[yx,Yb,YH] at hc;rcases hc with rfl | rfl | rfl | rfl | rfl
   .show d.fpOk (Xh _ _) (d.hok.fresh (Xh _ _))
   .show d.fpOk (Xh _ _) (d.hok.fresh (Xh _ _))
   .show d.fpOk (Xh _ _) (d.hok.fresh (Xh _ _))
   .show d.fpOk (yh _) (d.hok.fresh (yh _))
   .show d.fpOk (xS _) (d.hok.fresh (xS _))
def qhm(K:yg)(te:TE)(d:TO):TE:=fun σ H Q=>te σ H fun x c=>d σ c fun o b=>o=some (-1)/\∃ a xs,x=.ref a/\SqL K b a xs/\∀ p,b p=none->Q (.ref p) (upd b p (.lst xs.reverse))
theorem qhn{K:yg}{c:TO}{Q:VK}(h:te σ H fun x d=>c σ d fun o b=>o=some (-1)/\∃ a xs,x=.ref a/\SqL K b a xs/\∀ p,b p=none->Q (.ref p) (upd b p (.lst xs.reverse))):qhm K te c σ H Q:=h
theorem qd5:∀{xs:List V} {us:List Value},Vals xs us->Vals xs.reverse us.reverse
 | _,_,.nil=>.nil
 | _,_,.cons r t=>by
  rw[List.reverse_cons,List.reverse_cons];show(qd5 t).append (.cons r .nil)
section
variable{X:Cx}{K:yg}{e st:Expr}{te:TE}{ts:TO}{p2 pos:Pos}
theorem qfJ(u:X.K=K)(y:PE X e te)(z:PO X (some st) ts):PE X (.Subscript e (.Slice none none (some st) p2) pos) (qhm K te ts):=by
 subst u;intro c s σ H Q I h;show Subscript_ (thn (y c s σ H _ I h) fun v G ⟨x,l,n,F,E⟩=>?_);show wpAny_Slice ?_;rw[evalPart_none];show yv ?_;show yv ?_;show thn (z c G σ l _ n E) fun j d ⟨o,m,p,pt,t,a,xs,ex,B,q⟩=>?_;subst t ex;cases F;have f:Inv X c σ m { d with heap:=d.heap.push { cls:=.type "slice",data:=.fields #[.none,.none,j] } }:=p.kept (t':=d.toks) fun b D q=>yw _ q;obtain⟨C,r,i,hz⟩:=f.list B;have g:=r.length;show wpAny (model X.prog X.w) X.A (subscriptTail e (.Slice none none (some st) p2) (.ref a) (.ref d.heap.objs.size)) (EP X c σ Q) X.xe { d with heap:=d.heap.push { cls:=.type "slice",data:=.fields #[.none,.none,j] } };show tail_any (ops:=[.ref a,.ref d.heap.objs.size]) i.isList.typeIs kH.lookup (wpAny_getItem_list_slice i.isList (Heap.IsSliceOf.new ..) .none .none pt (by decide) ?_ (by rw[yz]<;>lk)) (by with_unfolding_all rfl);rw[PySem.W.krv_pick];show⟨.ref _,_,f.laid (t':=d.toks) (o:=.lst xs.reverse) (fun b D q=>yw _ q) (yh _) ?_,rfl,q _ (f.hok.fresh (yh _))⟩;show⟨by rw[YF];show hz,_,0,qd5 r,yZ _ rfl⟩
end
section
variable{X:Cx}{a:Expr}{ta:TA}{p p2 pos pos2:Pos}
end
end L2
namespace L2
structure Sb(V:Nat->Prop):Prop where
 z:V 0
 a:∀ x y,V x->V y->V (x ^^^ y)
def jn(V:Nat->Prop)(x:Nat):Nat->Prop:=fun y=>V y\/V (y ^^^ x)
def Spn:LN->Nat->Prop
 | []=>fun y=>y=0
 | a::L=>jn (Spn L) a
open Classical in
def Bnd(b n v:Nat):Prop:=∀ i,v.testBit i=true->b<=i/\i<b+n
open Classical in
def swp:Nat->Nat->LN->Nat
 | 0,_,_=>0
 | n+1,b,L=>match L.filter (fun v=>v.testBit b) with
  | []=>swp n (b+1) L
  | p::t=>1+swp n (b+1) (L.filter (fun v=>!v.testBit b)++t.map fun v=>v ^^^ p)
open Classical in
def rk(L:LN):Nat:=swp 30 0 L
open Classical in
def les:Nat×Nat->List (Nat×Nat)->Nat×Nat
 | s,[]=>s
 | s,o::os=>if s.1 ^^^ o.1<s.1 then les (s.1 ^^^ o.1,s.2 ^^^ o.2) os else les s os
structure Ech(os:List (Nat×Nat)):Prop where
 nz:∀ o∈os,o.1≠0
 pw:os.Pairwise fun a b=>b.1.testBit a.1.log2=false
def csm:LN->Nat->Nat->Nat
 | [],_,_=>0
 | a::L,k,c=>(if c.testBit k then a else 0) ^^^ csm L (k+1) c
def stp(st:List (Nat×Nat))(n v:Nat):List (Nat×Nat):=if (les (v,1 <<< n) st).1=0 then st else st++[les (v,1 <<< n) st]
structure Stp(L:LN)(n:Nat)(st:List (Nat×Nat)):Prop where
 ech:Ech st
 sum:∀ o∈st,csm L 0 o.2=o.1
 low:∀ o∈st,o.2<2 ^ n
 lt:∀ o∈st,o.1<2 ^ 30
 spn:∀ v,Spn (st.map (·.1)) v↔Spn (L.take n) v
 free:st.map (fun o=>o.2.log2)=(List.range n).filter fun i=>decide (rk (L.take i)<rk (L.take (i+1)))
 len:st.length<=n
end L2
namespace L2
open PySem PySem.Spec PyProof.Rows
variable{i j n:Nat}
section
variable{X:Cx}
end
def Fl:V->Prop
 | .non=>True
 | .bl _=>True
 | .int i=>-999999999999<=i/\i<=999999999999
 | _=>False
def fD:V->PyData
 | .non=>.none
 | .bl b=>.bool b
 | .int i=>.int i
 | .str x=>.str x
 | _=>.none
def FlS(xs:List V):Prop:=xs.length<=1000/\∀ x∈xs,Fl x
def ShwT(H:Hp)(v:V)(t:Str):Prop:=match v with
 | .non=>t="None"
 | .bl b=>t=if b then Str.ofString "True" else Str.ofString "False"
 | .int i=>i.natAbs.log2<1920/\t=toString i
 | .str x=>(reprText x).length<=sizeLine/\t=reprText x
 | .ref p=>(∃ xs,H p=some (.lst xs)/\FlS xs/\t=(PyData.list (xs.map fD)).shown)\/∃ xs,H p=some (.tup xs)/\FlS xs/\t=(PyData.tuple (xs.map fD)).shown
 | _=>False
section
variable{X:Cx}{K:yg}
end
theorem gk_two{b:Nat}{K:yg}(o:i<b:=by decide)(p:j<b:=by decide):qep b (qg8 K n (qfX (qb2 i) (qfX (qb2 j) qg7))):=by
 intro x t H Q ⟨a,xs,e,h,g,v,r,c,m,l,d,q⟩;obtain⟨f,q⟩:=q;show⟨a,xs,e,h,g,v,r,c,m,l,d,f,q,?_,fun k s=>?_⟩
 .rw [xM,xM]
 .rw [xQ (by lk),xQ (by lk)]
section
variable{K:yg}{a:Addr}{xs:List V}{g:TG}{tc:TT}{te:TE}{σ':St}{H1:Hp}{Q:V->Hp->Prop}
end
theorem bit_nat(m j:Nat):decide (Builtin.bitAnd ((m:Int) / 2 ^ (j:Int).toNat) 1=1)=m.testBit j:=by
 rw[X3,Nat.testBit_eq_decide_div_mod_eq];rw[y0]
 have e:((m:Int) / 2 ^ j) % 2=((m / 2 ^ j % 2:Nat):Int):=by
  rw[Int.natCast_emod,Int.natCast_ediv,xO];rfl
 rw[e];by_cases h:m / 2 ^ j % 2=1
 .rw [h];rfl
 .rw [yl h,yl (by lk)]
theorem bit0_nat(m j:Nat):decide (Builtin.bitAnd ((m:Int) / 2 ^ (j:Int).toNat) 1=0)=!m.testBit j:=by
 rw[<- bit_nat m j,X3];have h:((m:Int) / 2 ^ (j:Int).toNat) % 2=0\/((m:Int) / 2 ^ (j:Int).toNat) % 2=1:=by lk
 rcases h with h | h<;>rw[h]<;>rfl
section
variable{K:yg}{a b:Addr}{xs ys:List V}{g:TG}{tc:TT}{te:TE}{σ':St}{H1:Hp}{Q:V->Hp->Prop}
theorem comp_zip(E:ys.length<=xs.length)(d:Nat->List V->Hp->Prop)(s:d 0 [] H1)(hl:∀ i c H,i<=ys.length->d i c H->SqL K H a xs/\SqL K H b ys)
  (A:∀ i x y t c H,xs[i]?=some x->ys[i]?=some y->H t=none->d i c H->g (.ref t) σ' (upd H t (.tup [x,y])) fun h o=>tc h o fun b n=>if b=true then te h n fun v r=>c.length<sizeLine/\d (i+1) (c++[v]) r else d (i+1) c n)
  (w:∀ c H,d ys.length c H->c.length<=sizeLine/\∀ p,H p=none->Q (.ref p) (upd H p (.lst c))):qeP (Itz K a b) g tc te σ' H1 Q:=by
 show⟨fun i m c H=>m=ys.length-i/\i<=ys.length/\d i c H,⟨ys.length,by simp,YS _,s⟩,?_⟩;rintro i m c H ⟨rfl,z,p⟩;obtain⟨q,l⟩:=hl i c H z p;by_cases f:i<ys.length
 .have j:i<xs.length:=by lk
  show .inr ⟨⟨xs,ys,xs[i],ys[i],q,l,by simp[j],by simp[f]⟩,d (i+1),fun ys' H' C=>⟨ys.length-(i+1),by lk,rfl,f,C⟩,fun x H' y=>?_⟩;obtain⟨t,v,u,rfl,B,rfl,y,D⟩:=y;show A i v u t c _ (y xs q) (D ys l) B p
 .have e:i=ys.length:=by lk
  subst e;show .inl ⟨⟨xs,ys,q,l,.inr (yh _)⟩,w c H p⟩
end
section
variable{X:Cx}{K:yg}
end
section
variable{X:Cx}{K:yg}{e st:Expr}{te:TE}{ts:TO}{p2 pos:Pos}
end
mutual
inductive Dat(H:Hp):V->PyData->Prop
 | non:Dat H .non .none
 | bl (b:Bool):Dat H (.bl b) (.bool b)
 | int (i:Int):Dat H (.int i) (.int i)
 | str (x:Str):Dat H (.str x) (.str x)
 | lst {a:Addr} {xs:List V} {ds:List PyData}:H a=some (.lst xs)->DatS H xs ds->Dat H (.ref a) (.list ds)
 | tup {a:Addr} {xs:List V} {ds:List PyData}:H a=some (.tup xs)->DatS H xs ds->Dat H (.ref a) (.tuple ds)
 | dnil {a:Addr}:H a=some (.dK [])->Dat H (.ref a) (.dict [])
inductive DatS(H:Hp):List V->List PyData->Prop
 | nil:DatS H [] []
 | cons {v:V} {vs:List V} {d:PyData} {ds:List PyData}:Dat H v d->DatS H vs ds->DatS H (v::vs) (d::ds)
end
structure Shw(d:PyData)(n m:Nat):Prop where
 s:d.showable=true
 l:d.leavesShort 13=true
 b:d.bulk<=n
 p:d.depth<=m
structure ShwS(ds:List PyData)(n m:Nat):Prop where
 s:PyData.showableAll ds=true
 l:PyData.leavesShortAll 13 ds=true
 b:PyData.bulkAll ds<=n
 p:PyData.depthAll ds<=m
section
variable{X:Cx}{K:yg}{pins:List (Addr×Obj)}{σ:List (Option V)}{H:Hp}{s:Shared}
end
theorem qd6{f:Str×NameKind->Str×NameKind}(b:∀ y,(f y).1=y.1)(c:∀ y,(f y).2=y.2\/(f y).2=.cell):∀{ns:List (Str×NameKind)} {x:Str},(ns.lookup x=some .cell\/ns.lookup x=some .free)->((ns.map f).lookup x=some .cell\/(ns.map f).lookup x=some .free)
 | [],x,h=>by simp at h
 | y::r,x,h=>by
  have e:((y::r).map f)=((f y).1,(f y).2)::r.map f:=rfl;have d:y::r=(y.1,y.2)::r:=rfl;rw[d,xi] at h;rw[e,xi,b y]
  cases a:x==y.1 with
  | false=>rw[a] at h;show qd6 b c h
  | true =>
   rw[a] at h;rcases c y with z | z
   .rw [z];show h
   .rw [z];show .inl rfl
theorem compB_re{sc scope:Scope}{env:Env}(h:qcX sc scope=true):qcX (relabel sc env) scope=true:=by
 unfold qcX at h ⊢;rw[yY] at h ⊢;show⟨h.1,Yw.mpr fun y b=>?_⟩;have:=Yw.mp h.2 y b
 cases a:y.2 with
 | free =>
  rw[a] at this;simp only[yY,YJ,Yy] at this ⊢;show⟨?_,this.2⟩;show qd6 (fun y=>by dsimp only;split<;>rfl) (fun y=>by dsimp only;split<;>simp) this.1
 | _=>rw[a] at this;first | done | show this | cases this
section
variable{X:Cx}{tg elt iter:Expr}{ifs:List Expr}{scope sc1:Scope}{pos:Pos}{N N1:LS}{nl:Nat}{ixs:LN}{wi:TI}{g:TG}{tc:TT}{te:TE}{C1:Addr}{s1:Shared}{H1:Hp}{ex1:LQ}
theorem pe_compIn(N:LS)(nl:Nat)(ixs:LN)(hc:X.calm=true)(d:qcX sc1 scope=true)(f:N.length=nl+ixs.length)(a:qgP nl ixs N N1 scope.names=true)
  (j:PI (X.comp N1 sc1 C1 s1 H1 ex1) tg iter wi) (i:∀ C c b ex,PG ((X.comp N1 sc1 C1 s1 H1 ex1).comp N scope C c b ex) tg g) (e:qep nl g) (m:∀ C c b ex,qgc ((X.comp N1 sc1 C1 s1 H1 ex1).comp N scope C c b ex) ifs tc) (h:∀ C c b ex,PE ((X.comp N1 sc1 C1 s1 H1 ex1).comp N scope C c b ex) elt te)
  (l:∀ x,foldedSetIterable iter (X.comp N1 sc1 C1 s1 H1 ex1).env x=pure x:=by intro _;rfl):PE (X.comp N1 sc1 C1 s1 H1 ex1) (.ListComp elt [⟨tg,iter,ifs,0⟩] scope pos) (qeO wi g tc te nl ixs):=
 q9 (sc:=relabel sc1 X.env) (XN:=N1) N nl ixs rfl rfl hc (compB_re d) f a j i e m h l
end
section
variable{X:Cx}{K:yg}
theorem qc5{e ty:TE}{b:St}{H:Hp}{Q:VK}(h:e b H fun x c=>∃ a,x=.ref a/\IsD c a/\ty b c fun y d=>∃ o,DGet d a y o/\Q (o.getD .non) d):qfC e ty b H Q:=h
def rIsNotB:R2:=fun x y H Q=>∃ i j,x=.bl i/\y=.bl j/\Q (.bl (i != j)) H
theorem op_isnot:OpR X (compareOp .IsNot) rIsNotB:=by
 intro a s d H x y v u Q I b c h;obtain⟨i,j,rfl,rfl,q⟩:=h;cases b;cases c;show isnot_bool ⟨.bl _,H,I,rfl,q⟩
end
abbrev Cx.soft(X:Cx):Cx:={ X with calm:=false }
structure RoomW(k:Nat)(A:Around):Prop where
 dp:A.depth+3*k+5<recursionLimit
 un:A.units+16*k+200<cLine
 gd:A.guards=some []
theorem RoomW.deeper{k:Nat}{A:Around}(r:RoomW (k+1) A)(env:Env):RoomW k (A.deeper env):=
 ⟨by have:=r.dp;show A.depth+1+3*k+5<_;lk,by have:=r.un;show A.units+3+16*k+200<_;lk,r.gd⟩
theorem Room.soft{j k:Nat}{A:Around}{h:Option Value}(r:Room k A)(l:j<=k):RoomW j (A.mark h):=⟨by have:=r.dp;show A.depth+3*j+5<_;lk,by have:=r.un;show A.units+16*j+200<_;lk,r.gd⟩
structure FnOkW(P:Program)(w:World)(K:yg)(mg:Str->Option Value)(base:Heap)(k:Nat)(f:Addr)(fd:FuncData)(ps:LS)(sp:Sp):Prop where
 len:∀ vs H Q E,sp vs H Q E->vs.length=ps.length
 run:∀(A:Around) (outer:List Env) (s:Shared) (H:Hp) (args:Args) (us:List Value) (vs:List V) (Q:VK) (E:XK),RoomW k A->Env0 P w K mg base A outer s H->BindsTo s fd args (ps.zip us)->Vals vs us->sp vs H Q E ->
  codeAny (model P w) A (.call (.ref f) args) (CR CX0 outer P w H s Q E) s
structure DefOkW(P:Program)(w:World)(K:yg)(mg:Str->Option Value)(base:Heap)(k:Nat)(x:Str)(ps:LS)(sp:Sp):Prop where
 ex:∃ f fd,FnOkW P w K mg base k f fd ps sp/\mg x=some (.ref f)/\PySem.W.keepIn K (.ref f)=true/\Binds K fd ps []
section
variable{X:Cx}{k:Nat}{f C:Addr}{fd:FuncData}{ps:LS}{sp:Sp}{x m:Str}{p pos apos:Pos}{e o:Expr}{es:List Expr}{ta:TE}{t:TA}
end
section
variable{P:Program}{w:World}{K:yg}{mg:Str->Option Value}{base:Heap}
end
theorem Inv.laidM{X:Cx}{a:List (Addr×Obj)}{g:St}{H H':Hp}{s:Shared}{h':Heap}{t':Nat}(I:Inv X a g H s)(k:∀ b u,s.heap.get? b=some u->h'.get? b=some u)
  (d:∀ b,b<s.heap.objs.size->H' b=H b) (new:∀ b u,s.heap.objs.size<=b->H' b=some u->ObjOk X.prog X.w H' h' b u):Inv X a g H' { s with heap:=h',toks:=t' }:=by
 have lt:∀ b u,H b=some u->b<s.heap.objs.size:=fun b u e=>kc fun z=>by rw[I.hok.fresh z] at e;cases e
 have up:∀ b u,H b=some u->H' b=some u:=fun b u e=>(d b (lt b u e)).trans e;show I.step (g':=s.gens) (d':=s.drawn) (ch:=[]) (fun b f=>by simp at f) (fun b o _ _ _ e _=>k b o e) (fun b o _ _ _ e _=>⟨o.slots,k b o e⟩) (fun b o _ e n=>(d b (yN e)).trans n)
  (fun b o _ e=>⟨o,k b o e⟩) (fun b xs e=>up b _ e) (fun b _ _ e=>up b _ e) (fun b ps e=>⟨#[],by rw[up b _ e];simp⟩) (fun m ⟨o,h,ep,i,r⟩=>⟨o,h,ep,k _ o i,r⟩) (fun b u e=>?_) I.bare
 by_cases f:s.heap.objs.size<=b
 .show new b u f e
 .rw [d b (kc f)] at e;show(I.hok b u e).stay (fun c v _ q=>k c v q) (fun c q=>up c _ q) fun c xs q=>up c _ q
section
variable{prog:Program}{w:World}{A:Around}{E:Value->Shared->Prop}{s:Shared}
theorem alive_{a:Addr}{Q:Option Obj->Shared->Prop}(h:Q (s.heap.get? a) s):wpAny (model prog w) A (loadIfAlive a) Q E s:=fun b p _=>by
 show Sem.wp _ _ (.loadIfAlive a .pure) _ _ _ _;rw[Sem.wp_loadIfAlive];simpa using h
abbrev qgf(h:Heap)(z TI TO:Addr)(b:Value)(a:Bool):Prop:=h.get? z=some { cls:=.type "zip",dict:=none,data:=.fields #[b,.bool a,.bool false,.ref TI,.ref TO],slots:=#[] }
theorem qgC{z TI TO T:Addr}{a:Bool}{f:Obj}{Q:Bool->Shared->Prop}(hz:qgf s.heap z TI TO (rawInt T) a)(d:s.heap.get? T=some f)
  (b:∀ h',qgf h' z TI TO (rawInt T) true->Heap.SameBut z s.heap h'->Q false { s with heap:=h' }):wpAny (model prog w) A (Builtin.SmallTypes.ownedTupleIsFree (.ref z)) Q E s:=by
 unfold Builtin.SmallTypes.ownedTupleIsFree;show yr (Xk hz rfl (x:=rawInt T) rfl ?_);show wpAny _ _ (loadIfAlive T>>=_) _ _ _;show yr (alive_ ?_);rw[d];show wpAny _ _ (field (.ref z) 1>>=_) _ _ _;show yr (Xk hz rfl (x:=.bool a) rfl ?_)
 cases a with
 | true=>show yv (b _ hz ⟨rfl,fun _ _=>rfl⟩)
 | false =>
  show wpAny _ _ (setField (.ref z) 1 (.bool true)>>=_) _ _ _;show yr (wpAny_setField_rec hz (by simp) fun h1 c e=>yv (b h1 c e))
theorem znx{z TI TO d f a b T:Addr}{F:Bool}{M:Obj}{r t:Nat}{xs ys:Array Value}{x y:Value}{Q:Value->Shared->Prop}(D:ZipApart z TI TO d f a b)
  (hz:qgf s.heap z TI TO (rawInt T) F) (I:s.heap.get? T=some M) (n:IsPair s.heap TI (.ref d) (.ref f))
  (h1:s.heap.IsListIter d a r) (G:s.heap.IsListIter f b t) (p:s.heap.IsList a xs) (q:s.heap.IsList b ys) (J:xs[r]?=some x) (K:ys[t]?=some y)
  (H:∀ h',qgf h' z TI TO (rawInt T) true->h'.IsListIter d a (r+1)->h'.IsListIter f b (t+1)->IsPair h' s.heap.objs.size x y->h'.objs.size=s.heap.objs.size+1 ->
   (∀ c o,c≠z->c≠d->c≠f->s.heap.get? c=some o->h'.get? c=some o)->Q (.ref s.heap.objs.size) { s with heap:=h' }) :
  wpAny (model prog w) A (Builtin.«zip.__next__» ⟨[.ref z],[]⟩) (fun l P=>∃ v,l=.done (.ret v)/\Q v P) E s:=by
 show wpAny _ _ (field (.ref z) 2>>=_) _ _ _;show yr <| Xk hz rfl (x:=.bool false) rfl ?_;show wpAny _ _ (field (.ref z) 3>>=_) _ _ _;show yr <| Xk hz rfl (x:=.ref TI) rfl ?_;show yr <| wpAny_seqItems n rfl ?_;show wpAny _ _ (Builtin.SmallTypes.ownedTupleIsFree _>>=_) _ _ _;show yr <| qgC hz I fun S R g=>?_;simp only[YX,Xw];show yr ?_;rw[<- Array.forIn_toList];simp only[Ka,Kg];show yr (yr (Yz ?_));show wpAny _ _ (Builtin.SmallTypes.nextOf (.ref d)>>=_) _ _ _;show yr <| X4 (h1.extBut g.extBut D.i1z) (p.extBut g.extBut D.l1z) J fun U N h=>yv (yv ?_);show yr (yr (Yz ?_));show wpAny _ _ (Builtin.SmallTypes.nextOf (.ref f)>>=_) _ _ _;show yr <| X4 ((G.extBut g.extBut D.i2z).extBut h.extBut D.i12.symm) ((q.extBut g.extBut D.l2z).extBut h.extBut D.l2i1) K fun m O i=>yv (yv (yv ?_));show yr (wpAny_newTuple (yv ⟨_,rfl,?_⟩) wqqb);have j:m.objs.size=s.heap.objs.size:=by rw[i.1,h.1,g.1]
 have L:∀ c o,c≠z->c≠d->c≠f->s.heap.get? c=some o->m.get? c=some o:=fun c o u B C e=>i.extBut _ _ C (h.extBut _ _ B (g.extBut _ _ u e));rw[show(Value.ref m.objs.size)=.ref s.heap.objs.size by rw[j]];show H _ (yw _ (i.extBut _ _ D.i2z.symm (h.extBut _ _ D.i1z.symm R))) ((N.extBut i.extBut D.i12).at fun o e=>yw _ e) (O.at fun o e=>yw _ e) ?_ (by rw[xF,j]) fun c o u B C e=>yw _ (L c o u B C e);rw[<- j];show yZ _ rfl
theorem zne{z TI TO h i a b T:Addr}{F:Bool}{L:Obj}{r t:Nat}{xs ys:Array Value}{Q:Fin->Shared->Prop}(C:A.handled=none)(D:ZipApart z TI TO h i a b)
  (hz:qgf s.heap z TI TO (rawInt T) F) (I:s.heap.get? T=some L) (l:IsPair s.heap TI (.ref h) (.ref i))
  (h1:s.heap.IsListIter h a r) (H:s.heap.IsListIter i b t) (g:s.heap.IsList a xs) (n:s.heap.IsList b ys) (f:xs[r]?=none\/ys[t]?=none)
  (B:∀ h' e,(∀ c o,c≠z->c≠h->c≠i->s.heap.get? c=some o->h'.get? c=some o)->(∃ o,h'.get? e=some o/\o.cls=.type "StopIteration")->E (.ref e) { s with heap:=h' }) :
  wpAny (model prog w) A (Builtin.«zip.__next__» ⟨[.ref z],[]⟩) Q E s:=by
 show wpAny _ _ (field (.ref z) 2>>=_) _ _ _;show yr <| Xk hz rfl (x:=.bool false) rfl ?_;show wpAny _ _ (field (.ref z) 3>>=_) _ _ _;show yr <| Xk hz rfl (x:=.ref TI) rfl ?_;show yr <| wpAny_seqItems l rfl ?_;show wpAny _ _ (Builtin.SmallTypes.ownedTupleIsFree _>>=_) _ _ _;show yr <| qgC hz I fun N P d=>?_;simp only[YX,Xw];show yr ?_;rw[<- Array.forIn_toList];simp only[Ka,Kg];show yr (yr (Yz ?_));show wpAny _ _ (Builtin.SmallTypes.nextOf (.ref h)>>=_) _ _ _
 cases p:xs[r]? with
 | none=>show yr <| wpAny_nextOf_list_end C (h1.extBut d.extBut D.i1z) (g.extBut d.extBut D.l1z) p fun y e j m=>B y e (fun c o u v _ q=>j _ _ v (d.extBut _ _ u q)) m
 | some x =>
  have J:ys[t]?=none:=f.elim (fun z=>by rw[p] at z;cases z) id;show yr <| X4 (h1.extBut d.extBut D.i1z) (g.extBut d.extBut D.l1z) p fun y O j=>yv (yv ?_);show yr (yr (Yz ?_));show wpAny _ _ (Builtin.SmallTypes.nextOf (.ref i)>>=_) _ _ _;show yr <| wpAny_nextOf_list_end C ((H.extBut d.extBut D.i2z).extBut j.extBut D.i12.symm) ((n.extBut d.extBut D.l2z).extBut j.extBut D.l2i1) J fun G e M m=>B G e (fun c o u v K q=>M _ _ K (j.extBut _ _ v (d.extBut _ _ u q))) m
def ZAt(z TI TO N:Nat)(h:Heap):Prop:=IsZip h z TI TO .none\/∃ T a o,N<=T/\qgf h z TI TO (rawInt (T:Nat)) a/\h.get? T=some o
theorem ZAt.typ{z TI TO N:Nat}(h:ZAt z TI TO N s.heap):s.TypeIs (.ref z) "zip":=by
 rcases h with e | ⟨_,_,_,_,e,_⟩<;>show⟨_,e,rfl⟩
theorem znx_any{z TI TO h i a b N:Addr}{G H:Nat}{xs ys:Array Value}{x y:Value}{Q:Option Value->Shared->Prop}(D:ZipApart z TI TO h i a b)(O:N<=s.heap.objs.size)
  (hz:ZAt z TI TO N s.heap) (l:IsPair s.heap TI (.ref h) (.ref i)) (d:∃ u v,IsPair s.heap TO u v)
  (h1:s.heap.IsListIter h a G) (I:s.heap.IsListIter i b H) (m:s.heap.IsList a xs) (n:s.heap.IsList b ys) (K:xs[G]?=some x) (L:ys[H]?=some y) (f:z<N/\h<N/\i<N)
  (J:∀ h',ZAt z TI TO N h'->(∃ u v,IsPair h' TO u v)->h'.IsListIter h a (G+1)->h'.IsListIter i b (H+1)->IsPair h' s.heap.objs.size x y->h'.objs.size=s.heap.objs.size+1 ->
   (∀ c o,c≠z->c≠TO->c≠h->c≠i->s.heap.get? c=some o->h'.get? c=some o)->Q (some (.ref s.heap.objs.size)) { s with heap:=h' }) :
  wpAny (model prog w) A (pyNext (.ref z)) Q E s:=by
 obtain⟨u,v,d⟩:=d;have typ:=hz.typ;rcases hz with hz | ⟨T,b1,o,hT,hz,ho⟩
 .show wpAny_pyNext_zip_item D hz l d h1 I m n K L fun g r M t B p C j=>J g (.inr ⟨s.heap.objs.size,false,_,O,r,p⟩) ⟨_,_,M⟩ t B p C j
 .unfold pyNext;show yr (kL (XX (name:=Str.ofString "__next__") typ kj (XE kj typ F.entry_zip_next (znx D hz ho l h1 I m n K L fun g r t B p C j=>yv ?_) (F.args_zip_next_1 _))));show J g (.inr ⟨T,true,o,hT,r,j _ _ (Yj (yj f.1 hT)) (Yj (yj f.2.1 hT)) (Yj (yj f.2.2 hT)) ho⟩) ⟨_,_,j _ _ D.TOz D.TOi1 D.TOi2 d⟩ t B p C fun c q P _ R S e=>j c q P R S e
theorem zne_any{z TI TO l m a b N:Addr}{t x:Nat}{xs ys:Array Value}{Q:Option Value->Shared->Prop}(r:A.handled=none)(D:ZipApart z TI TO l m a b)
  (hz:ZAt z TI TO N s.heap) (h:IsPair s.heap TI (.ref l) (.ref m)) (f:∃ u v,IsPair s.heap TO u v)
  (h1:s.heap.IsListIter l a t) (n:s.heap.IsListIter m b x) (i:s.heap.IsList a xs) (j:s.heap.IsList b ys) (d:xs[t]?=none\/ys[x]?=none)
  (p:∀ h',(∀ c o,c≠z->c≠TO->c≠l->c≠m->s.heap.get? c=some o->h'.get? c=some o)->Q none { s with heap:=h' }):wpAny (model prog w) A (pyNext (.ref z)) Q E s:=by
 obtain⟨u,v,f⟩:=f;have typ:=hz.typ;rcases hz with hz | ⟨T,b1,o,hT,hz,ho⟩
 .show wpAny_pyNext_zip_end r D hz h f h1 n i j d p
 .unfold pyNext;show yr (kL (XX (name:=Str.ofString "__next__") typ kj (XE kj typ F.entry_zip_next (zne r D hz ho h h1 n i j d fun g e k y=>?_) (F.args_zip_next_1 _))));obtain⟨q,B,hc⟩:=y;show yr (wpAny_isInstance (T:="StopIteration") (b:=true) ⟨q,B,hc⟩ isSubtype_stop ?_);show yv (p _ fun c o C _ G H e=>k c o C G H e)
end
structure LZ(z TI TO i1 i2 a b S N:Nat)(xs ys:Array Value)(h0:Heap)(i:Nat)(acc:Array Value)(c:Nat)(h:Heap):Prop where
 zp:ZAt z TI TO N h
 ti:IsPair h TI (.ref i1) (.ref i2)
 tO:∃ u v,IsPair h TO u v
 j1:h.IsListIter i1 a i
 j2:h.IsListIter i2 b i
 la:h.IsList a xs
 lb:h.IsList b ys
 ls:h.get? S=some { cls:=.type "list",dict:=none,data:=.seq acc c,slots:=#[] }
 sz:N<=h.objs.size
 len:acc.size=i
 its:∀(j:Nat) v,acc[j]?=some v->∃ t x y,v=.ref t/\N<=t/\IsPair h t x y/\xs[j]?=some x/\ys[j]?=some y
 nd:∀(j k:Nat) v,acc[j]?=some v->acc[k]?=some v->j=k
 kp:∀ q o,q<N->q≠z->q≠TO->q≠i1->q≠i2->q≠S->h0.get? q=some o->h.get? q=some o
structure LE(z TO i1 i2 S N:Nat)(xs ys:Array Value)(h0:Heap)(n:Nat)(acc:Array Value)(c:Nat)(h:Heap):Prop where
 ls:h.get? S=some { cls:=.type "list",dict:=none,data:=.seq acc c,slots:=#[] }
 len:acc.size=n
 its:∀(j:Nat) v,acc[j]?=some v->∃ t x y,v=.ref t/\N<=t/\IsPair h t x y/\xs[j]?=some x/\ys[j]?=some y
 nd:∀(j k:Nat) v,acc[j]?=some v->acc[k]?=some v->j=k
 kp:∀ q o,q<N->q≠z->q≠TO->q≠i1->q≠i2->q≠S->h0.get? q=some o->h.get? q=some o
structure LA(z TI TO i1 i2 a b S N:Nat):Prop where
 D:ZipApart z TI TO i1 i2 a b
 lt:z<S/\TI<S/\TO<S/\i1<S/\i2<S/\a<S/\b<S
 S:S<N
theorem LZ.at{z TI TO g l a b S N:Nat}{xs ys:Array Value}{A h h':Heap}{i c s:Nat}{acc d:Array Value}(L:LA z TI TO g l a b S N)(x:LZ z TI TO g l a b S N xs ys A i acc c h)
  (k:Heap.SameBut S h h') (U:h'.get? S=some { cls:=.type "list",dict:=none,data:=.seq d s,slots:=#[] }) (p:d.size=i) (m:∀(j:Nat) v,d[j]?=some v->∃ t x y,v=.ref t/\N<=t/\IsPair h t x y/\xs[j]?=some x/\ys[j]?=some y) (nd:∀(j k:Nat) v,d[j]?=some v->d[k]?=some v->j=k):LZ z TI TO g l a b S N xs ys A i d s h':=by
 obtain⟨l1,l2,K,M,O,P,R⟩:=L.lt;have B:=L.S;have f:∀{q o},q≠S->h.get? q=some o->h'.get? q=some o:=fun n e=>k.extBut _ _ n e;show⟨?_,f (yT l2) x.ti,?_,x.j1.at fun o e=>f (yT M) e,x.j2.at fun o e=>f (yT O) e,x.la.extBut k.extBut (yT P),x.lb.extBut k.extBut (yT R),U,by rw[k.1];show x.sz,p,fun j v e=>?_,nd,fun q o C D E F G r e=>f r (x.kp q o C D E F G r e)⟩
 .rcases x.zp with e | ⟨T,b1,o,hT,e,eo⟩
  .show .inl (f (yT l1) e)
  .show .inr ⟨T,b1,o,hT,f (yT l1) e,f (Yj (yj B hT)) eo⟩
 .obtain⟨u,v,e⟩:=x.tO;show⟨u,v,f (yT K) e⟩
 .obtain⟨t,u,v,H,w,I,J⟩:=m j v e;show⟨t,u,v,H,w,f (Yj (yj B w)) I,J⟩
section
variable{prog:Program}{w:World}{A:Around}{R:Result->Shared->Prop}{z TI TO i1 i2 a b S N:Nat}{xs ys:Array Value}{h0:Heap}
theorem zloop(hh:A.handled=none)(L:LA z TI TO i1 i2 a b S N)(hn:min xs.size ys.size<=2 ^ 24)(res:Value):∀(k i:Nat) (s:Shared) (acc:Array Value) (c:Nat),min xs.size ys.size-i=k->i<=min xs.size ys.size->LZ z TI TO i1 i2 a b S N xs ys h0 i acc c s.heap ->
  (∀ h' M O,LE z TO i1 i2 S N xs ys h0 (min xs.size ys.size) M O h'->R (.ok (.ret res)) { s with heap:=h' })->codeAny (model prog w) A (.builtin "list.extend.loop" ⟨[.ref S,.ref z,res],[]⟩) R s:=by
 have C:=L.S;obtain⟨l1,l2,U,E,G,l6,l7⟩:=L.lt;have p:∀{t q:Nat},N<=t->q<S->t≠q:=fun h1 h2=>by lk
 intro k
 induction k with
 | zero =>
  intro i s acc c hk hi x hR;show kn F.entry_extend_loop ?_;rw[Xy XM _];show wpAny _ A.in1 (pyNext _>>=_) _ _ s
  have he:xs[i]?=none\/ys[i]?=none:=by
   rcases Nat.le_total xs.size ys.size with q | q
   .show .inl (xz (by lk))
   .show .inr (xz (by lk))
  show yr (zne_any hh L.D x.zp x.ti x.tO x.j1 x.j2 x.la x.lb he fun h' l=>yv (hR h' acc c ⟨?_,by rw[x.len];lk,fun j v e=>?_,x.nd,fun q o H y I J K X e=>l q o y I J K (x.kp q o H y I J K X e)⟩))
  .show l S _ (Yj l1) (Yj U) (Yj E) (Yj G) x.ls
  .obtain⟨t,u,v,m,g,e3,e4⟩:=x.its j v e;show⟨t,u,v,m,g,l t _ (p g l1) (p g U) (p g E) (p g G) e3,e4⟩
 | succ k ih =>
  intro i s acc c hk hi x hR;show kn F.entry_extend_loop ?_;rw[Xy XM _];show wpAny _ A.in1 (pyNext _>>=_) _ _ s;obtain⟨u,hu⟩:∃ u,xs[i]?=some u:=⟨_,xK (by lk)⟩;obtain⟨v,hv⟩:∃ v,ys[i]?=some v:=⟨_,xK (by lk)⟩;show yr (znx_any L.D x.sz x.zp x.ti x.tO x.j1 x.j2 x.la x.lb hu hv ⟨X1 l1 C,X1 E C,X1 G C⟩ fun h1 z1 ab m g eP Z l=>?_);have P:=l S _ (Yj l1) (Yj U) (Yj E) (Yj G) x.ls;show wpAny _ A.in1 (updateSeq S (·.push (.ref s.heap.objs.size))>>=_) _ _ _;have f:=x.len;have hN:=x.sz
  have W:∀ j:Nat,acc[j]?≠some (.ref s.heap.objs.size):=fun j e=>by
   obtain⟨t,Y,w',q1,B,q3,_⟩:=x.its j _ e;cases q1;show absurd (yN q3) (YB _)
  have aa:∀(j k:Nat) r,(acc.push (.ref s.heap.objs.size))[j]?=some r->(acc.push (.ref s.heap.objs.size))[k]?=some r->j=k:=fun j k r m g=>by
   rw[Array.getElem?_push] at m g;split at m<;>split at g
   .rename_i H y;rw[H,y]
   .cases m;show absurd g (W k)
   .cases g;show absurd m (W j)
   .show x.nd j k r m g
  obtain⟨O,ac⟩:∃ O,(h1.update S (Obj.mapSeq (·.push (.ref s.heap.objs.size)))).get? S=some { cls:=.type "list",dict:=none,data:=.seq (acc.push (.ref s.heap.objs.size)) O,slots:=#[] }:=⟨_,Y7 (Obj.mapSeq (·.push (.ref s.heap.objs.size))) P rfl⟩;show yr (ko P rfl (yv ⟨plainId_quiet XM _,ih (i+1) _ (acc.push (.ref s.heap.objs.size)) O (by lk) (by lk) ?_ hR⟩) ?_ ?_)
  .have sb:Heap.SameBut S h1 (h1.update S (Obj.mapSeq (·.push (.ref s.heap.objs.size)))):=XR ..;have h:∀{q o},q≠S->h1.get? q=some o->(h1.update S (Obj.mapSeq (·.push (.ref s.heap.objs.size)))).get? q=some o:=fun n e=>sb.extBut _ _ n e;show⟨?_,h (yT l2) (l _ _ L.D.TIz L.D.TITO L.D.TIi1 L.D.TIi2 x.ti),?_,m.at fun o e=>h (yT E) e,g.at fun o e=>h (yT G) e,?_,?_,ac,by rw[sb.1,Z];lk,by rw[Array.size_push,f],fun j r e=>?_,aa,fun q o H y I J K X e=>h X (l q o y I J K (x.kp q o H y I J K X e))⟩
   .rcases z1 with e | ⟨T,b1,o,hT,e,eo⟩
    .show .inl (h (yT l1) e)
    .show .inr ⟨T,b1,o,hT,h (yT l1) e,h (Yj (yj C hT)) eo⟩
   .obtain⟨Y,r,e⟩:=ab;show⟨Y,r,h (yT U) e⟩
   .obtain⟨o,e,d⟩:=x.la;show⟨o,h (yT l6) (l _ _ L.D.l1z L.D.l1TO L.D.l1i1 L.D.l1i2 e),d⟩
   .obtain⟨o,e,d⟩:=x.lb;show⟨o,h (yT l7) (l _ _ L.D.l2z L.D.l2TO L.D.l2i1 L.D.l2i2 e),d⟩
   .rw [Array.getElem?_push] at e;split at e
    .rename_i ej
     cases e;rw[ej,f];show⟨_,u,v,rfl,hN,h (Yj (yj C hN)) eP,hu,hv⟩
    .obtain⟨t,Y,w',q1,B,q3,q4⟩:=x.its j r e;show⟨t,Y,w',q1,B,h (Yj (yj C B)) (l t _ (p B l1) (p B U) (p B E) (p B G) q3),q4⟩
  .rw [f,YA];lk
  .show(acc.push _).size<=sizeLine+1;rw[Array.size_push,f,YA];lk
theorem zip_len0:typeLookup (.type "zip") "__len__"=pure none:=by rw[typeLookup_type,builtinLookup_eq_fast];kernel_rfl
theorem zip_hint0:typeLookup (.type "zip") "__length_hint__"=pure none:=by rw[typeLookup_type,builtinLookup_eq_fast];kernel_rfl
theorem zext{s:Shared}{p:Nat}(u:A.handled=none)(L:LA z TI TO i1 i2 a b S N)(y:min xs.size ys.size<=2 ^ 24)(res:Value)(hz:IsZip s.heap z TI TO .none)(x:LZ z TI TO i1 i2 a b S N xs ys h0 0 #[] p s.heap)
  (t:∀ h' c d,LE z TO i1 i2 S N xs ys h0 (min xs.size ys.size) c d h'->R (.ok (.ret res)) { s with heap:=h' }) :
  wpAny (model prog w) A.in1 (Builtin.List.listExtendWith (.ref S) (.ref z) res) (fun h g=>match h with | .done f=>R (.ok f) g | .again d=>d.quiet=true/\codeAny (model prog w) A d R g) (fun e g=>R (.error e) g) s:=by
 obtain⟨l1,_⟩:=L.lt;have typ:s.TypeIs (.ref z) "zip":=⟨_,hz,rfl⟩;unfold Builtin.List.listExtendWith;show yr <| wpAny_typeOf typ ?_;have B:Builtin.List.listSameRef (.ref S) (.ref z)=false:=by simp[Builtin.List.listSameRef,Yj l1]
 have o:(Value.type "zip"==.type "list")=false/\(Value.type "zip"==.type "tuple")=false:=by decide
 simp only[B,o.1,o.2,kK,YX,Xw];show yr <| kS hz <| yr <| Yz ?_;unfold Builtin.List.listLengthHint;show yr <| wpAny_specialOf typ zip_len0 ?_;show wpAny _ _ (specialOf (Value.ref z) (Str.ofString "__length_hint__")>>=_) _ _ _;show yr <| wpAny_specialOf typ zip_hint0 <| yv ?_;show wpAny _ _ (rule "list.extend.makes-room">>=fun _=>Builtin.List.listTouch (.ref S)>>=fun _=>again (.builtin "list.extend.loop" ⟨[.ref S,.ref z,res],[]⟩)) _ _ _;show yr <| wpAny_rule <| yr ?_;show wpAny _ _ (updateSeq S (·.push .none)>>=fun _=>updateSeq S (·.pop)) _ _ _;show yr <| ko x.ls rfl ?_;have i:=Y7 (Obj.mapSeq (·.push Value.none)) x.ls rfl;show ko (hz:=by seq_fits) i rfl ?_;have r:=Y7 (Obj.mapSeq (·.pop)) i rfl
 have C:Heap.SameBut S s.heap ((s.heap.update S (Obj.mapSeq (·.push Value.none))).update S (Obj.mapSeq (·.pop))):=by
  have l:Heap.SameBut S s.heap (s.heap.update S (Obj.mapSeq (·.push Value.none))):=XR ..;have m:Heap.SameBut S (s.heap.update S (Obj.mapSeq (·.push Value.none))) ((s.heap.update S (Obj.mapSeq (·.push Value.none))).update S (Obj.mapSeq (·.pop))):=XR ..;show⟨m.1.trans l.1,fun q n=>(m.2 q n).trans (l.2 q n)⟩
 show yv ⟨plainId_quiet XM _,zloop u L y res _ 0 _ #[] _ rfl (YS _) (x.at L C r rfl (fun j v e=>by simp at e) fun j k v e=>by simp at e) t⟩
theorem zinit{s:Shared}{l:Nat}(o:A.handled=none)(L:LA z TI TO i1 i2 a b S N)(p:min xs.size ys.size<=2 ^ 24)(hz:IsZip s.heap z TI TO .none)(x:LZ z TI TO i1 i2 a b S N xs ys h0 0 #[] l s.heap)
  (n:∀ h' c d,LE z TO i1 i2 S N xs ys h0 (min xs.size ys.size) c d h'->R (.ok (.ret .none)) { s with heap:=h' }) :
  wpAny (model prog w) A.in1 (Builtin.«list.__init__» ⟨[.ref S,.ref z],[]⟩) (fun h g=>match h with | .done f=>R (.ok f) g | .again d=>d.quiet=true/\codeAny (model prog w) A d R g) (fun e g=>R (.error e) g) s:=by
 obtain⟨l1,_⟩:=L.lt;show wpAny _ _ (do let old <- Builtin.List.listItems (.ref S);Builtin.List.listUpdate (.ref S) (fun _=>#[]);letGo old.toList.reverse;Builtin.List.listExtendWith (.ref S) (.ref z) .none) _ _ s;show yr ?_;unfold Builtin.List.listItems;show yr <| wpAny_seqItems x.ls rfl <| yv ?_;show wpAny _ _ (updateSeq S (fun _=>#[])>>=fun _=>letGo _>>=fun _=>Builtin.List.listExtendWith (.ref S) (.ref z) .none) _ _ s;show yr <| ko x.ls rfl ?_;have m:=Y7 (Obj.mapSeq (fun _=>(#[]:Array Value))) x.ls rfl;have i:Heap.SameBut S s.heap (s.heap.update S (Obj.mapSeq (fun _=>(#[]:Array Value)))):=XR ..;show yr <| wpAny_letGo ?_;show zext o L p .none (i.extBut _ _ (yT l1) hz) (x.at L i m rfl (fun j v e=>by simp at e) fun j k v e=>by simp at e) n
end
section
variable{prog:Program}{w:World}{A:Around}{E:Value->Shared->Prop}{s:Shared}
theorem call_list_zip{z TI TO h i a b:Nat}{xs ys:Array Value}{Q:Value->Shared->Prop}(H:A.handled=none)(D:ZipApart z TI TO h i a b)(I:min xs.size ys.size<=2 ^ 24)(hz:IsZip s.heap z TI TO .none)(l:IsPair s.heap TI (.ref h) (.ref i))(f:∃ u v,IsPair s.heap TO u v)
  (h1:s.heap.IsListIter h a 0) (y:s.heap.IsListIter i b 0) (m:s.heap.IsList a xs) (n:s.heap.IsList b ys)
  (G:∀ h' c t,LE z TO h i s.heap.objs.size (s.heap.objs.size+1) xs ys s.heap (min xs.size ys.size) c t h'->Q (.ref s.heap.objs.size) { s with heap:=h' }):wpAny (model prog w) A (call (.type "list") [.ref z]) Q E s:=by
 show callType_codes (Q₁:=fun r g=>r=.ref s.heap.objs.size/\g={ s with heap:=s.heap.push { cls:=.type "list",data:=.seq #[] } }) F.called_list (F.typeCall_list_1 _) F.entry_list_init (code_list_new _ ⟨rfl,rfl⟩) fun r g p=>?_;obtain⟨rfl,rfl⟩:=p;have B:(s.heap.push { cls:=.type "list",data:=.seq #[] }).get? s.heap.objs.size=some { cls:=.type "list",data:=.seq #[] }:=yZ _ rfl;have up:∀{q o},s.heap.get? q=some o->(s.heap.push { cls:=.type "list",data:=.seq #[] }).get? q=some o:=fun e=>yw _ e;have lt:∀{q o},s.heap.get? q=some o->q<s.heap.objs.size:=fun e=>yN e;obtain⟨u,v,f⟩:=f
 have L:LA z TI TO h i a b s.heap.objs.size (s.heap.objs.size+1):=by
  show⟨D,⟨lt hz,lt l,lt f,?_,?_,?_,?_⟩,X7 _⟩
  .obtain⟨_,e,_⟩:=h1;show lt e
  .obtain⟨_,e,_⟩:=y;show lt e
  .obtain⟨_,e,_⟩:=m;show lt e
  .obtain⟨_,e,_⟩:=n;show lt e
 have x:LZ z TI TO h i a b s.heap.objs.size (s.heap.objs.size+1) xs ys s.heap 0 #[] 0 (s.heap.push { cls:=.type "list",data:=.seq #[] }):=by
  show⟨.inl (up hz),up l,⟨u,v,up f⟩,h1.at fun o e=>up e,y.at fun o e=>up e,?_,?_,B,by rw[xF];show yh _,rfl,fun j v e=>by simp at e,fun j k v e=>by simp at e,fun q o _ _ _ _ _ _ e=>up e⟩
  .obtain⟨o,e,d⟩:=m;show⟨o,up e,d⟩
  .obtain⟨o,e,d⟩:=n;show⟨o,up e,d⟩
 show⟨⟨_,B,rfl⟩,F.args_list_init_2 _ _,zinit (A:=A.in1) H L I (up hz) x fun h' c t C=>⟨rfl,G h' c t C⟩⟩
end
structure Zl(H H':Hp)(l:Addr)(ts:LQ)(xs ys:List V):Prop where
 sm:L2.Same H H'
 fl:H l=none
 ls:H' l=some (.lst (ts.map V.ref))
 len:ts.length=min xs.length ys.length
 tp:∀(j:Nat) t,ts[j]?=some t->H t=none/\∃ x y,xs[j]?=some x/\ys[j]?=some y/\H' t=some (.tup [x,y])
theorem qgD(H:Hp):∀(a:LQ) (xs ys:List V),a.Nodup->a.length<=xs.length->a.length<=ys.length->∃ G:Hp,(∀(j:Nat) t x y,a[j]?=some t->xs[j]?=some x->ys[j]?=some y->G t=some (.tup [x,y]))/\∀ q,q∉a->G q=H q
 | [],_,_,_,_,_=>⟨H,fun j t x y e=>by simp at e,fun _ _=>rfl⟩
 | t::a,[],_,_,h,_=>by simp at h
 | t::a,_::_,[],_,_,h=>by simp at h
 | t::a,x::xs,y::ys,nd,h1,h2=>by
  obtain⟨m,n⟩:=yo.mp nd;obtain⟨G,i,l⟩:=qgD H a xs ys n (by simpa using h1) (by simpa using h2);show⟨upd G t (.tup [x,y]),fun j t' o p c d f=>?_,fun q g=>?_⟩
  .cases j with
   | zero=>simp at c d f;subst c d f;show qb
   | succ j =>
    have b:a[j]?=some t':=by simpa using c
    rw[qf fun z=>m (by rw[<- z];show ye b)];show i j t' o p b (by simpa using d) (by simpa using f)
  .rw [qf fun z=>g (by rw[z];show yU)];show l q fun z=>g (yC _ z)
def refN:Value->Nat
 | .ref a=>a
 | _=>0
def tLZ(K:yg)(d:TA):TE:=fun f H Q=>d f H fun vs c=>∃ a b xs ys,vs=[.ref a,.ref b]/\SqL K c a xs/\SqL K c b ys/\xs.length<=1000/\∀ l e H',Zl c H' l e xs ys->Q (.ref l) H'
theorem vLZ{K:yg}{d:TA}{e:St}{H:Hp}{Q:VK}(h:d e H fun vs c=>∃ a b xs ys,vs=[.ref a,.ref b]/\SqL K c a xs/\SqL K c b ys/\xs.length<=1000/\∀ l f H',Zl c H' l f xs ys->Q (.ref l) H'):tLZ K d e H Q:=h
theorem qdz{X:Cx}{K:yg}{a b:Expr}{ta:TA}{p p2 ao f:Pos}(hK:X.K=K)(hc:X.calm=true)(hg:Gl X "list")(ag:Gl X "zip")(F:X.mg "list"=none)(ak:X.mg "zip"=none)(ha:PA X [a,b] ta)(hs:starEach [a,b] X.env=[(false,eval a X.env),(false,eval b X.env)]:=by rfl)(P:starEach [b] X.env=[(false,eval b X.env)]:=by rfl)
  (he:starEach [.Call (.Name "zip" p2) [a,b] [] f] X.env=[(false,eval (.Call (.Name "zip" p2) [a,b] [] f) X.env)]:=by rfl):PE X (.Call (.Name "list" p) [.Call (.Name "zip" p2) [a,b] [] f] [] ao) (tLZ K ta):=by
 subst hK;intro Z s σ H Q I h;show Call_ (qaM I hg F Xu (YD (T:="list") ?_ he rfl));rw[he];show wpAny _ _ (spliced ((false,eval (.Call (.Name "zip" p2) [a,b] [] f) X.env)::[])) _ _ s;show Xl ?_;show Call_ (qaM I ag ak qd4 (YD (thn (ha f Z s σ H _ I h) fun us w ⟨vs,H1,A,r1,q1⟩=>?_) (by rw[hs,P]) (by rw[P];rfl)));obtain⟨a,b,xs,ys,e,hq,al,hx,q⟩:=q1;subst e
 cases r1 with
 | cons r rr =>
  cases rr with
  | cons r2 rr =>
   cases rr;cases r;cases r2;obtain⟨C,rv,pl,_⟩:=A.list hq;obtain⟨l,aa,D,_⟩:=A.list al;have am:a<w.heap.objs.size:=by obtain⟨_,e,_⟩:=pl.isList;show yN e
   have an:b<w.heap.objs.size:=by obtain⟨_,e,_⟩:=D.isList;show yN e
   have l1:=rv.length;have l2:=aa.length;show call_zip_2 pl.isList D.isList fun h1 hz ae af ah ai hsz hk=>XZ ?_;have la:h1.IsList a C.toArray:=by obtain⟨o,e,d⟩:=pl.isList;show⟨o,hk _ _ e,d⟩
   have B:h1.IsList b l.toArray:=by obtain⟨o,e,d⟩:=D.isList;show⟨o,hk _ _ e,d⟩
   show call_list_zip (A.ok.hd hc) (PySem.W.ktu_apart _ _ _ am an) (by simp only[yz];lk) hz ae ⟨_,_,af⟩ ah ai la B fun h2 acc c L=>?_;have L:LE (w.heap.objs.size+4) (w.heap.objs.size+3) w.heap.objs.size (w.heap.objs.size+1) h1.objs.size (h1.objs.size+1) C.toArray l.toArray h1 (min C.toArray.size l.toArray.size) acc c h2:=L;have O:acc.size=min xs.length ys.length:=by rw[L.len,l1,l2,yz,yz]
   obtain⟨g,R⟩:∃ g,g=acc.toList.map refN:=⟨_,rfl⟩;have n:g.length=min xs.length ys.length:=by rw[R,ya,xW,O]
   have J:∀(j:Nat) t,g[j]?=some t->acc[j]?=some (.ref t)/\h1.objs.size+1<=t/\∃ x y,xs[j]?=some x/\ys[j]?=some y/\∃ u v,RelV x u/\RelV y v/\IsPair h2 t u v:=fun j t e=>by
    rw[R,yd,xJ] at e;obtain⟨v,ev,et⟩:=yn.mp e;obtain⟨t',u1,u2,q1,q2,q3,q4,q5⟩:=L.its j v ev;subst q1;have ad:t'=t:=et;subst ad;have hj:j<acc.size:=(Array.getElem?_eq_some_iff.mp ev).1;obtain⟨x,S⟩:∃ x,xs[j]?=some x:=⟨_,yb (by lk)⟩;obtain⟨y,U⟩:∃ y,ys[j]?=some y:=⟨_,yb (by lk)⟩;obtain⟨a1,ab,ap⟩:=rv.get S;obtain⟨a2,ac,aq⟩:=aa.get U;have b1:a1=u1:=by rw[List.getElem?_toArray,ab] at q4;cases q4;rfl
    have b2:a2=u2:=by rw[List.getElem?_toArray,ac] at q5;cases q5;rfl
    subst b1 b2;show⟨ev,q2,x,y,S,U,a1,a2,ap,aq,q3⟩
   have nd:g.Nodup:=by
    show Y6.mpr fun i j hi hj aj e=>?_;have M:=(J i g[i] (yb hi)).1;have N:=(J j g[j] (yb hj)).1;rw[e] at M;show absurd (L.nd i j _ M N) (yT aj)
   have mem:∀ t∈g,h1.objs.size+1<=t:=fun t ht=>by
    obtain⟨j,e⟩:=Xv.mp ht;show(J j t e).2.1
   obtain⟨G,g1,g2⟩:=qgD H1 g xs ys nd (by lk) (by lk)
   have Y:∀ q,q<w.heap.objs.size->upd G h1.objs.size (.lst (g.map V.ref)) q=H1 q:=fun q hq=>by
    rw[qf (yT (by lk))];show g2 q fun z=>by have:=mem q z;lk
   have tl:∀ t∈g,t≠h1.objs.size:=fun t ht=>by have:=mem t ht;show Yj this
   show⟨.ref _,_,A.laidM (t':=w.toks) (H':=upd G h1.objs.size (.lst (g.map V.ref))) (fun b u e=>?_) Y fun b u hb e=>?_,rfl,q _ g _ ⟨fun b o e=>?_,A.hok.fresh (by show(w.heap.objs.size:Nat)<=h1.objs.size;lk),qb,n,fun j t e=>?_⟩⟩
   .have B:∀ m:Nat,w.heap.objs.size<=m->b<m:=fun m F=>yj (yN e) F;show L.kp b u (B _ (by lk)) (yT (B _ (by lk))) (yT (B _ (by lk))) (yT (B _ (by lk))) (yT (B _ (by lk))) (yT (B _ (by lk))) (hk b u e)
   .by_cases hl:b=h1.objs.size
    .subst hl;rw[qb] at e;cases e;show⟨by rw[ya,n,YA];lk,acc.toList,c,zO (by rw[ya,n];show O.symm) fun j y u M N=>?_,by rw[Array.toArray_toList];show L.ls⟩;rw[yd] at M;obtain⟨t,et,E⟩:=yn.mp M;subst E;rw[xJ,(J j t et).1] at N;cases N;rfl
    .rw [qf hl] at e;by_cases F:b∈g
     .obtain⟨j,ej⟩:=Xv.mp F;obtain⟨_,_,x,y,ex,E,u1,u2,r1,r2,ep⟩:=J j b ej;rw[g1 j b x y ej ex E] at e;cases e;show⟨wqqb,[u1,u2],.cons r1 (.cons r2 .nil),⟨_,ep,rfl,_,rfl⟩⟩
     .rw [g2 b F,A.hok.fresh hb] at e;cases e
   .rw [Y b (kc fun z=>by rw[A.hok.fresh z] at e;cases e)];show e
   .obtain⟨_,N,x,y,ex,E,_⟩:=J j t e;show⟨A.hok.fresh (by lk),x,y,ex,E,?_⟩;rw[qf (tl t (ye e))];show g1 j t x y e ex E
section
variable{X:Cx}
def qho(K:yg):List V->Hp->VK->Prop:=fun xs H Q=>∃(p:Addr) (bs:List Bool),xs=[.ref p]/\SqL K H p (bs.map V.bl)/\Q (.bl (bs.any id)) H
theorem call_any(hc:X.calm=true):zU X (.builtin "any") (qho X.K):=by
 intro f s D H xs us Q I r h;obtain⟨p,bs,rfl,x,q⟩:=h;obtain⟨u,rfl,B⟩:=qbH r;cases B;obtain⟨z,C,pl,hz⟩:=I.list x;have e:=qci C;subst e;have n:X.A.in1.handled=none:=I.ok.hd hc;show call_any_walk (X2 pl.isList ?_)
 have g:p≠s.heap.objs.size:=by
  obtain⟨o,w,_⟩:=pl.isList;show yT (yN w)
 show⟨s.heap.objs.size,_,_,_,_,_,fun i=>(bs[i]?).getD false,rfl,Walks.list n s.heap.objs.size p g (bs.map Value.bool).toArray,⟨⟨_,yZ _ rfl,rfl,rfl⟩,pl.isList.at fun o e=>yw _ e⟩,fun i v s Q E hv y=>?_,fun h' tk t=>?_⟩
 .have a:(bs.map Value.bool)[i]?=some v:=by simpa using hv
  rw[yd] at a
  cases e:bs[i]? with
  | none=>rw[e] at a;cases a
  | some b =>
   rw[e] at a;cases a;have c:Q ((bs[i]?).getD false) s:=y;rw[e] at c;show yv c
 .have e:((List.range (bs.map Value.bool).toArray.size).any fun i=>(bs[i]?).getD false)=bs.any id:=by
   rw[yz,ya]
   have j:∀ bs:List Bool,((List.range bs.length).any fun i=>(bs[i]?).getD false)=bs.any id:=by
    intro bs
    induction bs with
    | nil=>rfl
    | cons b r ih =>
     rw[yJ,List.range_succ_eq_map,Xs,Kk,Xs,<- ih];rfl
   show j bs
  rw[e];show⟨.bl _,H,?_,rfl,q⟩;have l:Inv X f D H { s with heap:=s.heap.push { cls:=.type "list_iterator",data:=.fields #[.ref p,.int 0 0] } }:=I.kept (t':=s.toks) fun b o e=>yw _ e;have d:=I.fpOk (b:=s.heap.objs.size) (yh _) (I.hok.fresh (yh _));show l.turned (it:=s.heap.objs.size) (h':=h') (t':=tk) (fun b o m e=>t b o (by simpa using m) e) d.1 d.2.1 d.2.2.2.1 d.2.2.2.2.1 d.2.2.2.2.2
end
theorem k_any{X:Cx}{K:yg}(a:X.K=K)(hc:X.calm=true):zU X (.builtin "any") (qho K):=by subst a;show call_any hc
section
variable{prog:Program}{w:World}{A:Around}{E:Value->Shared->Prop}{s:Shared}{a:Addr}
def TxS(w:World)(h:Heap)(a:Addr)(ss:LS):Prop:=
 ∃(b:Array (Int×Value)) (ep:Nat) (t:SetTable),h.get? a=some { cls:=.type "set",dict:=none,data:=.set b ep t } /\
  (∀ e∈b.toList,∃ k u,e=(hashStr w k,Value.str k u))/\(b.toList.map fun e=>strOf e.2).Perm ss/\t.fits b.size=true/\(b.size=0\/t.plain=false)/\b.size<scanBound
end
section
variable{prog:Program}{w:World}{A:Around}{E:Value->Shared->Prop}{s:Shared}{a:Addr}
end
section
variable{prog:Program}{w:World}{A:Around}{E:Value->Shared->Prop}{s:Shared}{a I T:Addr}{es:Array (Int×Value)}{ep i:Nat}{t:SetTable}{f:Value}{Q:Option Value->Shared->Prop}
end
section
variable{prog:Program}{w:World}{A:Around}{E:Value->Shared->Prop}{s:Shared}{a I T:Addr}{es:Array (Int×Value)}{ep i:Nat}{t:SetTable}{f:Value}{Q:Option Value->Shared->Prop}{js:LN}
end
section
variable{prog:Program}{w:World}{A:Around}{E:Value->Shared->Prop}{s:Shared}{a I T:Addr}{es:Array (Int×Value)}{ep i:Nat}{t:SetTable}
end
section
variable{prog:Program}{w:World}{A:Around}{E:Value->Shared->Prop}{s:Shared}{a:Addr}{ss:LS}{w₁:World}
end
section
variable{prog:Program}{w:World}{A:Around}{E:Value->Shared->Prop}{s:Shared}{a:Addr}{ss:LS}{w₁:World}
end
section
variable{X:Cx}{K:yg}
theorem qdA:∀{ys:LS} {us:List Value},StrsAre us ys->Vals (ys.map V.str) us
 | [],_,.nil=>.nil
 | y::ys,_,.cons _ tk r=>.cons ⟨tk,rfl⟩ (qdA r)
def rSortX(K:yg):List V->Hp->VK->Prop:=fun xs H Q=>∃(p:Addr) (ss:LS),xs=[.ref p]/\SqL K H p (ss.map V.str)/\ss.length<64/\∀(l:Addr) (us:LS),H l=none->us.Perm ss->sortedS us=true->Q (.ref l) (upd H l (.lst (us.map V.str)))
theorem k_sortX(l:X.K=K):zU X (.builtin "sorted") (rSortX K):=by
 subst l;intro f s x H xs us Q I r h;obtain⟨p,ss,rfl,t,j,q⟩:=h;obtain⟨u,rfl,v⟩:=qbH r;cases v;obtain⟨a,g,pl,hz⟩:=I.list t;have hl:a.length<64:=by have:=g.length;rw[ya] at this;lk
 show PyProof.Rows.sorted_strs (vs:=a) pl.isList (qcj g) hl fun out c h1 d i=>?_;obtain⟨e,m⟩:=PyProof.Rows.sortedAll_at s.heap a out;have n:H (s.heap.objs.size+1)=none:=I.hok.fresh (xS _)
 have new:ObjOk X.prog X.w (upd H (s.heap.objs.size+1) (.lst (c.map V.str))) (PyProof.Rows.sortedAll s.heap a out) (s.heap.objs.size+1) (.lst (c.map V.str)):=by
  show⟨?_,out.toList,e,qdA h1,?_⟩
  .rw [ya,d.length_eq];show yX (qi (by lk))
  .rw [m]
 show⟨.ref (s.heap.objs.size+1),_,I.laid (t':=s.toks) (fun b o e=>PyProof.Rows.sortedAll_old e) (xS _) new,rfl,q _ c n d i⟩
def LeS(a b:Str):Prop:=a.cps.toList<=b.cps.toList
theorem qeS:∀(l:LS) (p:Str),risingS p l=true->(p::l).Pairwise LeS
 | [],p,_=>xu _ _
 | x::r,p,h=>by
  have h:(!ltCps x.cps.toList p.cps.toList&&risingS x r)=true:=h;rw[yY,ltCps_eq,xU,Xi] at h;have h1:LeS p x:=h.1;have a:=qeS r x h.2;show kF.mpr ⟨fun y hy=>?_,a⟩;rcases yx.mp hy with rfl | hy
  .show h1
  .show List.le_trans h1 (List.rel_of_pairwise_cons a hy)
theorem qc6{l:LS}(h:sortedS l=true):l.Pairwise LeS:=by
 cases l with
 | nil=>show .nil
 | cons x r=>show qeS r x h
theorem qc7{l m:LS}(h:sortedS l=true)(h':sortedS m=true)(p:l.Perm m):l=m:=by
 show List.Perm.eq_of_pairwise (le:=LeS) (fun a b _ _ h1 c=>?_) (qc6 h) (qc6 h') p;have e:=List.le_antisymm h1 c
 cases a with | mk a=>cases b with | mk b =>
 show congrArg _ (Array.toList_inj.mp e)
end
section
variable{X:Cx}{K:yg}
open PySem.Calls PySem.W in
theorem coll_dct{prog:Program}{w:World}{A:Around}{E:Value->Shared->Prop}{s:Shared}{T:String}{r d:Addr}{n:Nat}{P:Nat->Value->Prop}{B:Heap->Prop}{R:List Value->Shared->Prop}(K:KdlSrc prog w T r d n P B)(G:A.handled=none)(t:B s.heap)(H:n<=sizeLine)
  (h:∀(h':Heap) (tk:Nat) (acc:Array Value),(∀ b o,s.heap.get? b=some o->h'.get? b=some o)->s.heap.objs.size<=h'.objs.size->ItemsOf P acc n->R acc.toList { s with heap:=h',toks:=tk }) :
  wpAny (model prog w) A (collect (.ref r)) R E s:=by
 have p:=K.there _ t;unfold collect;show yr (wpAny_runValue (kn entry_proto_collect' ?_));rw[Xy PySem.F.plain_proto_collect _];show wpAny _ A.in1 (newList []>>=fun l=>again (.builtin "list.__iadd__" ⟨[l,.ref r],[]⟩)) _ _ s;show yr (xT ?_);show yv ⟨plainId_quiet PySem.F.plain_list_iadd _,kn entry_list_iadd' ?_⟩;rw[Xy PySem.F.plain_list_iadd _];have i:(s.heap.push { cls:=.type "list",data:=.seq ([]:List Value).toArray }).get? s.heap.objs.size=some { cls:=.type "list",data:=.seq #[] }:=yZ _ rfl;show wpAny _ A.in1 (Builtin.List.listExtendWith (.ref s.heap.objs.size) (.ref r) (.ref s.heap.objs.size)) _ _ _;have v:=kdl_extend (A:=A) (s:={ s with heap:=s.heap.push { cls:=.type "list",data:=.seq ([]:List Value).toArray } })
  (R:=fun(q:Result) (z:Shared)=>∃(h':Heap) (tk:Nat) (a:Array Value) (j:Nat),q=.ok (.ret (.ref s.heap.objs.size))/\z={ s with heap:=h',toks:=tk } /\
   (∀ b o,s.heap.get? b=some o->h'.get? b=some o)/\h'.get? s.heap.objs.size=some { cls:=.type "list",dict:=none,data:=.seq a j,slots:=#[] }/\ItemsOf P a n)
  K G (K.keep _ _ t fun b _ o e=>yw _ e) s.heap.objs.size (Yj p.1) (Yj p.2) (.ref s.heap.objs.size) 0 i
  (fun h' tk a j m g c=>⟨h',tk,a,j,rfl,rfl,fun b o e=>m b o (yT (yN e)) (yw _ e),g,c⟩) H
 show YY v (fun u z x=>?_) fun e z x=>?_
 .cases u with
  | done f =>
   obtain⟨h',tk,a,j,e,rfl,m,g,c⟩:=x;cases e;show wpAny _ A (load s.heap.objs.size>>=_) _ _ _;show yr (wpAny_load g ?_);show yv (h h' tk a m (yX (yN g)) c)
  | again c₁ =>
   show⟨x.1,kC x.2 fun q C y=>?_⟩;obtain⟨h',tk,a,j,rfl,rfl,m,g,c⟩:=y;show wpAny _ A (load s.heap.objs.size>>=_) _ _ _;show yr (wpAny_load g ?_);show yv (h h' tk a m (yX (yN g)) c)
 .obtain⟨_,_,_,_,D,_⟩:=x;cases D
theorem sort_dct{c:List (Addr×Obj)}{Y:List (Option V)}{H:Hp}{s:Shared}{Q:VK}{p:Addr}{kvs:List (Key×V)}{ss:LS}(I:Inv X c Y H s)(hc:X.calm=true)(Z:H p=some (.dK kvs))(O:kvs.map Prod.fst=ss.map Sum.inr)(E:ss.length<64)
  (q:∀(l:Addr) (us:LS),H l=none->us.Perm ss->sortedS us=true->Q (.ref l) (upd H l (.lst (us.map V.str)))):wpAny (model X.prog X.w) X.A (call (.builtin "sorted") [.ref p]) (EP X c Y Q) X.xe s:=by
 obtain⟨hz,K,vs,S,d⟩:=(show ObjOk X.prog X.w H s.heap p (.dK kvs) from I.hok p _ Z);obtain⟨ep,G⟩:=d.dictAt;have hl:kvs.length=vs.length:=S.length;have J:kvs.length=ss.length:=by have:=congrArg List.length O;simpa using this
 show Calls.call_function_entry kind_sorted plain_sorted entry_sorted (args_sorted1 _) ?_;unfold Builtin.«sorted»;show yr (m:=checkCount "sorted" 1 1 _) (yv ?_);show yr (coll_dct (PySem.W.kdl_dict (knd:=jh X.prog X.w) (kvs:=vs) (ep:=ep) K) (I.ok.hd hc) G (by rw[<- hl];show hz) fun h' tk acc P n it=>?_);obtain⟨i1,i2⟩:=it
 have hv:Vals (ss.map V.str) acc.toList:=by
  show zO (by rw[ya,<- J,hl,<- i1];simp) fun j y u h1 h2=>?_;obtain⟨k,x,B,D⟩:=i2 j u (by simpa using h2);rw[yd] at h1
  cases L:kvs[j]? with
  | none =>
   have:=List.getElem?_eq_none_iff.mp L;have C:ss[j]?=none:=List.getElem?_eq_none_iff.mpr (by lk);rw[C] at h1;cases h1
  | some kv =>
   obtain⟨q2,C,h6,h7⟩:=qbe S L;rw[B] at C;cases C;have v:kv.1=k:=h6;have h:=congrArg (fun l=>l[j]?) O;simp only[yd,L,XT] at h
   cases R:ss[j]? with
   | none=>rw[R] at h;cases h
   | some z =>
    rw[R] at h1 h;cases h1;have M:kv.1=Sum.inr z:=by injection h
    rcases qW (show qcE k u=true from D) with⟨i,t,rfl,rfl⟩ | ⟨z',t,rfl,rfl⟩
    .rw [M] at v;cases v
    .rw [M] at v;cases v;show⟨t,rfl⟩
 have r:acc.toList.length=ss.length:=by have:=hv.length;rw[ya] at this;lk
 show yr (wpAny_newList ?_ (by rw[r,YA];lk));have f:(h'.push (seqObj "list" acc.toList.toArray 0)).get? h'.objs.size=some (seqObj "list" acc.toList.toArray 0):=yZ _ rfl;have F:=qcj hv;show yr (Yz (XE slot_list_sort ⟨_,f,rfl⟩ entry_list_sort (list_sort_treeK strKind_oneLt f F.keysOf (fun T U qex e=>keyKind_strs (by rw[<- e];show F)) (by rw[r];show E) fun g hp K=>⟨_,rfl,?_⟩) (args_list_sort _)));obtain⟨us,h1,B,D⟩:=sorted_out_str F hp K;obtain⟨e,he⟩:=sortedHeap_at (out:=(arrOf g).map (·.2)) f;show yv ⟨_,rfl,⟨.ref h'.objs.size,_,I.laid (t':=tk) (a:=h'.objs.size) (h':=sortedHeap (h'.push (seqObj "list" acc.toList.toArray 0)) h'.objs.size acc.toList ((arrOf g).map (·.2))) (o:=.lst (us.map V.str)) (fun b o N=>?_) n ⟨?_,((arrOf g).map (·.2)).toList,e,qdA h1,?_⟩,rfl,q _ us (I.hok.fresh n) B D⟩⟩
 .have:=yN (P b o N);rw[sortedHeap_old (yT this) (by rw[size_push'];show Nat.lt_succ_of_lt this)];show yw _ (P b o N)
 .rw [ya,B.length_eq];show yX (qi (by lk))
 .rw [Array.toArray_toList];show he
def rSortY(K:yg):List V->Hp->VK->Prop:=fun xs H Q=>∃(p:Addr) (ss:LS),xs=[.ref p]/\(SqL K H p (ss.map V.str)\/∃ kvs,H p=some (.dK kvs)/\kvs.map Prod.fst=ss.map Sum.inr)/\ss.length<64/\∀(l:Addr) (us:LS),H l=none->us.Perm ss->sortedS us=true->Q (.ref l) (upd H l (.lst (us.map V.str)))
theorem qcm(d:X.K=K)(hc:X.calm=true):zU X (.builtin "sorted") (rSortY K):=by
 intro b s f H xs us Q I r h;obtain⟨p,ss,rfl,c,a,q⟩:=h;rcases c with c | ⟨kvs,ea,hk⟩
 .show k_sortX d b s f H _ us Q I r ⟨p,ss,rfl,c,a,q⟩
 .obtain⟨u,rfl,e⟩:=qbH r;cases e;show sort_dct I hc ea hk a q
end
end L2
namespace K50
open PySem L2 PyProof.Rows
variable{A:Str->Str->Prop}{E:XK}{G G' H H' H0 H1 H2 J J':Hp}{K:W.Frag}{Pd:Str->Prop}{S S':FS}{a b c s t u v y z:Str}{ab:Str×Str}{bar dn l' l1 l2 m1 rs rv rw rz ss wt:LS}{cw d dx l p x:Addr}{first i j m n r ri:Nat}{g:Str->Option Str}{gs ms ns:LN}{kps qs tps:LP}{kvs:List (Key×V)}{lo ol:V}{o:HO}{ps:List (LS)}{q q':Nat×Nat}{ts us:LQ}{xs ys:List V}{α β:Type}{σ:L2.St}
theorem Sr(H:Hp):L2.Same H H:=L2.Same.refl H
theorem jX{k:Nat}{A:Around}(a:Room k A):A.units+100<cLine:=by have:=a.un;lk
theorem hmR{k:Nat}{A:Around}(a:Room k A)(h:j<=k:=by decide):Room j A:=a.mono h
local macro_rules | `(tactic| walk_at "w")=>`(tactic| first
 | with_reducible refine qg0 ?_ | with_reducible refine qg1 ?_ | with_reducible refine vAsgS ?_ | with_reducible refine vIfS ?_ | with_reducible refine vRet ?_ | with_reducible refine vNext ?_ | with_reducible refine vC ?_
 | ((with_reducible refine' qgu ?hv ?_);(case hv=>rfl)) | with_reducible refine vOp ?_ | with_reducible refine vChain ?_ | with_reducible refine vNil ?_ | with_reducible refine qgv ?_ | with_reducible refine vCB ?_ | with_reducible refine vCall ?_
 | with_reducible refine vLst ?_ | with_reducible refine vTup ?_ | with_reducible refine qf2 ?_ | with_reducible refine vB ?_ | with_reducible refine vNot ?_ | with_reducible refine vAnd ?_ | with_reducible refine vOr ?_
 | with_reducible refine vAndV ?_ | with_reducible refine vOrV ?_ | with_reducible refine vNotV ?_ | with_reducible refine vYes ?_ | with_reducible refine vLeI ?_ | with_reducible refine vLeS ?_ | with_reducible refine vIsB ?_ | with_reducible refine vAddI ?_ | with_reducible refine vSl ?_ | with_reducible refine vNoPart ?_ | with_reducible refine vPart ?_ | with_reducible refine vExI ?_ | with_reducible refine vBM ?_ | with_reducible refine vBM0 ?_ | with_reducible refine qgx ?_ | with_reducible refine vFor ?_ | with_reducible refine vRng1 ?_ | with_reducible refine vAny ?_ | with_reducible refine vGN ?_ | with_reducible refine vI0 ?_ | with_reducible refine vEqI ?_ | with_reducible refine vEqB ?_ | with_reducible refine vEx ?_ | with_reducible refine vDrop ?_ | with_reducible refine vRetN ?_ | with_reducible refine vFldU ?_ | with_reducible refine vSFldU ?_ | with_reducible refine vXMake ?_ | with_reducible refine vMake ?_ | with_reducible refine vMeth ?_ | with_reducible refine vVinit ?_ | with_reducible refine vCallS ?_ | with_reducible refine vRaise ?_ | with_reducible refine vMethS ?_ | with_reducible refine vMakeS ?_ | with_reducible refine vUn ?_ | with_reducible refine vIf ?_ | with_reducible refine vRev ?_ | with_reducible refine vEnum ?_ | with_reducible refine qeR ?_ | with_reducible refine vStep ?_)
local macro_rules | `(tactic| walk_at "v")=>`(tactic| repeat walk_at "w")
local macro_rules | `(tactic| ext)=>`(tactic| walk_at "v")
local macro_rules | `(tactic| apply $e)=>`(tactic| (ext;refine $e))
def fAtt:LS:=["board","partners","rows","parents","bases","rings","waiting","longer"]
structure Txt(K:W.Frag)(mg:Str->Option Value)(cc:Nat->Addr)(cw:Addr):Prop where
 b_len:mg "len"=none
 b_int:mg "int"=none
 b_enumerate:mg "enumerate"=none
 b_all:mg "all"=none
 b_max:mg "max"=none
 b_min:mg "min"=none
 b_isinstance:mg "isinstance"=none
 b_bool:mg "bool"=none
 b_str:mg "str"=none
 b_range:mg "range"=none
 b_list:mg "list"=none
 b_tuple:mg "tuple"=none
 g_LONGEST_NAME:∃ tk,mg "LONGEST_NAME"=some (.int 6 tk)
 g_MOST_PLACES:∃ tk,mg "MOST_PLACES"=some (.int 14 tk)
 g_MOST_TIES:∃ tk,mg "MOST_TIES"=some (.int 30 tk)
 wcl:Cls K cw
 wn:NoAttr K cw "numbers"
 wo:NoAttr K cw "order"
 wr:NoAttr K cw "near"
 m_Web:mg "Web"=some (.ref cw)
 m_Forest:mg "Forest"=some (.ref (cc 9))
 fcl:Cls K (cc 9)
 fa:∀ a∈fAtt,NoAttr K (cc 9) a
 b_zip:mg "zip"=none
 b_sum:mg "sum"=none
 b_any:mg "any"=none
 b_sorted:mg "sorted"=none
theorem Ua:FnScope wq3 wq3 (qg qak):=fS
theorem Ub:FnScope wqx wqx (qg qaY):=fS
theorem u5:FnScope wqn wqn (qg qas):=fS
theorem K7:FnScope ["numbers","thing","both"] wqn (qg jD):=fS
theorem qD(a:L2.Same H H1)(hl:H1 l=none):L2.Same H (upd H1 l o):=fun c u e=>by
 have q:=a c u e;rw[qf (qJ q hl)];show q
theorem qaC(a:L2.Same H H1)(hl:H l=none):L2.Same H (upd H1 l o):=fun c u e=>by
 rw[qf (qJ e hl)];show a c u e
def sg(c:Nat):Bool:=if (!decide (([c]:LN)<("a":Str).cps.toList))=true then !decide (("z":Str).cps.toList < [c]) else false
def zX(x:Str):Bool:=if 1<=x.length/\x.length<=6 then x.cps.toList.all sg else false
theorem nameS_at{x:Str}(h:zX x=true):1<=x.length/\x.length<=6/\x.cps.toList.all sg=true:=by
 unfold zX at h;split at h
 .rename_i z;show⟨z.1,z.2,h⟩
 .cases h
structure All2{α β:Type}(R:α->β->Prop)(l:List α)(m:List β):Prop where
 len:l.length=m.length
 at_:∀(k:Nat) a b,l[k]?=some a->m[k]?=some b->R a b
theorem All2.nil{R:α->β->Prop}:All2 R [] []:=⟨rfl,fun k a b h=>by simp at h⟩
theorem All2.mono{R S:α->β->Prop}{l:List α}{m:List β}(h:All2 R l m)(f:∀ a b,R a b->S a b):All2 S l m:=⟨h.len,fun k a b x y=>f a b (h.at_ k a b x y)⟩
theorem All2.snoc{R:α->β->Prop}{l:List α}{m:List β}{x:α}{y:β}(h:All2 R l m)(r:R x y):All2 R (l++[x]) (m++[y]):=by
 show⟨by rw[yt,yt,h.len];rfl,fun k a b c d=>?_⟩;by_cases e:k<l.length
 .rw [Yg e] at c;rw[Yg (by rw[<- h.len];show e)] at d;show h.at_ k a b c d
 .rw [yO (by lk)] at c;rw[yO (by rw[<- h.len];lk)] at d
  have f:k-l.length=0:=by
   have:=(yc.mp c).1;simp at this;lk
  rw[<- h.len] at d;rw[f] at c d;cases c;cases d;show r
theorem All2.mem{R:α->β->Prop}{l:List α}{m:List β}(h:All2 R l m){x:α}(c:x∈l):∃ y∈m,R x y:=by
 obtain⟨k,b,e⟩:=xZ c;have a:k<m.length:=by rw[<- h.len];show b
 show⟨m[k],xD a,h.at_ k x m[k] (by rw[yb b,e]) (yb a)⟩
def PL(H:Hp)(l:Addr)(ts:LQ)(tps:LP):Prop:=H l=some (.lst (ts.map V.ref))/\All2 (fun t ab=>H t=some (.tup [.str ab.1,.str ab.2])) ts tps
theorem PL.same(h:PL H l ts tps)(s:L2.Same H H'):PL H' l ts tps:=⟨s _ _ h.1,h.2.mono fun _ _ z=>s _ _ z⟩
section
variable{P:Program}{w:World}{K:W.Frag}{mg:Str->Option Value}{base:Heap}{cc:Nat->Addr}{cw:Addr}{f:Addr}{fd:FuncData}
inductive spName(vs:List V)(H:Hp)(Q:VK)(E:XK):Prop|mk (x:Str) (_:vs=[.str x]) (_:zX x=true) (_:∀ H',L2.Same H H'->Q (.bl true) H')
theorem ok_name(F:Fun K "is_name" "is_name" qak f fd)(T:Txt K mg cc cw):wq7 1 f fd wq3 spName:=by
 show F.ok Ua fun _ _ _ _ H vs Q E t h=>?_
 .obtain⟨x,rfl,n,q⟩:=h;obtain⟨u,r,s⟩:=nameS_at n;show⟨_,(qc (qR (PW.pt (qbm (jk (jd (qp (qcd (K:=K) rfl) rfl T.b_isinstance Y4 (qa (pv 0) (qa (zd (v:=.ty "str") rfl T.b_str boot_str rfl) qd))))) (qah (jk (pt_chain qgQ qgQ qh (qp (jL (K:=K) rfl) rfl T.b_len YE (qa (pv 0) qd)) (qck rfl T.g_LONGEST_NAME)))))) (qe (qo jS)) qw)
 (qe (qo (qp (qf4 (K:=K) rfl rfl) rfl T.b_all boot_all (qa (q9 (sc:=qg qak) (XN:=wq3) ["sign"] 1 [] rfl rfl rfl (by room) rfl (by room)
  (qG (K:=K) rfl (pv 0)) (fun _ _ _ _=>(qm (i:=0) (show(["sign"]:LS).Nodup by room) rfl (yH rfl))) qH
  (fun _ _ _ _=>zy)
  (fun _ _ _ _=>(pe_chain qgQ qgQ jo (pv 0) jo))) qd))))),?_⟩
  apply qet (.inl (.str x)) rfl (qbd K "str" (by simp) "str" (by simp)) ?_;apply yq ?_;apply vLenS (yi r (by decide)) ?_;apply qL (fun h1=>?_) fun h1=>absurd (yD (by lk)) h1;apply qL (fun g=>by simp only[xU,Xi] at g;lk) fun g=>?_;apply comp_str (fun i ys H'=>H'=H/\ys=((x.cps.toList.take i).map sg).map V.bl) ⟨rfl,by simp⟩ (fun i c ys H' hc e=>?_) fun ys H' e=>?_
  .obtain⟨rfl,rfl⟩:=e;apply qad ?_;ext
   have hl:(List.map V.bl (List.map sg (List.take i x.cps.toList))).length<sizeLine:=by
    rw[ya,ya,yQ];show qi (yi (kO _ _) (by simpa [Str.length] using(show x.length<=1000 by lk)))
   have a:∀ b,b=sg c->(List.map V.bl (List.map sg (List.take i x.cps.toList)))++[V.bl b]=List.map V.bl (List.map sg (List.take (i+1) x.cps.toList)):=by
    intro b m;have j:x.cps.toList[i]?=some c:=by simpa using hc
    rw[m,yK,j];simp
   show qL (fun d=>?_) fun d=>⟨hl,rfl,a _ (by unfold sg;rw[yB d])⟩;apply⟨hl,rfl,a _ (by unfold sg;rw[yG d])⟩
  .obtain⟨rfl,rfl⟩:=e;have p:x.cps.toList.take x.cps.size=x.cps.toList:=by rw[<- xW,yP]
   rw[p];show⟨?_,fun l hl=>?_⟩
   .rw [ya,ya];show yX (qi (by simpa [Str.length] using(show x.length<=1000 by lk)))
   .ext;show⟨l,x.cps.toList.map sg,rfl,SqL.of qb,?_⟩;have z:=q _ (qD (Sr H') (o:=.lst ((x.cps.toList.map sg).map V.bl)) hl);rw[kZ];rw[<- s] at z;show z
inductive spBit(vs:List V)(H:Hp)(Q:VK)(E:XK):Prop|mk (b n:Int) (_:vs=[.int b,.int n]) (_:0<=n) (_:Q (.bl (decide (Builtin.bitAnd (b / 2 ^ n.toNat) 1=1))) H)
theorem ok_bit(F:Fun K "has_bit" "has_bit" qaY f fd):wq7 1 f fd wqx spBit:=by
 show F.ok Ub fun _ _ _ _ H vs Q E c h=>?_
 .obtain⟨b,n,rfl,a,q⟩:=h;have d:=jX c;show⟨_,(qe (qo (ze (jx (K:=K) rfl d) (qu jT (qu qbj (pv 0) (pv 1)) qh) qh (qx _)))),?_⟩;apply vI a ?_;apply .inl (.inl (.inl ⟨rfl,rfl,?_⟩));show q
def qb1:LS->Nat->List (Key×V)
 | [],_=>[]
 | s::r,i=>(.inr s,.int i)::qb1 r (i+1)
theorem qc8(y:Str):∀(ss:LS) (i:Nat),qb1 (ss++[y]) i=qb1 ss i++[(.inr y,.int (i+ss.length:Nat))]
 | [],i=>rfl
 | s::r,i=>by
  show(_::qb1 (r++[y]) (i+1))=_::(qb1 r (i+1)++_);rw[qc8 y r (i+1)];have:i+1+r.length=i+(s::r).length:=by simp;lk
  rw[this]
theorem zY:∀(ss:LS) (i:Nat),(qb1 ss i).length=ss.length
 | [],_=>rfl
 | _::r,i=>congrArg (· + 1) (zY r (i+1))
theorem qbS:∀{ss:LS} {i:Nat},y∉ss->jZ (qb1 ss i) (.inr y:Key)=none
 | [],_,_=>rfl
 | s::r,i,h=>by
  have h1:¬ s=y:=fun e=>h (by rw[e];show yU);show jZ ((.inr s,V.int i)::qb1 r (i+1)) _=none;rw[qZ (p:=((.inr s:Key),V.int i)) (fun e=>h1 (xn e))];show qbS fun m=>h (yC _ m)
theorem j7:∀{ss:LS} {i:Nat},y∈ss->∃ j,j<ss.length/\ss[j]?=some y/\jZ (qb1 ss i) (.inr y:Key)=some (.int (i+j:Nat))
 | [],_,h=>by cases h
 | s::r,i,h=>by
  by_cases e:s=y
  .subst e;show⟨0,by simp,rfl,ji (p:=((.inr s:Key),V.int i)) rfl⟩
  .rcases yx.mp h with z | z
   .show absurd z.symm e
   .obtain⟨j,h1,b,c⟩:=j7 (i:=i+1) z;show⟨j+1,by simp;lk,by simpa using b,?_⟩;show jZ ((.inr s,V.int i)::qb1 r (i+1)) _=_;rw[qZ (p:=((.inr s:Key),V.int i)) (fun a=>e (xn a)),c];have:i+1+j=i+(j+1):=by lk
    rw[this]
theorem qbT(y:Str)(ss:LS)(i:Nat):(jZ (qb1 ss i) (.inr y:Key)).isSome=decide (y∈ss):=by
 by_cases h:y∈ss
 .obtain⟨j,_,_,e⟩:=j7 (i:=i) h;rw[e,yD h];rfl
 .rw [qbS h,yl h];rfl
inductive spPlace(vs:List V)(H:Hp)(Q:VK)(E:XK):Prop|mk (d:Addr) (ss:LS) (x:Str) (_:vs=[.ref d,.str x]) (_:H d=some (.dK (qb1 ss 0))) (_:zX x=true) (_:x∈ss) (_:∀ H',L2.Same H H'->Q (.bl true) H')
theorem ok_place(F:Fun K "is_place" "is_place" qas f fd)(j:wq5 1 "is_name" wq3 spName):wq7 2 f fd wqn spPlace:=by
 show F.ok u5 fun _ _ _ _ H vs Q E a h=>?_
 .obtain⟨d,ss,x,rfl,c,e,i,q⟩:=h;have g:=jX a;show⟨_,(qe (qo (qcH (qq j (hmR a) qA (qa (pv 1) qd)) (qcG (ze (qae (K:=K) rfl g) (pv 1) (pv 0) (by with_unfolding_all rfl)))))),?_⟩;apply⟨x,rfl,e,fun H1 b=>?_⟩;apply qad ?_;apply .inr (.inl ⟨d,_,rfl,DGet.k (k:=Sum.inr x) (b d _ c),?_⟩);rw[qbT,yD i];show q H1 b
inductive spTwo(vs:List V)(H:Hp)(Q:VK)(E:XK):Prop|mk (d t:Addr) (ss:LS) (a b:Str) (_:vs=[.ref d,.ref t]) (_:H d=some (.dK (qb1 ss 0))) (_:H t=some (.tup [.str a,.str b])) (_:zX a=true) (_:zX b=true) (_:a∈ss) (_:b∈ss) (_:a≠b) (_:∀ H',L2.Same H H'->Q (.bl true) H')
theorem ok_two(F:Fun K "are_two_places" "are_two_places" jD f fd)(T:Txt K mg cc cw)(o:wq5 2 "is_place" wqn spPlace):wq7 3 f fd wqn spTwo:=by
 show F.ok K7 fun _ _ _ _ H vs Q E m h=>?_
 .obtain⟨d,t,ss,a,b,rfl,p,c,u,x,r,s,l,q⟩:=h;have g:=jX m;show⟨_,(qc (qR (PW.pt (qbm (jk (jd (qp (qcd (K:=K) rfl) rfl T.b_isinstance Y4 (qa (pv 1) (qa (zd (v:=.ty "tuple") rfl T.b_tuple boot_tuple rfl) qd))))) (qah (qj (qaj (K:=K) rfl g) (qp (jL (K:=K) rfl) rfl T.b_len YE (qa (pv 1) qd)) qh (qx _))))) (qe (qo jS)) qw)
 (qc (qk (i:=2) K7.nd rfl (yH rfl) (qcH (qq o (hmR m) qA (qa (pv 0) (qa (qr (qt (K:=K) rfl g) (pv 1) qh (fun _ _=>rfl)) qd))) (qcG (qq o (hmR m) qA (qa (pv 0) (qa (qr (qt (K:=K) rfl g) (pv 1) qh (fun _ _=>rfl)) qd))))))
 (qe (qo (qcH (pv 2) (qcG (ze (qaj (K:=K) rfl g) (qr (qt (K:=K) rfl g) (pv 1) qh (fun _ _=>rfl)) (qr (qt (K:=K) rfl g) (pv 1) qh (fun _ _=>rfl)) (qx _)))))))),?_⟩
  apply qet (.inl (.tup c)) rfl (qbd K "tuple" (by simp) "tuple" (by simp)) ?_;apply yq ?_;apply qgw c ?_;apply .inl ⟨rfl,rfl,?_⟩;apply yq ?_;apply .inl (qaV c rfl ?_);apply⟨d,ss,a,rfl,p,u,r,fun H1 j=>?_⟩;apply qad ?_;apply .inl (qaV (j _ _ c) rfl ?_);apply⟨d,ss,b,rfl,j _ _ p,x,s,fun H2 n=>?_⟩;apply qad ?_;apply .inl (qaV (n _ _ (j _ _ c)) rfl ?_);apply .inl (qaV (n _ _ (j _ _ c)) rfl ?_);show .inl ⟨rfl,rfl,?_⟩;have z:=q H2 (j.trans n);have e:(if true=true then !eqV (V.str a) (V.str b) else eqV (V.str a) (V.str b))=true:=by simp[eqV,l]
  rw[e];show z
theorem K4:FnScope ["names","numbers","name"] ["names"] (qg zA):=fS
theorem zZ(m j:Nat):decide (Builtin.bitAnd ((m:Int) / 2 ^ (j:Int).toNat) 1=1)=m.testBit j:=by
 rw[X3,Nat.testBit_eq_decide_div_mod_eq];rw[y0];have e:(m:Int) / 2 ^ j=((m / 2 ^ j:Nat):Int):=by rw[Int.natCast_ediv,xO];rfl
 rw[e]
 congr 1
 apply propext;lk
theorem qd7(m j:Nat):Builtin.bitOr (m:Int) (1*2 ^ (j:Int).toNat)=((m ||| 2 ^ j:Nat):Int):=by
 have e:(1*2 ^ (j:Int).toNat:Int)=((2 ^ j:Nat):Int):=by rw[y0,kI,xO];rfl
 rw[e];generalize 2 ^ j=k;have c:Builtin.bitNot (m:Int)=-(m:Int)-1:=rfl;have d:Builtin.bitNot (k:Int)=-(k:Int)-1:=rfl;unfold Builtin.bitOr Builtin.bitAnd;rw[c,d,yl (by lk),yl (by lk)];dsimp only;unfold Builtin.bitNot;have a:(-(-(m:Int)-1)-1).toNat=m:=by lk
 have b:(-(-(k:Int)-1)-1).toNat=k:=by lk
 rw[a,b];lk
def But(x:Addr)(H H':Hp):Prop:=∀ b o,b≠x->H b=some o->H' b=some o
theorem But.refl(x:Addr)(H:Hp):But x H H:=fun _ _ _ e=>e
theorem But.same(a:But x H H1)(b:L2.Same H1 H2):But x H H2:=fun c o n e=>b c o (a c o n e)
theorem But.put(a:But x H H1):But x H (upd H1 x o):=fun c u n e=>by rw[qf n];show a c u n e
theorem But.new(a:But x H H1)(hl:H1 l=none):But x H (upd H1 l o):=a.same (qD (Sr H1) hl)
theorem qdB{a q:Addr}{Q:VK}(h:H a=some (.lst xs))(b:H q=some (.tup [.ty "list",.ty "tuple"]))(k:Q (.bl true) H):qfF K [.ref a,.ref q] H Q:=
 ⟨_,q,_,_,[.type "list",.type "tuple"],true,rfl,.inl (.lst h),b,rfl,rfl,k⟩
inductive spNums(vs:List V)(H:Hp)(Q:VK)(E:XK):Prop|mk (a:Addr) (ss:LS) (_:vs=[.ref a]) (_:H a=some (.lst (ss.map V.str))) (_:ss.length<=14) (_:ss.Nodup) (_:(∀ s∈ss,zX s=true)) (_:∀ d H',L2.Same H H'->H d=none->H' d=some (.dK (qb1 ss 0))->Q (.ref d) H')
theorem ok_nums(F:Fun K "numbers_of" "numbers_of" zA f fd)(T:Txt K mg cc cw)(R:wq5 1 "is_name" wq3 spName) :
  wq7 4 f fd ["names"] spNums:=by
 show F.ok K4 fun _ _ _ _ H vs Q E D h=>?_
 .obtain⟨a,ss,rfl,l,L,p,r,q⟩:=h;have G:=jX D;show⟨_,(qc (qR (jk (jd (qp (qdv (K:=K) rfl) rfl T.b_isinstance Y4 (qa (pv 0) (qa (jU (qa (zd (v:=.ty "list") rfl T.b_list Xu rfl) (qa (zd (v:=.ty "tuple") rfl T.b_tuple boot_tuple rfl) qd))) qd))))) (qe jr) qw)
 (qc (qR (qj qfq (qp (jL (K:=K) rfl) rfl T.b_len YE (qa (pv 0) qd)) (qck rfl T.g_MOST_PLACES) (qx _)) (qe jr) qw)
 (qc (qk (i:=1) K4.nd rfl (yH rfl) j0)
 (qc (qX yS rfl (qG (K:=K) rfl (pv 0)) (qm (i:=2) K4.nd rfl (yH rfl))
 (qc (qR (jk (jd (qq R (hmR D) qA (qa (pv 2) qd)))) (qe jr) qw)
 (qc (qR (qj (qae (K:=K) rfl G) (pv 2) (pv 1) (by with_unfolding_all rfl)) (qe jr) qw)
 (qe (jI (qp (jL (K:=K) rfl) rfl T.b_len YE (qa (pv 1) qd)) (jH (pv 1) (pv 2) (jJ G)))))))
 (qe (qo (pv 1))))))),?_⟩
  apply⟨wqqb,fun g M=>?_⟩;have m:=qD (Sr H) (o:=.tup [.ty "list",.ty "tuple"]) M;apply qdB (m _ _ l) qb ?_;apply yq ?_;apply zq (m _ _ l) ?_;rw[ya];apply qL (fun h=>by have:=yk h;lk) fun _=>?_;ext;intro d B;have J:=qD m (o:=.dK []) B;have c:H d=none:=m.free B;apply .inl ⟨⟨_,SqL.of (J _ _ l)⟩,qQ (K:=K) (fun i σ H'=>∃ u,σ=[some (.ref a),some (.ref d),u]/\L2.Same H H'/\H' d=some (.dK (qb1 (ss.take i) 0))) ⟨none,rfl,J,qb⟩ (fun i σ H' _ e=>by obtain⟨_,_,z,_⟩:=e;show SqL.of (z _ _ l)) (fun i y σ H' I e=>?_) fun σ H' e=>?_⟩
  .obtain⟨u,rfl,t,b⟩:=e;rw[yd] at I;obtain⟨x,s,rfl⟩:=yn.mp I;have N:i<ss.length:=(yc.mp s).1;have j:ss.take (i+1)=ss.take i++[x]:=by rw[yK,s];rfl
   have C:x∉ss.take i:=fun z=>by
    have A:(ss.take (i+1)).Nodup:=p.sublist (X0 _ _);rw[j] at A;show(Yi.mp A).2.2 _ z x (by simp) rfl
   apply⟨x,rfl,r x (ye s),fun H1 n=>?_⟩;have O:=t.trans n;apply yq ?_;apply .inr (.inl ⟨d,_,rfl,DGet.k (k:=Sum.inr x) (n _ _ b),?_⟩);rw[qbT,yl C];apply yq ?_;apply .inr ⟨_,n _ _ b,?_⟩;apply .inr ⟨d,_,rfl,DPut.k (k:=Sum.inr x) (n _ _ b) (qi (by rw[zY,yQ];lk)),?_⟩;show⟨_,rfl,qaC O c,?_⟩;rw[qb,qaQ _ (qbS C),j,qc8,zY];simp only[xA]
  .obtain⟨u,rfl,t,b⟩:=e;ext;rw[ya,yP] at b;show q d H' t c b
theorem u6:FnScope wqu wqu (qg qat):=fS
theorem KQ:FnScope ["numbers","ties","near","tie","one","other"] wq4 (qg qaZ):=fS
def qbU(ss:LS)(ns:LN)(c:LP):Prop:=ns.length=ss.length/\(∀ a,ns.getD a 0<2 ^ ss.length)/\∀ a b s t,ss[a]?=some s->ss[b]?=some t->(ns.getD a 0).testBit b=decide ((s,t)∈c\/(t,s)∈c)
theorem qy(h:ss.Nodup){a b:Nat}(i:ss[a]?=some s)(j:ss[b]?=some s):a=b:=by
 have e:=Y6.mp h;obtain⟨f,c⟩:=yc.mp i;obtain⟨g,d⟩:=yc.mp j;rcases xv a b with q | q | q
 .show absurd (c.trans d.symm) (e a b f g q)
 .show q
 .show absurd (d.trans c.symm) (e b a g f q)
theorem bits_zero:qbU ss (List.replicate ss.length 0) []:=by
 have z:∀ a,(List.replicate ss.length 0).getD a 0=0:=fun a=>by
  simp only[List.getD,Xc];split<;>rfl
 show⟨by simp,fun a=>by rw[z a];show Xq _,fun a b s t c d=>?_⟩;rw[z a];simp
theorem zB{v:Nat}(h:i<ns.length):(ns.set i v).getD j 0=if i=j then v else ns.getD j 0:=by
 simp only[List.getD,List.getElem?_set];by_cases e:i=j
 .subst e;simp[h]
 .simp [e]
theorem bits_step{f:LP}(D:qbU ss ns f)(o:ss.Nodup)(d:ss[i]?=some s)(l:ss[j]?=some t)(n:s≠t) :
  qbU ss ((ns.set i (ns.getD i 0 ||| 2 ^ j)).set j (ns.getD j 0 ||| 2 ^ i)) (f++[(s,t)]):=by
 obtain⟨hl,m,h⟩:=D;have B:i<ns.length:=by rw[hl];show(yc.mp d).1
 have C:j<ns.length:=by rw[hl];show(yc.mp l).1
 have F:i≠j:=fun e=>by rw[e,l] at d;cases d;show n rfl
 have y:i<ss.length:=(yc.mp d).1;have A:j<ss.length:=(yc.mp l).1;show⟨by simp[hl],fun a=>?_,fun a b u v g c=>?_⟩
 .rw [zB (by simpa using C),zB B];split
  .show xw (m _) (xp (by decide) y)
  .split
   .show xw (m _) (xp (by decide) A)
   .show m _
 rw[zB (by simpa using C),zB B];have p:=h a b u v g c;have E:∀ P Q:Prop,(P↔Q)->∀ [Decidable P] [Decidable Q],decide P=decide Q:=fun P Q e=>by intro _ _;show Yq.mpr e
 by_cases w:j=a
 .subst w;rw[l] at g;cases g;rw[yG rfl,YO,p,Yl];by_cases r:i=b
  .subst r;rw[d] at c;cases c;simp
  .have vs:v≠s:=fun e=>by subst e;show r (qy o d c)
   simp only[r,Ki,kK];apply Yq.mpr;simp only[yA,yy,XS];constructor
   .rintro (z | z)
    .show .inl (.inl z)
    .show .inr (.inl z)
   .rintro ((z | ⟨z,_⟩) | (z | ⟨z,_⟩))
    .show .inl z
    .show absurd z.symm n
    .show .inr z
    .show absurd z vs
 .rw [yB w];by_cases q:i=a
  .subst q;rw[d] at g;cases g;rw[yG rfl,YO,p,Yl];by_cases x:j=b
   .subst x;rw[l] at c;cases c;simp
   .have H:v≠t:=fun e=>by subst e;show x (qy o l c)
    simp only[x,Ki,kK];apply Yq.mpr;simp only[yA,yy,XS];constructor
    .rintro (z | z)
     .show .inl (.inl z)
     .show .inr (.inl z)
    .rintro ((z | ⟨_,z⟩) | (z | ⟨_,z⟩))
     .show .inl z
     .show absurd z H
     .show .inr z
     .show absurd z n
  .rw [yB q,p];have us:u≠s:=fun e=>by subst e;show q (qy o d g)
   have G:u≠t:=fun e=>by subst e;show w (qy o l g)
   apply Yq.mpr;simp only[yA,yy,XS];constructor
   .rintro (z | z)
    .show .inl (.inl z)
    .show .inr (.inl z)
   .rintro ((z | ⟨z,_⟩) | (z | ⟨_,z⟩))
    .show .inl z
    .show absurd z us
    .show .inr z
    .show absurd z G
def zC(ns:LN):List V:=ns.map fun(n:Nat)=>.int (n:Int)
theorem ju(h:i<ns.length):(zC ns)[i]?=some (.int (ns.getD i 0:Nat)):=by
 unfold zC;rw[yd,yb h];simp[List.getD,h]
theorem qbq(ns:LN)(i m:Nat):(zC ns).set i (.int m)=zC (ns.set i m):=by
 unfold zC;rw[List.map_set]
theorem qc9(k:Nat):(List.replicate k [V.int 0]).flatten=zC (List.replicate k 0):=by
 induction k with
 | zero=>rfl
 | succ k ih=>rw[xy,xr,ih];rfl
theorem qcn(h:j<n):ixN n (j:Int)=some j:=by
 unfold ixN;rw[yG (by lk),yG (by lk)];rfl
def UN(x y:Str×Str):Prop:=x≠y/\x≠(y.2,y.1)
structure TGo(ss:LS)(tps:LP):Prop where
 few:tps.length<=30
 inn:∀ ab∈tps,ab.1∈ss/\ab.2∈ss/\ab.1≠ab.2
 un:tps.Pairwise UN
structure WOk(ss:LS)(ns:LN):Prop where
 len:ns.length=ss.length
 few:ss.length<=14
 nd:ss.Nodup
 lt:∀ a,ns.getD a 0<2 ^ ss.length
 nm:∀ s∈ss,zX s=true
inductive WebAt(cw:Addr)(H:Hp)(x:Addr)(ss:LS)(ns:LN):Prop|mk (dx d ol n:_) (_:H x=some (.ins cw dx (qI "near" (.ref n) (qI "order" (.ref ol) (qI "numbers" (.ref d) []))))) (_:H d=some (.dK (qb1 ss 0))) (_:H ol=some (.lst (ss.map V.str))) (_:H n=some (.lst (zC ns))) (_:WOk ss ns)
theorem WebAt.same(h:WebAt cw H x ss ns)(s:L2.Same H H'):WebAt cw H' x ss ns:=by
 obtain⟨dx,d,ol,n,h1,a,b,c,e⟩:=h;show⟨dx,d,ol,n,s _ _ h1,s _ _ a,s _ _ b,s _ _ c,e⟩
inductive WebN(H0:Hp)(cw:Addr)(H:Hp)(x:Addr)(ss:LS)(ns:LN):Prop|mk (dx d ol n:_) (_:H x=some (.ins cw dx (qI "near" (.ref n) (qI "order" (.ref ol) (qI "numbers" (.ref d) []))))) (_:H d=some (.dK (qb1 ss 0))) (_:H ol=some (.lst (ss.map V.str))) (_:H n=some (.lst (zC ns))) (_:WOk ss ns) (_:H0 d=none) (_:H0 ol=none) (_:H0 n=none)
theorem WebN.web(h:WebN H0 cw H x ss ns):WebAt cw H x ss ns:=by
 obtain⟨dx,d,ol,n,h1,a,b,c,e,_⟩:=h;show⟨dx,d,ol,n,h1,a,b,c,e⟩
inductive WebP(A:Addr->Prop)(cw:Addr)(H:Hp)(x:Addr)(ss:LS)(ns:LN):Prop|mk (dx d ol n:_) (_:H x=some (.ins cw dx (qI "near" (.ref n) (qI "order" (.ref ol) (qI "numbers" (.ref d) []))))) (_:H d=some (.dK (qb1 ss 0))) (_:H ol=some (.lst (ss.map V.str))) (_:H n=some (.lst (zC ns))) (_:WOk ss ns) (_:¬ A x) (_:¬ A d) (_:¬ A ol) (_:¬ A n)
theorem WebP.web{A:Addr->Prop}(h:WebP A cw H x ss ns):WebAt cw H x ss ns:=by
 obtain⟨dx,d,ol,n,h1,a,b,c,e,_⟩:=h;show⟨dx,d,ol,n,h1,a,b,c,e⟩
theorem WebP.keep{A:Addr->Prop}(h:WebP A cw H x ss ns)(k:∀ b o,¬ A b->H b=some o->H' b=some o):WebP A cw H' x ss ns:=by
 obtain⟨dx,d,ol,n,h1,g,i,j,l,a,c,e,f⟩:=h;show⟨dx,d,ol,n,k _ _ a h1,k _ _ c g,k _ _ e i,k _ _ f j,l,a,c,e,f⟩
theorem WebN.apart{A:Addr->Prop}(h:WebN H0 cw H x ss ns)(m:¬ A x)(b:∀ a,A a->H0 a≠none):WebP A cw H x ss ns:=by
 obtain⟨dx,d,ol,n,h1,g,i,j,l,c,e,f⟩:=h;show⟨dx,d,ol,n,h1,g,i,j,l,m,fun z=>b _ z c,fun z=>b _ z e,fun z=>b _ z f⟩
theorem qda:∀(ss:LS) (i:Nat),(qb1 ss i).map (fun a=>kV a.1)=ss.map V.str
 | [],_=>rfl
 | s::r,i=>congrArg (V.str s::·) (qda r (i+1))
inductive spNear(vs:List V)(H:Hp)(Q:VK)(E:XK):Prop|mk (d l:Addr) (ss:LS) (ts:LQ) (tps:LP) (_:vs=[.ref d,.ref l]) (_:H d=some (.dK (qb1 ss 0))) (_:ss.length<=14) (_:ss.Nodup) (_:(∀ s∈ss,zX s=true)) (_:PL H l ts tps) (_:TGo ss tps) (_:∀ n ns H',L2.Same H H'->H n=none->H' n=some (.lst (zC ns))->qbU ss ns tps->Q (.ref n) H')
theorem ok_near(F:Fun K "near_of" "near_of" qaZ f fd)(T:Txt K mg cc cw)(KN:wq5 3 "are_two_places" wqn spTwo)(KA:wq5 1 "has_bit" wqx spBit) :
  wq7 4 f fd wq4 spNear:=by
 show F.ok KQ fun _ _ _ _ H vs Q E hr h=>?_
 .obtain⟨d,l,ss,ts,tps,rfl,W,ai,ae,G,⟨hl,D⟩,Y,q⟩:=h;have j:=jX hr;have L:=D.len;have few:=Y.few;show⟨_,(qc (qR (jk (jd (qp (qdv (K:=K) rfl) rfl T.b_isinstance Y4 (qa (pv 1) (qa (jU (qa (zd (v:=.ty "list") rfl T.b_list Xu rfl) (qa (zd (v:=.ty "tuple") rfl T.b_tuple boot_tuple rfl) qd))) qd))))) (qe jr) qw)
 (qc (qR (qj qfq (qp (jL (K:=K) rfl) rfl T.b_len YE (qa (pv 1) qd)) (qck rfl T.g_MOST_TIES) (qx _)) (qe jr) qw)
 (qc (qk (i:=2) KQ.nd rfl (yH rfl) (qu qeL (qS (qa qh qd)) (qp (jL (K:=K) rfl) rfl T.b_len YE (qa (pv 0) qd))))
 (qc (qX yS rfl (qG (K:=K) rfl (pv 1)) (qm (i:=3) KQ.nd rfl (yH rfl))
 (qc (qR (jk (jd (qq KN (hmR hr) qA (qa (pv 0) (qa (pv 3) qd))))) (qe jr) qw)
 (qc (qk (i:=4) KQ.nd rfl (yH rfl) (qr (qt (K:=K) rfl j) (pv 0) (qr (qt (K:=K) rfl j) (pv 3) qh (fun _ _=>rfl)) (fun _ _=>rfl)))
 (qc (qk (i:=5) KQ.nd rfl (yH rfl) (qr (qt (K:=K) rfl j) (pv 0) (qr (qt (K:=K) rfl j) (pv 3) qh (fun _ _=>rfl)) (fun _ _=>rfl)))
 (qc (qR (jd (qq KA (hmR hr) qA (qa (qr (qt (K:=K) rfl j) (pv 2) (pv 4) (fun _ _=>rfl)) (qa (pv 5) qd)))) (qe jr) qw)
 (qc (jI (qu qdq (qr (qt (K:=K) rfl j) (pv 2) (pv 4) (fun _ _=>rfl)) (qu zv qh (pv 5))) (jH (pv 2) (pv 4) (jJ j)))
 (qe (jI (qu qdq (qr (qt (K:=K) rfl j) (pv 2) (pv 5) (fun _ _=>rfl)) (qu zv qh (pv 4))) (jH (pv 2) (pv 5) (jJ j))))))))))
 (qe (qo (pv 2))))))),?_⟩
  apply⟨wqqb,fun g Z=>?_⟩;have s0:=qD (Sr H) (o:=.tup [.ty "list",.ty "tuple"]) Z;apply qdB (s0 _ _ hl) qb ?_;apply yq ?_;apply zq (s0 _ _ hl) ?_;rw[ya];apply qL (fun h=>by have:=yk h;lk) fun _=>?_;apply⟨wqqa,fun z ag=>?_⟩;have s1:=qD s0 (o:=.lst [.int 0]) ag;apply .inr ⟨_,s1 _ _ W,?_⟩;ext;rw[zY];show⟨z,_,_,rfl,rfl,qb,by lk,by lk,by show 1*_<=sizeLine;rw[y0];show yX (qi (by lk)),fun n hn=>?_⟩;rw[y0,qc9];have s2:=qD s1 (o:=.lst (zC (List.replicate ss.length 0))) hn;have n0:H n=none:=s1.free hn;apply .inl ⟨⟨_,SqL.of (s2 _ _ hl)⟩,qQ (K:=K) (fun i σ H'=>∃ v3 v4 v5 ns,σ=[some (.ref d),some (.ref l),some (.ref n),v3,v4,v5]/\L2.Same H H'/\H' n=some (.lst (zC ns))/\qbU ss ns (tps.take i))
   ⟨none,none,none,_,rfl,s2,qb,bits_zero⟩ (fun i σ H' _ I=>by obtain⟨_,_,_,_,_,z,_⟩:=I;show SqL.of (z _ _ hl)) (fun i y σ H' hy I=>?_) fun σ H' I=>?_⟩
  .obtain⟨v3,v4,v5,ns,rfl,N,A,a⟩:=I;rw[yd] at hy;obtain⟨t,ht,rfl⟩:=yn.mp hy;have aa:i<ts.length:=(yc.mp ht).1;obtain⟨⟨p,r⟩,u⟩:∃ ab,tps[i]?=some ab:=⟨_,yb (by rw[<- L];show aa)⟩;have U:=D.at_ i t _ ht u;obtain⟨m1,X,c⟩:=Y.inn _ (ye u);dsimp only at U m1 X c;have J:tps.take (i+1)=tps.take i++[(p,r)]:=by rw[yK,u];rfl
   have af:¬ ((p,r)∈tps.take i\/(r,p)∈tps.take i):=fun z=>by
    have h3:(tps.take (i+1)).Pairwise UN:=Y.un.sublist (X0 _ _);rw[J] at h3;have h4:=(List.pairwise_append.mp h3).2.2;rcases z with z | z
    .show(h4 _ z (p,r) (by simp)).1 rfl
    .show(h4 _ z (p,r) (by simp)).2 rfl
   obtain⟨C,ac,b,R⟩:=j7 (i:=0) m1;obtain⟨B,ad,s,S⟩:=j7 (i:=0) X;rw[xA] at R S;have ah:C≠B:=fun e=>by rw[e,s] at b;cases b;show c rfl
   have m:C<ns.length:=by rw[a.1];show ac
   have M:B<ns.length:=by rw[a.1];show ad
   apply⟨d,t,ss,p,r,rfl,N _ _ W,N _ _ U,G _ m1,G _ X,m1,X,c,fun H1 t1=>?_⟩;have O:=N.trans t1;have x:=t1 _ _ A;apply yq ?_;apply .inl (qaV (O _ _ U) rfl ?_);show .inr ⟨d,.int C,rfl,?_,?_⟩
   .have:=DGet.k (k:=Sum.inr p) (O _ _ W);rw[R] at this;show this
   apply .inl (qaV (O _ _ U) rfl ?_);show .inr ⟨d,.int B,rfl,?_,?_⟩
   .have:=DGet.k (k:=Sum.inr r) (O _ _ W);rw[S] at this;show this
   apply .inl (zN x (qv (ju m)) ?_);apply⟨_,_,rfl,by lk,?_⟩;rw[zZ,a.2.2 C B p r b s,yl af];apply yq ?_;apply .inl (zN x (qv (ju m)) ?_);apply vI ⟨by lk,by lk,by decide⟩ ?_;ext;rw[qd7];show .inl (qer x (qcn (by unfold zC;rw[ya];show m)) ?_);rw[qbq];ext;have e2:(ns.set C (ns.getD C 0 ||| 2 ^ B)).getD B 0=ns.getD B 0:=by rw[zB m,yB ah]
   show .inl (zN qb (qv (ju (by simpa using M))) ?_);apply vI ⟨by lk,by lk,by decide⟩ ?_;ext;rw[qd7,e2];show .inl (qer qb (qcn (by unfold zC;rw[ya];simpa using M)) ?_);rw[qbq];show⟨_,_,_,_,rfl,qaC (qaC O n0) n0,qb,?_⟩;rw[J];show bits_step a ae b s c
  .obtain⟨v3,v4,v5,ns,rfl,N,A,a⟩:=I;ext;rw[ya,L,yP] at a;show q n _ H' N n0 A a
inductive spWeb(cw:Addr)(vs:List V)(H:Hp)(Q:VK)(E:XK):Prop|mk (x dx a l:Addr) (ss:LS) (ts:LQ) (tps:LP) (_:vs=[.ref x,.ref a,.ref l]) (_:H x=some (.ins cw dx [])) (_:H a=some (.lst (ss.map V.str))) (_:ss.length<=14) (_:ss.Nodup) (_:(∀ s∈ss,zX s=true)) (_:PL H l ts tps) (_:TGo ss tps) (_:∀ ns H',But x H H'->WebN H cw H' x ss ns->qbU ss ns tps->Q .non H')
theorem PL.but{C:Addr}{fs:List (Str×V)}(h:PL H l ts tps)(a:H x=some (.ins C dx fs))(b:But x H H'):PL H' l ts tps:=
 ⟨b _ _ (qaL h.1 a (by intro z;cases z)) h.1,h.2.mono fun t ab e=>b _ _ (qaL e a (by intro z;cases z)) e⟩
theorem ok_web(F:Fun K "__init__" "Web.__init__" qat f fd)(T:Txt K mg cc cw)(uX:wq5 4 "numbers_of" ["names"] spNums)(X:wq5 4 "near_of" wq4 spNear) :
  wq7 5 f fd wqu (spWeb cw):=by
 show F.ok u6 fun _ _ _ _ H vs Q E N h=>?_
 .obtain⟨x,dx,a,l,ss,ts,tps,rfl,U,ha,j,nd,p,M,hg,q⟩:=h;have hu:=jX N;show⟨_,(qc (zf (K:=K) rfl (pv 0) (qq uX (hmR N) qA (qa (pv 1) qd)) rfl)
 (qc (zf (K:=K) rfl (pv 0) (qaO (qcl (K:=K) rfl rfl) rfl T.b_list Xu (qa (qB (K:=K) rfl (pv 0) rfl) qd)) rfl)
 (qe (zf (K:=K) rfl (pv 0) (qq X (hmR N) qA (qa (qB (K:=K) rfl (pv 0) rfl) (qa (pv 2) qd))) rfl)))),?_⟩
  apply⟨a,ss,rfl,ha,j,nd,p,fun d H1 W L R=>?_⟩;have Y:=(But.refl x H).same W;have A:=W _ _ U;have r:d≠x:=qaL R A (by intro z;cases z);apply .inl ⟨x,cw,dx,[],rfl,A,T.wcl,T.wn,by decide,?_⟩;have J:=Y.put (o:=.ins cw dx (qI "numbers" (.ref d) []));have g:upd H1 x (.ins cw dx (qI "numbers" (.ref d) [])) d=some (.dK (qb1 ss 0)):=by rw[qf r];show R
  have c:upd H1 x (.ins cw dx (qI "numbers" (.ref d) [])) x=_:=qb;generalize upd H1 x (.ins cw dx (qI "numbers" (.ref d) []))=H2 at J g c;apply .inl ⟨x,cw,dx,_,.ref d,rfl,c,T.wcl,T.wn,by rw[qC,yG rfl],?_⟩;apply .inr (.inl ⟨d,_,rfl,g,fun ol s=>?_⟩);rw[qda];have G:ol≠x:=fun e=>by subst e;rw[c] at s;cases s
  have Z:=J.new (o:=.lst (ss.map V.str)) s
  have y:H ol=none:=by
   cases q':H ol with
   | none=>rfl
   | some o'=>rw[J ol o' G q'] at s;cases s
  have O:d≠ol:=qJ g s;apply .inl ⟨x,cw,dx,_,rfl,(by rw[qf G.symm];show c),T.wcl,T.wo,Yp (jE _ _ _) (by decide),?_⟩;have D:=Z.put (o:=.ins cw dx (qI "order" (.ref ol) (qI "numbers" (.ref d) [])));have m:upd (upd H2 ol (.lst (ss.map V.str))) x (.ins cw dx (qI "order" (.ref ol) (qI "numbers" (.ref d) []))) d=some (.dK (qb1 ss 0)):=by rw[qf r,qf O];show g
  have v:upd (upd H2 ol (.lst (ss.map V.str))) x (.ins cw dx (qI "order" (.ref ol) (qI "numbers" (.ref d) []))) ol=some (.lst (ss.map V.str)):=by rw[qf G];show qb
  have i:upd (upd H2 ol (.lst (ss.map V.str))) x (.ins cw dx (qI "order" (.ref ol) (qI "numbers" (.ref d) []))) x=_:=qb;generalize upd (upd H2 ol (.lst (ss.map V.str))) x (.ins cw dx (qI "order" (.ref ol) (qI "numbers" (.ref d) [])))=H3 at D m v i;apply .inl ⟨x,cw,dx,_,.ref d,rfl,i,T.wcl,T.wn,by rw[qC,yB (by room),qC,yG rfl],?_⟩;apply⟨d,l,ss,ts,tps,rfl,m,j,nd,p,M.but U D,hg,fun n ns H4 I t S b=>?_⟩;have B:=I _ _ i;have C:n≠x:=qaL S B (by intro z;cases z);apply .inl ⟨x,cw,dx,_,rfl,B,T.wcl,T.wr,Yp (jE _ _ _) (Yp (XF (jE _ _ _)) (by decide)),?_⟩
  have u:H n=none:=by
   cases q':H n with
   | none=>rfl
   | some o'=>rw[D n o' C q'] at t;cases t
  show q ns _ (D.same I).put ⟨dx,d,ol,n,qb,by rw[qf r];show I _ _ m,by rw[qf G];show I _ _ v,by rw[qf C];show S,⟨b.1,j,nd,b.2.1,p⟩,L,y,u⟩ b
theorem uP:FnScope wqh wqh (qg zD):=fS
theorem uz:FnScope wqp wqp (qg jM):=fS
theorem uA:FnScope wqb wqb (qg jN):=fS
theorem uQ:FnScope wqb wqb (qg zE):=fS
theorem uq:FnScope wqb wqb (qg jv):=fS
theorem uw:FnScope ["self","one","other","bits"] wqy (qg qau):=fS
theorem uE:FnScope wqN wqN (qg jA):=fS
theorem jY{d n:V}:(qI "near" n (qI "order" ol (qI "numbers" d []))).lookup ("numbers":Str)=some d:=by
 rw[qC,yB (by room),qC,yB (by room),qC,yG rfl]
theorem qa0{d n:V}:(qI "near" n (qI "order" ol (qI "numbers" d []))).lookup ("order":Str)=some ol:=by
 rw[qC,yB (by room),qC,yG rfl]
theorem qeT{d n:V}:(qI "near" n (qI "order" ol (qI "numbers" d []))).lookup ("near":Str)=some n:=by
 rw[qC,yG rfl]
theorem j8{f:Str}{d n:V}(h:(f=="near"||f=="order"||f=="numbers")=false):(qI "near" n (qI "order" ol (qI "numbers" d []))).lookup f=none:=by
 simp only[Bool.or_eq_false_iff,YR] at h;rw[qC,yB h.1.1,qC,yB h.1.2,qC,yB h.2];rfl
def inB:LS->Nat->Nat->LS
 | [],_,_=>[]
 | s::r,i,b=>if b.testBit i=true then s::inB r (i+1) b else inB r (i+1) b
theorem qbr(y:Str)(b:Nat):∀(l:LS) (k:Nat),inB (l++[y]) k b=inB l k b++(if b.testBit (k+l.length)=true then [y] else [])
 | [],k=>by simp[inB]
 | s::r,k=>by
  have a:=qbr y b r (k+1);have e:k+1+r.length=k+(s::r).length:=by simp;lk
  rw[e] at a;simp only[kP,inB,a];split<;>simp
theorem qbf(b:Nat):∀(l:LS) (k:Nat),(inB l k b).length<=l.length
 | [],_=>yh _
 | s::r,k=>by
  have a:=qbf b r (k+1);simp only[inB];split
  .simp;lk
  .simp;lk
inductive spHas(cw:Addr)(vs:List V)(H:Hp)(Q:VK)(E:XK):Prop|mk (x:Addr) (ss:LS) (ns:LN) (y:Str) (_:vs=[.ref x,.str y]) (_:WebAt cw H x ss ns) (_:y∈ss) (_:∀ H',L2.Same H H'->Q (.bl true) H')
inductive spNum(cw:Addr)(vs:List V)(H:Hp)(Q:VK)(E:XK):Prop|mk (x:Addr) (ss:LS) (ns:LN) (y:Str) (j:Nat) (_:vs=[.ref x,.str y]) (_:WebAt cw H x ss ns) (_:ss[j]?=some y) (_:∀ H',L2.Same H H'->Q (.int (j:Nat)) H')
inductive spBB(cw:Addr)(vs:List V)(H:Hp)(Q:VK)(E:XK):Prop|mk (x:Addr) (ss:LS) (ns:LN) (y:Str) (j:Nat) (_:vs=[.ref x,.str y]) (_:WebAt cw H x ss ns) (_:ss[j]?=some y) (_:∀ H',L2.Same H H'->Q (.int (ns.getD j 0:Nat)) H')
inductive spNIn(cw:Addr)(vs:List V)(H:Hp)(Q:VK)(E:XK):Prop|mk (x:Addr) (ss:LS) (ns:LN) (b:Nat) (_:vs=[.ref x,.int b]) (_:WebAt cw H x ss ns) (_:∀ l,H l=none->Q (.ref l) (upd H l (.lst ((inB ss 0 b).map V.str))))
inductive spBs(cw:Addr)(vs:List V)(H:Hp)(Q:VK)(E:XK):Prop|mk (x:Addr) (ss:LS) (ns:LN) (y:Str) (j:Nat) (_:vs=[.ref x,.str y]) (_:WebAt cw H x ss ns) (_:ss[j]?=some y) (_:∀ H',L2.Same H H'->∀ l,H' l=none->Q (.ref l) (upd H' l (.lst ((inB ss 0 (ns.getD j 0)).map V.str))))
inductive spTied(cw:Addr)(vs:List V)(H:Hp)(Q:VK)(E:XK):Prop|mk (x:Addr) (ss:LS) (ns:LN) (y z:Str) (j i:Nat) (_:vs=[.ref x,.str y,.str z]) (_:WebAt cw H x ss ns) (_:ss[j]?=some y) (_:ss[i]?=some z) (_:∀ H',L2.Same H H'->Q (.bl ((ns.getD j 0).testBit i)) H')
inductive spPls(cw:Addr)(vs:List V)(H:Hp)(Q:VK)(E:XK):Prop|mk (x:Addr) (ss:LS) (ns:LN) (_:vs=[.ref x]) (_:WebAt cw H x ss ns) (_:∀ l,H l=none->Q (.ref l) (upd H l (.lst (ss.map V.str))))
theorem ok_has(F:Fun K "has_place" "Web.has_place" jM f fd)(T:Txt K mg cc cw)(b:wq5 2 "is_place" wqn spPlace):wq7 3 f fd wqp (spHas cw):=by
 show F.ok uz fun _ _ _ _ H vs Q E e h=>?_
 .obtain⟨x,ss,ns,y,rfl,⟨dx,d,ol,n,g,c,j,i,hw⟩,a,q⟩:=h;show⟨_,(qe (qo (qq b (hmR e) qA (qa (qB (K:=K) rfl (pv 0) rfl) (qa (pv 1) qd))))),?_⟩;apply .inl ⟨x,cw,dx,_,.ref d,rfl,g,T.wcl,T.wn,jY,?_⟩;apply⟨d,ss,y,rfl,c,hw.nm _ a,a,q⟩
theorem ok_num(F:Fun K "number_of" "Web.number_of" jN f fd)(T:Txt K mg cc cw)(o:wq6 3 cw "has_place" wqp (spHas cw)):wq7 4 f fd wqb (spNum cw):=by
 show F.ok uA fun _ _ _ _ H vs Q E e h=>?_
 .obtain⟨x,ss,ns,y,j,rfl,c,b,q⟩:=h;obtain⟨dx,d,ol,n,g,r,v,u,hw⟩:=id c;have l:=ye b;have s:=jX e;show⟨_,(qc (qR (jk (jd (qE o (hmR e) (pv 0) (qa (pv 1) qd)))) (qe jr) qw)
 (qe (qo (qr (qt (K:=K) rfl s) (qB (K:=K) rfl (pv 0) rfl) (pv 1) (fun _ _=>rfl))))),?_⟩
  apply⟨x,dx,_,rfl,g,j8 (by room),?_⟩;apply⟨x,ss,ns,y,rfl,c,l,fun H1 a=>?_⟩;apply yq ?_;obtain⟨i,t,p,m⟩:=j7 (i:=0) l;rw[xA,qy hw.nd p b] at m;apply .inl ⟨x,cw,dx,_,.ref d,rfl,a _ _ g,T.wcl,T.wn,jY,?_⟩;apply .inr ⟨d,.int j,rfl,?_,q H1 a⟩;have:=DGet.k (k:=Sum.inr y) (a _ _ r);rw[m] at this;show this
theorem ok_bb(F:Fun K "bits_beside" "Web.bits_beside" jv f fd)(T:Txt K mg cc cw)(i:wq6 4 cw "number_of" wqb (spNum cw)):wq7 5 f fd wqb (spBB cw):=by
 show F.ok uq fun _ _ _ _ H vs Q E c h=>?_
 .obtain⟨x,ss,ns,y,j,rfl,b,a,q⟩:=h;obtain⟨dx,d,ol,n,e,o,p,l,hw⟩:=id b;have m:=jX c;show⟨_,(qe (qo (qr (qt (K:=K) rfl m) (qB (K:=K) rfl (pv 0) rfl) (qE i (hmR c) (pv 0) (qa (pv 1) qd)) (fun _ _=>rfl)))),?_⟩;apply .inl ⟨x,cw,dx,_,.ref n,rfl,e,T.wcl,T.wr,qeT,?_⟩;apply⟨x,dx,_,rfl,e,j8 (by room),?_⟩;apply⟨x,ss,ns,y,j,rfl,b,a,fun H1 g=>?_⟩;show .inl (zN (g _ _ l) (qv (ju (by rw[hw.len];show(yc.mp a).1))) (q H1 g))
theorem ok_nin(F:Fun K "names_in" "Web.names_in" jA f fd)(T:Txt K mg cc cw)(A:wq5 1 "has_bit" wqx spBit):wq7 2 f fd wqN (spNIn cw):=by
 show F.ok uE fun _ _ _ _ H vs Q E u h=>?_
 .obtain⟨x,ss,ns,b,rfl,⟨dx,d,ol,n,v,D,t,L,hw⟩,q⟩:=h;have I:=jX u;show⟨_,(qe (qo (q9 (sc:=qg jA) (XN:=wqN) ["name","bits","self"] 1 [1,0] rfl rfl rfl (by room) rfl (by room)
  (qG (K:=K) rfl (qB (K:=K) rfl (pv 0) rfl)) (fun _ _ _ _=>(qm (i:=0) (show(["name","bits","self"]:LS).Nodup by room) rfl (yH rfl))) qH
  (fun _ _ _ _=>(qK (jd (qq A (hmR u) qA (qa (pv 1) (qa (qr (qt (K:=K) rfl I) (qB (K:=K) rfl (pv 2) rfl) (pv 0) (fun _ _=>rfl)) qd))))))
  (fun _ _ _ _=>(pv 0))))),?_⟩
  apply .inl ⟨x,cw,dx,_,.ref ol,rfl,v,T.wcl,T.wo,qa0,?_⟩;show .inl ⟨⟨_,SqL.of t⟩,qF (K:=K) (fun i ys H'=>H'=H/\ys=(inB (ss.take i) 0 b).map V.str) ⟨rfl,by simp[inB]⟩ (fun i ys H' _ e=>by rw[e.1];show SqL.of t) (fun i y ys H' r e=>?_) fun ys H' e=>?_⟩
  .obtain⟨rfl,rfl⟩:=e;have G:i<ss.length:=by simpa using(yc.mp r).1
   have c:ss[i]?=some ss[i]:=yb G;generalize ss[i]=s at c;have B:y=.str s:=by rw[yd,c] at r;cases r;rfl
   subst B;obtain⟨j,J,C,z⟩:=j7 (i:=0) (ye c);rw[xA] at z;have p:j=i:=qy hw.nd C c;subst p;have g:ss.take (j+1)=ss.take j++[s]:=by rw[yK,c];rfl
   have a:(ss.take j).length=j:=by rw[yQ];lk
   apply .inl ⟨x,cw,dx,_,.ref d,rfl,v,T.wcl,T.wn,jY,?_⟩;apply .inr ⟨d,.int j,rfl,?_,?_⟩
   .have:=DGet.k (k:=Sum.inr s) D;rw[z] at this;show this
   apply⟨_,_,rfl,by lk,?_⟩;rw[zZ];ext
   have few:((inB (ss.take j) 0 b).map V.str).length<sizeLine:=by
    rw[ya];show qi (yi (qbf _ _ _) (by rw[a];have:=hw.few;lk))
   show qL (fun o=>?_) fun o=>?_
   .ext;show⟨few,rfl,?_⟩;rw[g,qbr,a,xA,yG o];simp
   .show⟨rfl,?_⟩;rw[g,qbr,a,xA,yB o];simp
  .obtain⟨rfl,rfl⟩:=e;have m:ss.take (ss.map V.str).length=ss:=by rw[ya,yP]
   rw[m];show⟨?_,fun l hl=>q l hl⟩;rw[ya];show yX (qi (yi (qbf _ _ _) (by have:=hw.few;lk)))
theorem ok_bs(F:Fun K "beside" "Web.beside" zE f fd)(T:Txt K mg cc cw)(g:wq6 5 cw "bits_beside" wqb (spBB cw))(i:wq6 2 cw "names_in" wqN (spNIn cw)):wq7 6 f fd wqb (spBs cw):=by
 show F.ok uQ fun _ _ _ _ H vs Q E b h=>?_
 .obtain⟨x,ss,ns,y,j,rfl,a,l,q⟩:=h;obtain⟨dx,d,ol,n,c,_⟩:=id a;show⟨_,(qe (qo (qE i (hmR b) (pv 0) (qa (qE g (hmR b) (pv 0) (qa (pv 1) qd)) qd)))),?_⟩;apply⟨x,dx,_,rfl,c,j8 (by room),?_⟩;apply⟨x,dx,_,rfl,c,j8 (by room),?_⟩;apply⟨x,ss,ns,y,j,rfl,a,l,fun H1 e=>?_⟩;apply⟨x,ss,ns,_,rfl,a.same e,q H1 e⟩
theorem ok_tied(F:Fun K "tied" "Web.tied" qau f fd)(T:Txt K mg cc cw)(m:wq6 5 cw "bits_beside" wqb (spBB cw))(l:wq6 4 cw "number_of" wqb (spNum cw))
  (g:wq5 1 "has_bit" wqx spBit):wq7 6 f fd wqy (spTied cw):=by
 show F.ok uw fun _ _ _ _ H vs Q E b h=>?_
 .obtain⟨x,ss,ns,y,z,j,i,rfl,a,p,o,q⟩:=h;obtain⟨dx,d,ol,n,e,_⟩:=id a;show⟨_,(qc (qk (i:=3) uw.nd rfl (yH rfl) (qE m (hmR b) (pv 0) (qa (pv 1) qd)))
 (qe (qo (qq g (hmR b) qA (qa (pv 3) (qa (qE l (hmR b) (pv 0) (qa (pv 2) qd)) qd)))))),?_⟩
  apply⟨x,dx,_,rfl,e,j8 (by room),?_⟩;apply⟨x,ss,ns,y,j,rfl,a,p,fun H1 c=>?_⟩;apply⟨x,dx,_,rfl,c _ _ e,j8 (by room),?_⟩;apply⟨x,ss,ns,z,i,rfl,a.same c,o,fun H2 r=>?_⟩;apply⟨_,_,rfl,by lk,?_⟩;rw[zZ];show q H2 (c.trans r)
theorem ok_pls(F:Fun K "places" "Web.places" zD f fd)(T:Txt K mg cc cw):wq7 1 f fd wqh (spPls cw):=by
 show F.ok uP fun _ _ _ _ H vs Q E g h=>?_
 .obtain⟨x,ss,ns,rfl,⟨dx,d,ol,n,b,c,a,e,hw⟩,q⟩:=h;show⟨_,(qe (qo (qaO (qcl (K:=K) rfl rfl) rfl T.b_list Xu (qa (qB (K:=K) rfl (pv 0) rfl) qd)))),?_⟩;apply .inl ⟨x,cw,dx,_,.ref ol,rfl,b,T.wcl,T.wo,qa0,?_⟩;apply .inl ⟨ol,_,rfl,.inl (SqL.of a),q⟩
theorem Kz:FnScope ["self","pieces","seen","number","piece"] wqh (qg zF):=fS
theorem Kq:FnScope ["near","number","piece","before","at","bits"] ["near","number"] (qg j3):=fS
theorem qdC(m k:Nat):Builtin.bitOr (m:Int) (k:Int)=((m ||| k:Nat):Int):=by
 have c:Builtin.bitNot (m:Int)=-(m:Int)-1:=rfl;have d:Builtin.bitNot (k:Int)=-(k:Int)-1:=rfl;unfold Builtin.bitOr Builtin.bitAnd;rw[c,d,yl (by lk),yl (by lk)];dsimp only;unfold Builtin.bitNot;have a:(-(-(m:Int)-1)-1).toNat=m:=by lk
 have b:(-(-(k:Int)-1)-1).toNat=k:=by lk
 rw[a,b];lk
theorem qdD(j:Nat):(1*2 ^ (j:Int).toNat:Int)=((2 ^ j:Nat):Int):=by rw[y0,kI,xO];rfl
inductive Rch(ns:LN)(i:Nat):Nat->Prop
 | zero:Rch ns i i
 | step {a b:Nat} (h:Rch ns i a) (t:(ns.getD a 0).testBit b=true):Rch ns i b
theorem Rch.trans{a b:Nat}(h:Rch ns i a)(g:Rch ns a b):Rch ns i b:=by
 induction g with
 | zero=>show h
 | step _ t ih=>show .step ih t
inductive spPc(vs:List V)(H:Hp)(Q:VK)(E:XK):Prop|mk (n:Addr) (ns:LN) (i:Nat) (_:vs=[.ref n,.int i]) (_:H n=some (.lst (zC ns))) (_:i<ns.length) (_:ns.length<=14) (_:(∀ a,ns.getD a 0<2 ^ ns.length)) (_:∀(b:Nat) (H':Hp),L2.Same H H'->(∀ c,b.testBit c=true↔Rch ns i c)->Q (.int b) H')
def qdE(ns:LN)(k:Nat):Bool:=@decide (∀ j,j<k->¬ Rch ns j k) (Classical.propDecidable _)
theorem isRep_iff{k:Nat}:qdE ns k=true↔∀ j,j<k->¬ Rch ns j k:=by unfold qdE;show @decide_eq_true_iff _ (Classical.propDecidable _)
def qfo(ns:LN)(n:Nat):LN:=(List.range n).filter (qdE ns)
open Classical in
def qdb(ss:LS)(ns:LN)(k:Nat):LS:=ss.filter fun s=>decide (Rch ns k (ss.idxOf s))
theorem qdc(b:ss.Nodup)(h:ss[i]?=some s):ss.idxOf s=i:=by
 have a:s∈ss:=ye h;have hl:ss.idxOf s<ss.length:=Yt a;show qy b (by rw[yb hl,YN]) h
theorem zQ(f:ss.Nodup)(b:Nat):inB ss 0 b=ss.filter fun s=>b.testBit (ss.idxOf s):=by
 have e:∀ k,k<=ss.length->inB (ss.take k) 0 b=(ss.take k).filter fun s=>b.testBit (ss.idxOf s):=fun k=>by
  induction k with
  | zero=>intro _;simp[inB]
  | succ k ih =>
   intro h;have a:ss[k]?=some ss[k]:=yb (by lk);generalize ss[k]=g at a;have d:ss.take (k+1)=ss.take k++[g]:=by rw[yK,a];rfl
   have c:(ss.take k).length=k:=by rw[yQ];lk
   rw[d,qbr,yW,ih (by lk),c,xA]
   congr 1
   rw[yL,Yr,qdc f a]
 have:=e ss.length (yh _)
 rwa[yP] at this
theorem comp_of(a:ss.Nodup){b k:Nat}(h:∀ c,b.testBit c=true↔Rch ns k c):inB ss 0 b=qdb ss ns k:=by
 rw[zQ a];unfold qdb;apply Yx;intro s _;rw[Yn,h];simp
def qhp(H H':Hp)(l:Addr)(a:Addr)(ps:LS):Prop:=H a=none/\a≠l/\H' a=some (.lst (ps.map V.str))
inductive spPcs(cw:Addr)(vs:List V)(H:Hp)(Q:VK)(E:XK):Prop|mk (x:Addr) (ss:LS) (ns:LN) (_:vs=[.ref x]) (_:WebAt cw H x ss ns) (_:∀(l:Addr) (ls:LQ) (H':Hp),L2.Same H H'->H l=none->H' l=some (.lst (ls.map V.ref))->All2 (qhp H H' l) ls ((qfo ns ss.length).map (qdb ss ns))->Q (.ref l) H')
theorem ok_pc(F:Fun K "piece_around" "piece_around" j3 f fd)(T:Txt K mg cc cw)(KA:wq5 1 "has_bit" wqx spBit):wq7 2 f fd ["near","number"] spPc:=by
 show F.ok Kq fun _ _ _ _ H vs Q E hr h=>?_
 .obtain⟨n,ns,i,rfl,Z,hi,ac,S,q⟩:=h;have hu:=jX hr;show⟨_,(qc (qk (i:=2) Kq.nd rfl (yH rfl) (qu zv qh (pv 1)))
 (qc (qk (i:=3) Kq.nd rfl (yH rfl) qh)
 (qc (qao yS (qj (qaj (K:=K) rfl hu) (pv 3) (pv 2) (qx _))
 (qc (qk (i:=3) Kq.nd rfl (yH rfl) (pv 2))
 (qe (qX yS rfl (pi_enum (K:=K) rfl rfl T.b_enumerate (qa (pv 0) qd)) (qb6 rfl (jC (qm (i:=4) Kq.nd rfl (yH rfl)) (jC (qm (i:=5) Kq.nd rfl (yH rfl)) qbb)))
 (qe (qR (jd (qq KA (hmR hr) qA (qa (pv 3) (qa (pv 4) qd)))) (qe (qk (i:=2) Kq.nd rfl (yH rfl) (qu qdq (pv 2) (pv 5)))) qw))))))
 (qe (qo (pv 2)))))),?_⟩
  apply vI ⟨by lk,by lk,by decide⟩ ?_;ext;rw[qdD];have I:∀ c,(2 ^ i:Nat).testBit c=decide (i=c):=fun c=>Yl;show⟨fun m σ H'=>∃(pc b:Nat) (j l:Option V),m=2 ^ ns.length-b/\σ=[some (.ref n),some (.int i),some (.int pc),some (.int b),j,l]/\L2.Same H H'/\b ||| pc=pc/\pc<2 ^ ns.length/\pc.testBit i=true/\(∀ c,pc.testBit c=true->Rch ns i c)/\∀ a c,b.testBit a=true->(ns.getD a 0).testBit c=true->pc.testBit c=true,
   ⟨_,2 ^ i,0,none,none,rfl,rfl,L2.Same.refl H,by simp,xp (by decide) hi,by rw[I];simp,fun c hc=>by rw[I] at hc;rw[<- yk hc];show .zero,fun a c L=>by simp at L⟩,fun m σ H1 hW=>?_⟩
  obtain⟨pc,b,j,l,rfl,rfl,X,G,D,C,d,x⟩:=hW;apply .inl ⟨rfl,rfl,?_⟩;apply qL (fun U=>?_) fun A=>?_
  .have aa:b≠pc:=fun e=>by
    subst e;simp[eqV] at U
   have ad:b<pc:=by
    have h1:b<=b ||| pc:=Nat.left_le_or;rw[G] at h1;lk
   show⟨fun J H'=>∃(pk:Nat) (j l:Option V),J=[some (.ref n),some (.int i),some (.int pk),some (.int pc),j,l]/\L2.Same H H'/\pc ||| pk=pk/\pk<2 ^ ns.length/\pk.testBit i=true/\(∀ c,pk.testBit c=true->Rch ns i c)/\∀ a c,pc.testBit a=true->(ns.getD a 0).testBit c=true->pk.testBit c=true,
    fun J H' hN=>?_,?_⟩
   .obtain⟨pk,j,l,rfl,k1,k2,k3,k4,k5,k6⟩:=hN;show⟨2 ^ ns.length-pc,by lk,pk,pc,j,l,rfl,rfl,k1,k2,k3,k4,k5,k6⟩
   .ext;show⟨n,zC ns,rfl,SqL.of (X _ _ Z),for_enum (K:=K) (fun k σ H'=>∃(pk:Nat) (j l:Option V),σ=[some (.ref n),some (.int i),some (.int pk),some (.int pc),j,l]/\L2.Same H H'/\pc ||| pk=pk/\pk<2 ^ ns.length/\(∀ c,pk.testBit c=true->Rch ns i c)/\∀ a c,a<k->pc.testBit a=true->(ns.getD a 0).testBit c=true->pk.testBit c=true)
     ⟨pc,_,_,rfl,X,by simp,D,d,fun a c h=>by lk⟩ (fun k σ H' _ B=>by obtain⟨_,_,_,_,z,_⟩:=B;show SqL.of (z _ _ Z)) (fun k y t σ H2 W ht B=>?_) fun σ H2 B=>?_⟩
    .obtain⟨pk,j,l,rfl,Y,g,r,s,p⟩:=B;have s3:=qD Y (o:=.tup [.int k,y]) ht;have O:k<ns.length:=by have:=(yc.mp W).1;unfold zC at this;simpa using this
     have ey:y=.int (ns.getD k 0:Nat):=by rw[ju O] at W;cases W;rfl
     show⟨t,_,rfl,SqT.of qb,rfl,_,_,rfl,_,_,rfl,rfl,?_⟩;subst ey;apply⟨_,_,rfl,by lk,?_⟩;rw[zZ];apply qL (fun M=>?_) fun M=>?_
     .ext;rw[qdC];show⟨pk ||| ns.getD k 0,_,_,rfl,s3,by rw[<- Nat.or_assoc,g],xw r (S k),fun c hc=>?_,fun a c L h1 v=>?_⟩
      .rw [YO,YJ] at hc;rcases hc with hc | hc
       .show s c hc
       .show .step (d k M) hc
      .rw [YO,YJ];by_cases u:a=k
       .subst u;show .inr v
       .show .inl (p a c (by lk) h1 v)
     .show⟨pk,_,_,rfl,s3,g,r,s,fun a c L h1 v=>?_⟩;by_cases u:a=k
      .subst u;show absurd h1 M
      .show p a c (by lk) h1 v
    .obtain⟨pk,j,l,rfl,Y,g,r,s,p⟩:=B;show⟨pk,j,l,rfl,Y,g,r,by rw[<- g,YO,C];rfl,s,fun a c h1 v=>p a c ?_ h1 v⟩
     have R:a<ns.length:=by
      show kc fun N=>?_;have:pc.testBit a=false:=X5 (yj D (xq (by decide) N));rw[this] at h1;cases h1
     unfold zC;rw[ya];show R
  .have he:b=pc:=by
    simp only[XD,eqV,xU,Bool.not_eq_false'] at A;have:((b:Int)==(pc:Int))=true:=by simpa using A
    have:=eq_of_beq this;lk
   subst he;apply q b H1 X fun c=>⟨d c,fun hc=>?_⟩
   induction hc with
   | zero=>show C
   | step _ t ih=>show x _ _ ih t
theorem qdd(ns:LN)(k:Nat):((∃ j,j<k/\Rch ns j k)->qfo ns (k+1)=qfo ns k)/\((¬ ∃ j,j<k/\Rch ns j k)->qfo ns (k+1)=qfo ns k++[k]):=by
 unfold qfo;rw[YG,yW];constructor
 .rintro ⟨j,a,b⟩
  have e:qdE ns k=false:=by
   rw[Bool.eq_false_iff];intro h;show isRep_iff.mp h j a b
  simp[e]
 .intro h;have e:qdE ns k=true:=isRep_iff.mpr fun j a b=>h ⟨j,a,b⟩;simp[e]
theorem ok_pcs(F:Fun K "pieces" "Web.pieces" zF f fd)(T:Txt K mg cc cw)(X:wq5 1 "has_bit" wqx spBit)(uK:wq5 2 "piece_around" ["near","number"] spPc)
  (Y:wq6 2 cw "names_in" wqN (spNIn cw)):wq7 3 f fd wqh (spPcs cw):=by
 show F.ok Kz fun _ _ _ _ H vs Q E G h=>?_
 .obtain⟨x,ss,ns,rfl,U,q⟩:=h;obtain⟨dx,d,ol,n,N,hd,ho,hn,hw⟩:=id U;show⟨_,(qc (qk (i:=1) Kz.nd rfl (yH rfl) (qS qd))
 (qc (qk (i:=2) Kz.nd rfl (yH rfl) qh)
 (qc (qX yS rfl (jl rfl T.b_range (qa (qp (jL (K:=K) rfl) rfl T.b_len YE (qa (qB (K:=K) rfl (pv 0) rfl) qd)) qd)) (qm (i:=3) Kz.nd rfl (yH rfl))
 (qe (qR (jk (jd (qq X (hmR G) qA (qa (pv 2) (qa (pv 3) qd))))) (qc (qk (i:=4) Kz.nd rfl (yH rfl) (qq uK (hmR G) qA (qa (qB (K:=K) rfl (pv 0) rfl) (qa (pv 3) qd))))
 (qc (qk (i:=2) Kz.nd rfl (yH rfl) (qu qdq (pv 2) (pv 4)))
 (qe (qP (qbl (K:=K) rfl yM Yc Yd qN (pv 1) (qa (qE Y (hmR G) (pv 0) (qa (pv 4) qd)) qd)))))) qw)))
 (qe (qo (pv 1)))))),?_⟩
  apply⟨by decide,fun l hl=>?_⟩;have O:=qD (Sr H) (o:=.lst []) hl;apply .inl ⟨x,cw,dx,_,.ref ol,rfl,O _ _ N,T.wcl,T.wo,qa0,?_⟩;apply zq (O _ _ ho) ?_;rw[ya];have few:=hw.few;show⟨_,rfl,by lk,by lk,?_⟩;rw[y0];show j5 (fun k σ H'=>k<=ss.length/\∃(sn:Nat) (m:LQ) (R S:Option V),σ=[some (.ref x),some (.ref l),some (.int sn),R,S]/\L2.Same H H'/\H' l=some (.lst (m.map V.ref))/\All2 (qhp H H' l) m ((qfo ns k).map (qdb ss ns))/\m.length<=k/\∀ b,sn.testBit b=true↔∃ j,j<k/\Rch ns j b)
   ⟨YS _,0,[],none,none,rfl,O,qb,All2.nil,yh _,fun b=>⟨fun h=>by simp at h,fun⟨j,h,_⟩=>by lk⟩⟩ (fun k σ H1 hk s=>?_) fun σ H1 s=>?_
  .obtain⟨_,sn,m,R,S,rfl,B,r,g,W,t⟩:=s;ext;rw[xB];show⟨_,_,rfl,by lk,?_⟩;rw[zZ];apply qL (fun J=>?_) fun J=>?_
   .have D:¬ ∃ j,j<k/\Rch ns j k:=fun h=>by
     rw[<- t] at h;rw[h] at J;cases J
    apply .inl ⟨x,cw,dx,_,.ref n,rfl,B _ _ N,T.wcl,T.wr,qeT,?_⟩;apply⟨n,ns,k,rfl,B _ _ hn,by rw[hw.len];lk,by rw[hw.len];show few,by rw[hw.len];show hw.lt,fun b H2 L C=>?_⟩;have M:=B.trans L;have y:=L _ _ r;ext;rw[qdC];show⟨.inl ⟨rfl,_,SqL.of y⟩,?_⟩;apply⟨x,dx,_,rfl,M _ _ N,j8 (by room),?_⟩;apply⟨x,ss,ns,b,rfl,U.same M,fun a I=>?_⟩;ext;have A:l≠a:=qJ y I;show⟨l,_,_,rfl,rfl,by rw[qf A];show y,by rw[ya];show qi (by lk),?_⟩;have s4:=qaC (qD M (o:=.lst ((inB ss 0 b).map V.str)) I) (o:=.lst (m.map V.ref++[.ref a])) hl;show⟨by lk,sn ||| b,m++[a],_,_,rfl,s4,by rw[qb,yu];rfl,?_,by rw[yt];show m.length+1<=k+1;lk,fun c=>?_⟩
    .rw [(qdd ns k).2 D,yu];show All2.snoc (g.mono fun Z ps s=>⟨s.1,s.2.1,?_⟩) ⟨M.free I,A.symm,?_⟩
     .have na:Z≠a:=fun e=>by
       have z:=L _ _ s.2.2;rw[e,I] at z;cases z
      rw[qf s.2.1,qf na];show L _ _ s.2.2
     .rw [qf A.symm,qb,comp_of hw.nd C]
    .rw [YO,YJ,t,C];constructor
     .rintro (⟨j,h1,p⟩ | h)
      .show⟨j,by lk,p⟩
      .show⟨k,by lk,h⟩
     .rintro ⟨j,h1,p⟩;by_cases v:j=k
      .subst v;show .inr p
      .show .inl ⟨j,by lk,p⟩
   .have u:∃ j,j<k/\Rch ns j k:=by
     rw[<- t];simpa using J
    show⟨by lk,sn,m,_,_,rfl,B,r,?_,by lk,fun c=>?_⟩
    .rw [(qdd ns k).1 u];show g
    .rw [t];constructor
     .rintro ⟨j,h1,p⟩;show⟨j,by lk,p⟩
     .rintro ⟨j,h1,p⟩;by_cases v:j=k
      .subst v;obtain⟨i,hi,G⟩:=u;show⟨i,hi,G.trans p⟩
      .show⟨j,by lk,p⟩
  .obtain⟨_,sn,m,R,S,rfl,B,r,g,_,_⟩:=s;apply q l m H1 B hl r g
theorem K1:FnScope ["self","ties","one","other"] wqh (qg qav):=fS
theorem qeU(a:ss.Nodup){b:Nat}(h:s∈inB ss 0 b):s∈ss/\b.testBit (ss.idxOf s)=true:=by
 rw[zQ a] at h;show yp.mp h
def qf5(ss:LS)(ns:LN)(i:Nat):LP:=((inB ss 0 (ns.getD i 0)).filter fun o=>decide (i<ss.idxOf o)).map fun o=>(ss.getD i "",o)
def qU(ss:LS)(ns:LN)(i:Nat):LP:=(List.range i).flatMap (qf5 ss ns)
def PrAt(H H':Hp)(l:Addr)(t:Addr)(ab:Str×Str):Prop:=H t=none/\t≠l/\H' t=some (.tup [.str ab.1,.str ab.2])
theorem PrAt.same{t:Addr}(h:PrAt H H1 l t ab)(s:L2.Same H1 H2):PrAt H H2 l t ab:=⟨h.1,h.2.1,s _ _ h.2.2⟩
inductive spTs(cw:Addr)(vs:List V)(H:Hp)(Q:VK)(E:XK):Prop|mk (x:Addr) (ss:LS) (ns:LN) (_:vs=[.ref x]) (_:WebAt cw H x ss ns) (_:∀(l:Addr) (ts:LQ) (H':Hp),L2.Same H H'->H l=none->H' l=some (.lst (ts.map V.ref))->ts.length<=196->All2 (PrAt H H' l) ts (qU ss ns ss.length)->Q (.ref l) H')
theorem ok_ts(F:Fun K "ties" "Web.ties" qav f fd)(T:Txt K mg cc cw)(KI:wq6 6 cw "beside" wqb (spBs cw)):wq7 7 f fd wqh (spTs cw):=by
 show F.ok K1 fun _ _ _ _ H vs Q E hr h=>?_
 .obtain⟨x,ss,ns,rfl,hW,q⟩:=h;have hu:=jX hr;obtain⟨dx,d,ol,n,hx,hd,ho,hn,hw⟩:=id hW;have few:=hw.few
  have Y:∀(H1:Hp) (y:Str) (i:Nat),L2.Same H H1->ss[i]?=some y->DGet H1 d (.str y) (some (.int (i:Nat))):=fun H1 y i O D=>by
   obtain⟨j,hj,gj,vj⟩:=j7 (i:=0) (ye D);rw[xA] at vj;have af:j=i:=qy hw.nd gj D;subst af;have:=DGet.k (k:=Sum.inr y) (O _ _ hd);rw[vj] at this;show this
  show⟨_,(qc (qk (i:=1) K1.nd rfl (yH rfl) (qS qd))
 (qc (qX yS rfl (qG (K:=K) rfl (qB (K:=K) rfl (pv 0) rfl)) (qm (i:=2) K1.nd rfl (yH rfl))
 (qe (qX yS rfl (qG (K:=K) rfl (qE KI (hmR hr) (pv 0) (qa (pv 2) qd))) (qm (i:=3) K1.nd rfl (yH rfl))
 (qe (qR (qj qeC (qr (qt (K:=K) rfl hu) (qB (K:=K) rfl (pv 0) rfl) (pv 2) (fun _ _=>rfl)) (qr (qt (K:=K) rfl hu) (qB (K:=K) rfl (pv 0) rfl) (pv 3) (fun _ _=>rfl)) (qx _)) (qe (qP (qbl (K:=K) rfl yM Yc Yd qN (pv 1) (qa (jU (qa (pv 2) (qa (pv 3) qd))) qd)))) qw)))))
 (qe (qo (pv 1))))),?_⟩
  apply⟨by decide,fun l hl=>?_⟩;have s0:=qD (Sr H) (o:=.lst []) hl;apply .inl ⟨x,cw,dx,_,.ref ol,rfl,s0 _ _ hx,T.wcl,T.wo,qa0,?_⟩;show .inl ⟨⟨_,SqL.of (s0 _ _ ho)⟩,qQ (K:=K) (fun i σ H'=>∃(ts:LQ) (x2 S:Option V),σ=[some (.ref x),some (.ref l),x2,S]/\L2.Same H H'/\H' l=some (.lst (ts.map V.ref))/\ts.length<=i*14/\All2 (PrAt H H' l) ts (qU ss ns i))
   ⟨[],none,none,rfl,s0,qb,by simp,All2.nil⟩ (fun i σ H' _ B=>by obtain⟨_,_,_,_,z,_⟩:=B;show SqL.of (z _ _ ho)) (fun i y σ H1 hy B=>?_) fun σ H1 B=>?_⟩
  .obtain⟨ts,x2,S,rfl,O,G,s,c⟩:=B;have hi:i<ss.length:=by simpa using(yc.mp hy).1
   have D:ss[i]?=some ss[i]:=yb hi;generalize ss[i]=p at D;have ey:y=.str p:=by rw[yd,D] at hy;cases hy;rfl
   subst ey;have al:=hw.nm p (ye D);apply⟨x,dx,_,rfl,O _ _ hx,j8 (by room),?_⟩;apply⟨x,ss,ns,p,i,rfl,hW.same O,D,fun H2 s2 b W=>?_⟩;have s3:=O.trans s2;have s4:=qD s3 (o:=.lst ((inB ss 0 (ns.getD i 0)).map V.str)) W;have R:=qD s2 (o:=.lst ((inB ss 0 (ns.getD i 0)).map V.str)) W;have eb:upd H2 b (.lst ((inB ss 0 (ns.getD i 0)).map V.str)) b=some (.lst ((inB ss 0 (ns.getD i 0)).map V.str)):=qb;have ah:b≠l:=fun e=>by rw[e,s2 _ _ G] at W;cases W
   have aj:H b=none:=s3.free W;show .inl ⟨⟨_,SqL.of qb⟩,?_⟩;generalize upd H2 b (.lst ((inB ss 0 (ns.getD i 0)).map V.str))=H3 at s4 R eb ⊢;have J:∀ o,o∈inB ss 0 (ns.getD i 0)->o∈ss:=fun o h=>(qeU hw.nd h).1;have ad:=qbf (ns.getD i 0) ss 0;have r:qf5 ss ns i=((inB ss 0 (ns.getD i 0)).filter fun o=>decide (i<ss.idxOf o)).map fun o=>(ss.getD i "",o):=rfl;have aa:ss.getD i ""=p:=by simp[List.getD,D]
   rw[aa] at r;generalize ak:inB ss 0 (ns.getD i 0)=bs at eb J ad r ⊢;show qQ (K:=K) (fun k σ H'=>∃(us:LQ) (S:Option V),σ=[some (.ref x),some (.ref l),some (.str p),S]/\L2.Same H H'/\H' b=some (.lst (bs.map V.str))/\H' l=some (.lst (us.map V.ref))/\us.length<=i*14+k/\All2 (PrAt H H' l) us (qU ss ns i++((bs.take k).filter fun o=>decide (i<ss.idxOf o)).map fun o=>(p,o)))
    ⟨ts,_,rfl,s4,eb,R _ _ G,s,by simpa using c.mono fun _ _ h=>h.same R⟩ (fun k σ H' _ B=>by obtain⟨_,_,_,_,z,_⟩:=B;show SqL.of z) (fun k u σ Z M B=>?_) fun σ Z B=>?_
   .obtain⟨us,S,rfl,I,C,g,v,a⟩:=B;have hk:k<bs.length:=by simpa using(yc.mp M).1
    have gk:bs[k]?=some bs[k]:=yb hk;generalize bs[k]=m at gk;have eu:u=.str m:=by rw[yd,gk] at M;cases M;rfl
    subst eu;have ag:=J m (ye gk);have ae:=Yt ag;have ac:ss[ss.idxOf m]?=some m:=by rw[yb ae,YN]
    have X:bs.take (k+1)=bs.take k++[m]:=by rw[yK,gk];rfl
    apply .inl ⟨x,cw,dx,_,.ref d,rfl,I _ _ hx,T.wcl,T.wn,jY,?_⟩;apply .inr ⟨d,.int i,rfl,Y Z p i I D,?_⟩;apply .inl ⟨x,cw,dx,_,.ref d,rfl,I _ _ hx,T.wcl,T.wn,jY,?_⟩;apply .inr ⟨d,.int (ss.idxOf m:Nat),rfl,Y Z m _ I ac,?_⟩;apply qL (fun L=>?_) fun L=>?_
    .have A:i<ss.idxOf m:=by have:=yk L;lk
     apply⟨.inl ⟨rfl,_,SqL.of g⟩,?_⟩;apply⟨wqqb,fun t ht=>?_⟩;have N:l≠t:=qJ g ht;have ai:b≠t:=qJ C ht;have s6:=qD (Sr Z) (o:=.tup [.str p,.str m]) ht;apply⟨l,_,_,rfl,rfl,by rw[qf N];show g,by rw[ya];show qi (by have:i*14<=14*14:=Nat.mul_le_mul_right 14 (by lk);lk),?_⟩;show⟨us++[t],_,rfl,qaC (I.trans s6) hl,by rw[qf ah,qf ai];show C,by rw[qb,yu];rfl,by rw[yt];show us.length+1<=_;lk,?_⟩;rw[X,yW,yu,<- Ys];have U:([m].filter fun o=>decide (i<ss.idxOf o)).map (fun o=>(p,o))=[(p,m)]:=by simp[A]
     rw[U];show All2.snoc (a.mono fun t' ab h=>⟨h.1,h.2.1,?_⟩) ⟨I.free ht,N.symm,?_⟩
     .rw [qf h.2.1];show s6 _ _ h.2.2
     .rw [qf N.symm,qb]
    .have A:¬ i<ss.idxOf m:=fun h=>L (yD (by lk));show⟨us,_,rfl,I,C,g,by lk,?_⟩;have U:([m].filter fun o=>decide (i<ss.idxOf o)).map (fun o=>(p,o))=[]:=by simp[A]
     rw[X,yW,yu,U,Ye];show a
   .obtain⟨us,S,rfl,I,C,g,v,a⟩:=B;rw[ya,yP] at a;rw[ya] at v;show⟨us,_,_,rfl,I,g,by lk,?_⟩;unfold qU at a ⊢;rw[YG,x0];have U:[i].flatMap (qf5 ss ns)=(bs.filter fun o=>decide (i<ss.idxOf o)).map fun o=>(p,o):=by rw[<- r];simp
    rw[U];show a
  .obtain⟨ts,x2,S,rfl,O,G,s,c⟩:=B;rw[ya] at s c;apply q l ts H1 O hl G (by have:ss.length*14<=14*14:=Nat.mul_le_mul_right 14 few;lk) c
def Box(H:Hp)(p:Addr):Prop:=∃ a b c:Int,H p=some (.lst [.int a,.int b,.int c])
def BB(p:Addr)(H H':Hp):Prop:=(∀ b o,b≠p->H b=some o->H' b=some o)/\Box H' p
inductive spTake(vs:List V)(H:Hp)(Q:VK)(E:XK):Prop|mk (p:Addr) (m:Int) (_:vs=[.ref p,.int m]) (_:Box H p) (_:0<m) (_:m<1073741824) (_:∀(r:Int) (H':Hp),0<=r->r<m->BB p H H'->Q (.int r) H')
inductive spCell(K:W.Frag)(vs:List V)(H:Hp)(Q:VK)(E:XK):Prop|mk (a:Addr) (ns:LX) (k:Int) (_:vs=[.ref a,.int k]) (_:SqL K H a (ns.map V.int)) (_:0<=k) (_:k<1000) (_:∀ i:Int,Q (.int i) H)
inductive spBox(vs:List V)(H:Hp)(Q:VK)(E:XK):Prop|mk (i:Int) (_:vs=[.int i]) (_:∀(p:Addr) (a b c:Int),H p=none->Q (.ref p) (upd H p (.lst [.int a,.int b,.int c])))
def NewH(H H':Hp):Hp:=fun a=>match H a with | none=>H' a | some _=>none
theorem zR:∀{l m:LS},l.Nodup->(∀ x∈l,x∈m)->l.length<=m.length
 | [],_,_,_=>YS _
 | x::r,m,hn,h=>by
  obtain⟨h1,c⟩:=yo.mp hn;have a:=h x yU;have d:=zR (l:=r) (m:=m.erase x) c fun y b=>(Xz (fun e=>h1 (by rw[<- e];show b))).mpr (h y (yC _ b));rw[YV a] at d;have:0<m.length:=Y2 a;simp only[yJ];lk
theorem qco(c:Str)(ss:LS):inV (.str c) (ss.map V.str)=decide (c∈ss):=by
 unfold inV;rw[Kk,Yn,YK,yE];constructor
 .rintro ⟨y,a,e⟩;have:y=c:=eq_of_beq e;rw[<- this];show a
 .intro h;show⟨c,h,Xe c⟩
theorem flat_strs(ss:LS):(ss.map V.str).all qaB=true:=by rw[kZ];show Yw.mpr fun _ _=>rfl
inductive spFresh(vs:List V)(H:Hp)(Q:VK)(E:XK):Prop|mk (l:Addr) (ss:LS) (_:vs=[.ref l]) (_:H l=some (.lst (ss.map V.str))) (_:ss.length<=14) (_:∀(x:Str) (H':Hp),L2.Same H H'->zX x=true->x∉ss->Q (.str x) H')
def signs:LS:=("abcdefghijklmno":Str).cps.toList.map fun c=>⟨#[c]⟩
theorem slice_ix(k n:Nat):Builtin.Str.strSliceIndices none (some (k:Int)) 1 n=List.range (min k n):=by
 unfold Builtin.Str.strSliceIndices sliceRange;simp only[show(1:Int)>0 by decide,XD];rw[yB (show ¬ ((k:Int)<0) by lk)];have a:max 0 (min (k:Int) n)=((min k n:Nat):Int):=by lk
 rw[a];have b:(fun(j:Nat)=>((0:Int)+1*(j:Int)).toNat)=id:=by funext j;show _=j;lk
 rw[b,List.map_id]
 congr 1
 split
 .rw [Int.ediv_one];lk
 .omega
theorem qeV(a:Array Nat):∀ m,m<=a.size->(List.range m).filterMap (a[·]?)=a.toList.take m
 | 0,_=>rfl
 | m+1,h=>by
  rw[YG,List.filterMap_append,qeV a m (by lk),yK]
  congr 1
  have e:a[m]?=some a[m]:=xK (by lk);have b:a.toList[m]?=some a[m]:=by rw[xJ];show e
  rw[b,XJ,e];rfl
theorem qbg(z:Str)(k:Nat):(Txt.slice z none (some (k:Int))).cps.toList=z.cps.toList.take k:=by
 unfold Txt.slice;rw[slice_ix];have hz:z.length=z.cps.toList.length:=by simp[Str.length]
 split
 .rename_i h
  rw[YT] at h;have:min k z.length=z.length:=by simpa using h
  rw[YQ (by lk)]
 .show(List.filterMap _ _).toArray.toList=_;rw[qeV z.cps (min k z.length) (kO _ _)];show z.cps.toList.take (min k z.length)=_;by_cases a:k<=z.length
  .rw [Kb a]
  .rw [kR (by lk),YQ (by lk),YQ (by lk)]
theorem qa1(a b:Str):(a++b).cps.toList=a.cps.toList++b.cps.toList:=by
 show(a.cps++b.cps).toList=_;show Array.toList_append
theorem qd8:∀{xs:LS},(∀ x∈xs,x.cps.toList.all sg=true)->(Str.join "" xs).cps.toList.all sg=true
 | [],_=>rfl
 | [x],h=>h x (by simp)
 | x::y::r,h=>by
  have e:Str.join "" (x::y::r)=x++""++Str.join "" (y::r):=rfl;rw[e,qa1,qa1,kq,kq,h x (by simp),qd8 fun z hz=>h z (yC _ hz)]
  room
theorem qgE{c:Nat}(h:97<=c)(b:c<=122):sg c=true:=by
 have a:∀ i,i<26->sg (97+i)=true:=by room
 have:=a (c-97) (by lk)
 rwa[show 97+(c-97)=c by lk] at this
theorem join_len{xs:LS}(h:∀ x∈xs,x.length=1):(Txt.join "" xs).length=xs.length:=by
 have e:Txt.join "" xs=Str.join "" xs:=Yy.mp (join_plain_closes "" xs);rw[e]
 cases xs with
 | nil=>rfl
 | cons a l =>
  rw[len_join_cons]
  have b:∀ l:LS,(∀ x∈l,x.length=1)->(l.map (·.length)).sum=l.length:=by
   intro l
   induction l with
   | nil=>intro _;rfl
   | cons a l ih =>
    intro h;rw[YC,kM,h a yU,ih fun x c=>h x (yC _ c),yJ];lk
  have z:("":Str).length=0:=by room
  rw[b _ h,z];lk
theorem sum_ones{xs:LS}(h:∀ x∈xs,x.length=1):(xs.map (·.length)).sum=xs.length:=by
 induction xs with
 | nil=>rfl
 | cons a l ih =>
  rw[YC,kM,h a yU,ih fun x b=>h x (yC _ b),yJ];lk
def Signs(p:Addr)(H:Hp)(i:Nat)(ys:List V)(H':Hp):Prop:=BB p H H'/\∃ xs:LS,ys=xs.map V.str/\xs.length=i/\∀ x∈xs,x.length=1/\x.cps.toList.all sg=true
def L26:Str:="abcdefghijklmnopqrstuvwxyz"
theorem qfK{i:Int}(b:0<=i)(h1:i<26):atI L26.cps.toList i=some (97+i.toNat):=by
 obtain⟨n,rfl⟩:=Int.eq_ofNat_of_zero_le b;have a:∀ n,n<26->L26.cps.toList[n]?=some (97+n):=by room
 rw[y0];show qv (a n (by lk))
theorem qbs{x:Str}{l:LN}(e:x.cps.toList=l)(h1:1<=l.length)(a:l.length<=6)(h:l.all sg=true):zX x=true:=by
 have hl:x.length=l.length:=by rw[<- e];simp[Str.length]
 unfold zX;rw[yG ⟨by lk,by lk⟩,e];show h
theorem nodup_key(h:∀(i j:Nat) (s:Str),ss[i]?=some s->ss[j]?=some s->i=j):ss.Nodup:=by
 show Y6.mpr fun i j a c b e=>?_;have:=h i j ss[j] (by rw[yb a,e]) (yb c);lk
def NL(p:Addr)(H':Hp)(l:Addr)(ss:LS):Prop:=H' l=some (.lst (ss.map V.str))/\l≠p
structure NOk(ss:LS):Prop where
 few:ss.length<=14
 nd:ss.Nodup
 nm:∀ s∈ss,zX s=true
def PrT(p:Addr)(H:Hp)(t:Addr)(ab:Str×Str):Prop:=t≠p/\H t=some (.tup [.str ab.1,.str ab.2])
def TL(p:Addr)(H:Hp)(l:Addr)(ts:LQ)(tps:LP):Prop:=H l=some (.lst (ts.map V.ref))/\l≠p/\All2 (PrT p H) ts tps
structure TOk(ss:LS)(tps:LP):Prop where
 few:tps.length<=30
 ok:∀ ab∈tps,∃ j k:Nat,j<k/\ss[j]?=some ab.1/\ss[k]?=some ab.2
 nd:tps.Nodup
inductive spTies(vs:List V)(H:Hp)(Q:VK)(E:XK):Prop|mk (p n:Addr) (ss:LS) (_:vs=[.ref p,.ref n]) (_:Box H p) (_:NL p H n ss) (_:NOk ss) (_:∀(l:Addr) (ts:LQ) (tps:LP) (H':Hp),BB p H H'->H l=none->TL p H' l ts tps->TOk ss tps->Q (.ref l) H')
def Shuf(tps d:LP):Prop:=∃ c,d.Perm c/\All2 (fun a b=>b=a\/b=(a.2,a.1)) tps c
inductive spShuf(vs:List V)(H:Hp)(Q:VK)(E:XK):Prop|mk (p l:Addr) (ts:LQ) (tps:LP) (_:vs=[.ref p,.ref l]) (_:Box H p) (_:TL p H l ts tps) (_:tps.length<=30) (_:∀(l':Addr) (us:LQ) (ups:LP) (H':Hp),BB p H H'->H l'=none->TL p H' l' us ups->Shuf tps ups->Q (.ref l') H')
theorem all_true(n:Nat):(List.range n).all (fun _=>true)=true:=by simp
theorem pair_eqD{a b:Addr}{c t':Str}(h:H b=some (.tup [.str c,.str t']))(g:H a=some (.tup [.str s,.str t])):EqD K H 1 (.ref b) (.ref a) (decide ((c,t')=(s,t))):=by
 by_cases e:b=a
 .subst e;rw[h] at g;cases g;rw[yD rfl];show .self
 .have z:=EqT.tup (K:=K) (H:=H) (n:=0) (e:=fun j=>if j=0 then eqV (.str c) (.str s) else eqV (.str t') (.str t)) (SqT.of h) (SqT.of g) fun j x y d f=>by
   match j,d,f with
   | 0,d,f=>cases d;cases f;show .flat rfl rfl
   | 1,d,f=>cases d;cases f;show .flat rfl rfl
  have i:((List.range (min [V.str c,V.str t'].length [V.str s,V.str t].length)).all (fun j=>if j=0 then eqV (.str c) (.str s) else eqV (.str t') (.str t))&&[V.str c,V.str t'].length==[V.str s,V.str t].length)=decide ((c,t')=(s,t)):=by
   show((c==s)&&((t'==t)&&true)&&true)=_;rw[Yn];simp
  rw[i] at z;show .deep z e
def qeu(H:Hp)(z:V):Option (Str×Str):=match z with
 | .ref t=>(match H t with
  | some (.tup [.str a,.str b])=>some (a,b)
  | _=>none)
 | _=>none
theorem qcp{t:Addr}(h:H t=some (.tup [.str a,.str b])):qeu H (.ref t)=some (a,b):=by
 unfold qeu;dsimp only;rw[h]
theorem any_in(h:All2 (fun t ab=>H t=some (.tup [.str ab.1,.str ab.2])) ts tps)(st:Str×Str):((ts.map V.ref).any fun z=>decide (qeu H z=some st))=decide (st∈tps):=by
 rw[Yn,YK,yE];constructor
 .rintro ⟨z,hz,e⟩;obtain⟨t,f,rfl⟩:=yI.mp hz;obtain⟨ab,b,r⟩:=h.mem f;have e:=yk e;rw[qcp r] at e;cases e;show b
 .intro d;obtain⟨k,c,e⟩:=xZ d;have a:k<ts.length:=by rw[h.len];show c
  have r:=h.at_ k ts[k] tps[k] (yb a) (yb c);show⟨.ref ts[k],yI.mpr ⟨_,xD a,rfl⟩,yD ?_⟩;rw[qcp r,e]
theorem pl_in{a:Addr}{Q:VK}(h:PL H l ts tps)(d:H a=some (.tup [.str s,.str t]))(q:Q (.bl (decide ((s,t)∈tps))) H):qey K false (.ref a) (.ref l) H Q:=by
 show .inr (.inr ⟨l,ts.map V.ref,fun z=>decide (qeu H z=some (s,t)),1,rfl,SqL.of h.1,by decide,fun z hz=>?_,?_⟩)
 .obtain⟨b,f,rfl⟩:=yI.mp hz;obtain⟨ab,_,r⟩:=h.2.mem f;have e:=pair_eqD (K:=K) r d
  have c:decide (qeu H (.ref b)=some (s,t))=decide ((ab.1,ab.2)=(s,t)):=by
   rw[qcp r];apply Yq.mpr;rw[Option.some.injEq]
  show EqD K H 1 (.ref b) (.ref a) (decide (qeu H (.ref b)=some (s,t)));rw[c];show e
 .rw [any_in h.2];show q
theorem jc{y:V}(a:(ss.map V.str)[i]?=some y):∃ s,ss[i]?=some s/\y=.str s:=by
 rw[yd] at a
 cases h:ss[i]? with
 | none=>rw[h] at a;cases a
 | some s=>rw[h] at a;cases a;show⟨s,rfl,rfl⟩
def Adj(ss:LS)(ns:LN)(tps:LP):Prop:=∀ a b s t,ss[a]?=some s->ss[b]?=some t->((ns.getD a 0).testBit b=true↔((s,t)∈tps\/(t,s)∈tps))
theorem K9:FnScope ["web","thing","paired","tie"] wqe (qg qaa):=fS
theorem uL:FnScope wqp wqp (qg zg):=fS
def qcq(a:LS):List (Key×V):=a.map fun s=>(.inr s,.bl true)
theorem qal(y:Str):∀ a:LS,(jZ (qcq a) (.inr y:Key)).isSome=decide (y∈a)
 | []=>rfl
 | s::r=>by
  by_cases e:s=y
  .subst e;show(jZ (((.inr s:Key),V.bl true)::qcq r) _).isSome=_;rw[yD (by simp)];simp[jZ]
  .show(jZ (((.inr s:Key),V.bl true)::qcq r) _).isSome=_;rw[qZ (p:=((.inr s:Key),V.bl true)) (fun z=>e (xn z)),qal y r];apply Yq.mpr;simp[Ym e]
theorem qcr{a:LS}(h:y∉a):zw (qcq a) (.inr y:Key) (.bl true)=qcq (a++[y]):=by
 have:jZ (qcq a) (.inr y:Key)=none:=by
  have:=qal y a;rw[yl h] at this;show Option.isNone_iff_eq_none.mp (by rw[<- Option.not_isSome,this];rfl)
 rw[qaQ _ this];unfold qcq;rw[yu];rfl
def qz(qs:LP):LS:=qs.flatMap fun q=>[q.1,q.2]
def prK(qs:LP):List (Key×V):=qs.flatMap fun q=>[(.inr q.1,.str q.2),(.inr q.2,.str q.1)]
def pt:LP->Str->Option Str
 | [],_=>none
 | q::r,s=>if q.1=s then some q.2 else if q.2=s then some q.1 else pt r s
theorem jq(s:Str):∀ qs,jZ (prK qs) (.inr s:Key)=(pt qs s).map V.str
 | []=>rfl
 | q::r=>by
  show jZ (((.inr q.1:Key),V.str q.2)::((.inr q.2:Key),V.str q.1)::prK r) _=(pt (q::r) s).map V.str;unfold pt;by_cases h1:q.1=s
  .rw [ji (p:=((.inr q.1:Key),V.str q.2)) (congrArg Sum.inr h1),yG h1];rfl
  .rw [qZ (p:=((.inr q.1:Key),V.str q.2)) (fun z=>h1 (xn z)),yB h1];by_cases a:q.2=s
   .rw [ji (p:=((.inr q.2:Key),V.str q.1)) (congrArg Sum.inr a),yG a];rfl
   .rw [qZ (p:=((.inr q.2:Key),V.str q.1)) (fun z=>a (xn z)),yB a,jq s r]
theorem pt_none:∀{qs:LP},pt qs s=none↔s∉qz qs
 | []=>by simp[pt,qz]
 | q::r=>by
  have e:qz (q::r)=q.1::q.2::qz r:=rfl;rw[e];unfold pt;by_cases h1:q.1=s
  .rw [yG h1];simp[h1]
  .rw [yB h1];by_cases a:q.2=s
   .rw [yG a];simp[a]
   .rw [yB a,pt_none];simp only[yx,not_or];show⟨fun z=>⟨Ym h1,Ym a,z⟩,fun z=>z.2.2⟩
structure PGo(ss:LS)(tps qs:LP):Prop where
 inn:∀ q∈qs,(q∈tps\/(q.2,q.1)∈tps)/\q.1∈ss/\q.2∈ss/\q.1≠q.2
 nd:(qz qs).Nodup
 few:qs.length<=30
theorem qaH(qs:LP):(qz qs).length=2*qs.length:=by
 induction qs with
 | nil=>rfl
 | cons q r ih=>show(q.1::q.2::qz r).length=_;simp only[yJ];lk
theorem zG(qs:LP)(q:Str×Str):qz (qs++[q])=qz qs++[q.1,q.2]:=by
 unfold qz;rw[x0];rfl
theorem PGo.new(g:PGo ss tps qs)(h:qs[i]?=some ab):qs.take (i+1)=qs.take i++[ab]/\(qz (qs.take i++[ab])).Nodup/\ab.1∉qz (qs.take i)/\ab.2∉qz (qs.take i):=by
 have b:qs.take (i+1)=qs.take i++[ab]:=by rw[yK,h];rfl
 have a:(qz (qs.take i++[ab])).Nodup:=by
  rw[<- b];have:qz qs=qz (qs.take (i+1))++qz (qs.drop (i+1)):=by unfold qz;rw[<- x0,X6]
  have e:=g.nd;rw[this] at e;show(Yi.mp e).1
 have c:=a;rw[zG] at c;have d:=(Yi.mp c).2.2;show⟨b,a,fun z=>d _ z ab.1 (by simp) rfl,fun z=>d _ z ab.2 (by simp) rfl⟩
inductive spHt(cw:Addr)(vs:List V)(H:Hp)(Q:VK)(E:XK):Prop|mk (x t:Addr) (ss:LS) (ns:LN) (tps:LP) (ab:Str×Str) (_:vs=[.ref x,.ref t]) (_:WebAt cw H x ss ns) (_:Adj ss ns tps) (_:H t=some (.tup [.str ab.1,.str ab.2])) (_:(ab∈tps\/(ab.2,ab.1)∈tps)) (_:ab.1∈ss) (_:ab.2∈ss) (_:ab.1≠ab.2) (_:∀ H',L2.Same H H'->Q (.bl true) H')
inductive spAp(cw:Addr)(vs:List V)(H:Hp)(Q:VK)(E:XK):Prop|mk (x l:Addr) (ss:LS) (ns:LN) (us:LQ) (tps qs:LP) (_:vs=[.ref x,.ref l]) (_:WebAt cw H x ss ns) (_:Adj ss ns tps) (_:PL H l us qs) (_:PGo ss tps qs) (_:∀ H',L2.Same H H'->Q (.bl true) H')
theorem ok_ht(F:Fun K "has_tie" "Web.has_tie" zg f fd)(T:Txt K mg cc cw)(z:wq5 3 "are_two_places" wqn spTwo)(A:wq6 6 cw "tied" wqy (spTied cw)):wq7 7 f fd wqp (spHt cw):=by
 show F.ok uL fun _ _ _ _ H vs Q E g h=>?_
 .obtain⟨x,t,ss,ns,tps,ab,rfl,r,B,n,c,m1,l,e,q⟩:=h;have u:=jX g;obtain⟨y,m,ol,I,s,d,D,C,hw⟩:=id r;show⟨_,(qe (qo (qcH (qq z (hmR g) qA (qa (qB (K:=K) rfl (pv 0) rfl) (qa (pv 1) qd))) (qcG (qE A (hmR g) (pv 0) (qa (qr (qt (K:=K) rfl u) (pv 1) qh (fun _ _=>rfl)) (qa (qr (qt (K:=K) rfl u) (pv 1) qh (fun _ _=>rfl)) qd))))))),?_⟩;apply .inl ⟨x,cw,y,_,.ref m,rfl,s,T.wcl,T.wn,jY,?_⟩;apply⟨m,t,ss,ab.1,ab.2,rfl,d,n,hw.nm _ m1,hw.nm _ l,m1,l,e,fun H1 b=>?_⟩;show⟨true,rfl,qad ?_⟩;have a:=b _ _ n;apply⟨x,y,_,rfl,b _ _ s,j8 (by room),?_⟩;apply .inl (qaV a (v:=.str ab.1) (qv (j:=0) rfl) ?_);apply .inl (qaV a (v:=.str ab.2) (qv (j:=1) rfl) ?_);ext;obtain⟨j,p⟩:=yf m1;obtain⟨i,o⟩:=yf l;show⟨x,ss,ns,ab.1,ab.2,j,i,rfl,r.same b,p,o,fun H2 G=>?_⟩;rw[(B j i ab.1 ab.2 p o).mpr c];show q H2 (b.trans G)
theorem ok_ap(F:Fun K "are_pairs" "are_pairs" qaa f fd)(T:Txt K mg cc cw)(K5:wq6 7 cw "has_tie" wqp (spHt cw)):wq7 8 f fd wqe (spAp cw):=by
 show F.ok K9 fun _ _ _ _ H vs Q E W h=>?_
 .obtain⟨x,l,ss,ns,us,tps,qs,rfl,U,hA,⟨hl,r⟩,g,q⟩:=h;have e:=jX W;obtain⟨wx,dd,ol,nn,hb,_⟩:=id U;have few:=g.few;have M:=r.len;show⟨_,(qc (qR (jk (jd (qp (qcd (K:=K) rfl) rfl T.b_isinstance Y4 (qa (pv 1) (qa (zd (v:=.ty "list") rfl T.b_list Xu rfl) qd))))) (qe (qo jS)) qw)
 (qc (qk (i:=2) K9.nd rfl (yH rfl) j0)
 (qc (qX yS rfl (qG (K:=K) rfl (pv 1)) (qm (i:=3) K9.nd rfl (yH rfl))
 (qc (qR (PW.pt (qbm (jk (jd (qE K5 (hmR W) (pv 0) (qa (pv 3) qd)))) (qbm (qj (qae (K:=K) rfl e) (qr (qt (K:=K) rfl e) (pv 3) qh (fun _ _=>rfl)) (pv 2) (by with_unfolding_all rfl)) (qah (qj (qae (K:=K) rfl e) (qr (qt (K:=K) rfl e) (pv 3) qh (fun _ _=>rfl)) (pv 2) (by with_unfolding_all rfl)))))) (qe (qo jS)) qw)
 (qc (jI jS (jH (pv 2) (qr (qt (K:=K) rfl e) (pv 3) qh (fun _ _=>rfl)) (jJ e)))
 (qe (jI jS (jH (pv 2) (qr (qt (K:=K) rfl e) (pv 3) qh (fun _ _=>rfl)) (jJ e)))))))
 (qe (qo jS))))),?_⟩
  apply qet (.inl (.lst hl)) rfl (qbd K "list" (by simp) "list" (by simp)) ?_;apply yq ?_;ext;intro d C;have N:=qD (Sr H) (o:=.dK []) C;have S:upd H d (.dK []) d=some (.dK (qcq [])):=qb;generalize upd H d (.dK [])=H1 at N S;apply .inl ⟨⟨_,.of (N _ _ hl)⟩,qQ (xs:=us.map V.ref) (fun i σ J=>L2.Same H J/\∃ O,σ=[some (.ref x),some (.ref l),some (.ref d),O]/\J d=some (.dK (qcq (qz (qs.take i))))) ⟨N,_,rfl,S⟩ (fun i σ J _ u=>.of (u.1 _ _ hl)) (fun i y σ J X u=>?_) fun σ J u=>?_⟩
  .obtain⟨n,O,rfl,c⟩:=u;rw[yd] at X;obtain⟨b,s,rfl⟩:=yn.mp X;have hi:i<us.length:=(yc.mp s).1;obtain⟨ab,m⟩:∃ ab,qs[i]?=some ab:=⟨_,yb (by rw[<- M];show hi)⟩;have B:=r.at_ i b ab s m;obtain⟨ht,m1,m2,t⟩:=g.inn ab (ye m);obtain⟨L,aa,Y,Z⟩:=g.new m;have ac:(qz (qs.take i)).length<=60:=by rw[qaH,yQ];lk
   have I:b≠d:=fun z=>by rw[z,C] at B;cases B
   apply⟨x,wx,_,rfl,n _ _ hb,j8 (by room),?_⟩;apply⟨x,b,ss,ns,tps,ab,rfl,U.same n,hA,n _ _ B,ht,m1,m2,t,fun G D=>?_⟩;have A:=n.trans D;have a:=A _ _ B;apply yq ?_;apply .inl (qaV a (v:=.str ab.1) (qv (j:=0) rfl) ?_);apply .inr (.inl ⟨d,_,rfl,DGet.k (k:=Sum.inr ab.1) (D _ _ c),?_⟩);rw[yB (by decide),qal,yl Y];apply yq ?_;apply .inl (qaV a (v:=.str ab.2) (qv (j:=1) rfl) ?_);apply .inr (.inl ⟨d,_,rfl,DGet.k (k:=Sum.inr ab.2) (D _ _ c),?_⟩);rw[yB (by decide),qal,yl Z];apply yq ?_;apply .inl (qaV a (v:=.str ab.1) (qv (j:=0) rfl) ?_);apply .inr ⟨d,_,rfl,DPut.k (k:=Sum.inr ab.1) (D _ _ c) (by unfold qcq;rw[ya,YA];lk),?_⟩;rw[qcr Y];have s3:=qaC A (o:=.dK (qcq (qz (qs.take i)++[ab.1]))) C;have R:upd G d (.dK (qcq (qz (qs.take i)++[ab.1]))) d=some (.dK (qcq (qz (qs.take i)++[ab.1]))):=qb;have p:upd G d (.dK (qcq (qz (qs.take i)++[ab.1]))) b=some (.tup [.str ab.1,.str ab.2]):=by rw[qf I];show a
   generalize upd G d (.dK (qcq (qz (qs.take i)++[ab.1])))=J3 at s3 R p;apply .inl (qaV p (v:=.str ab.2) (qv (j:=1) rfl) ?_);apply .inr ⟨d,_,rfl,DPut.k (k:=Sum.inr ab.2) R (by unfold qcq;rw[ya,yt,YA];simp only[yJ,YW];lk),?_⟩;rw[qcr (fun z=>by rcases yA.mp z with z | z;show Z z;show t (yy.mp z).symm)];show⟨qaC s3 C,_,rfl,by rw[qb,L,zG,Ys];rfl⟩
  .obtain⟨n,O,rfl,c⟩:=u;apply q J n
theorem KZ:FnScope ["web","pairs","partners","pair"] wqf (qg zh):=fS
theorem qeW(qs:LP):(prK qs).length=2*qs.length:=by
 induction qs with
 | nil=>rfl
 | cons q r ih=>show(_::_::prK r).length=_;simp only[yJ];rw[ih];lk
theorem prK_snoc(qs:LP)(q:Str×Str):prK (qs++[q])=prK qs++[(.inr q.1,.str q.2),(.inr q.2,.str q.1)]:=by
 unfold prK;rw[x0];rfl
theorem qeX{q:Str×Str}(h:(qz (qs++[q])).Nodup):zw (zw (prK qs) (.inr q.1:Key) (.str q.2)) (.inr q.2:Key) (.str q.1)=prK (qs++[q]):=by
 rw[zG] at h;obtain⟨h1,b,c⟩:=Yi.mp h;have e:q.1∉qz qs:=fun z=>c _ z _ (by simp) rfl;have f:q.2∉qz qs:=fun z=>c _ z q.2 (by simp) rfl;have g:q.1≠q.2:=by simp at b;show b
 have i:jZ (prK qs) (.inr q.1:Key)=none:=by rw[jq,pt_none.mpr e];rfl
 rw[qaQ _ i]
 have a:jZ (prK qs++[((.inr q.1:Key),V.str q.2)]) (.inr q.2:Key)=none:=by
  have a:jZ (prK qs) (.inr q.2:Key)=none:=by rw[jq,pt_none.mpr f];rfl
  unfold jZ at a ⊢;rw[List.find?_append];have:(prK qs).find? (fun d=>decide (d.1=(.inr q.2:Key)))=none:=by simpa using a
  rw[this];simp[g]
 rw[qaQ _ a,prK_snoc];simp
inductive spPn(cw:Addr)(vs:List V)(H:Hp)(Q:VK)(E:XK):Prop|mk (x l:Addr) (ss:LS) (ns:LN) (us:LQ) (tps qs:LP) (_:vs=[.ref x,.ref l]) (_:WebAt cw H x ss ns) (_:Adj ss ns tps) (_:PL H l us qs) (_:PGo ss tps qs) (_:∀(d:Addr) (H':Hp),L2.Same H H'->H d=none->H' d=some (.dK (prK qs))->Q (.ref d) H')
theorem ok_pn(F:Fun K "partners_in" "partners_in" zh f fd)(T:Txt K mg cc cw)(ue:wq5 8 "are_pairs" wqe (spAp cw)):wq7 9 f fd wqf (spPn cw):=by
 show F.ok KZ fun _ _ _ _ H vs Q E R h=>?_
 .obtain⟨x,l,ss,ns,us,tps,qs,rfl,Y,X,⟨hl,n⟩,g,q⟩:=h;have p:=jX R;have few:=g.few;have u:=n.len;show⟨_,(qc (qR (jk (jd (qq ue (hmR R) qA (qa (pv 0) (qa (pv 1) qd))))) (qe jr) qw)
 (qc (qk (i:=2) KZ.nd rfl (yH rfl) j0)
 (qc (qX yS rfl (qG (K:=K) rfl (pv 1)) (qm (i:=3) KZ.nd rfl (yH rfl))
 (qc (jI (qr (qt (K:=K) rfl p) (pv 3) qh (fun _ _=>rfl)) (jH (pv 2) (qr (qt (K:=K) rfl p) (pv 3) qh (fun _ _=>rfl)) (jJ p)))
 (qe (jI (qr (qt (K:=K) rfl p) (pv 3) qh (fun _ _=>rfl)) (jH (pv 2) (qr (qt (K:=K) rfl p) (pv 3) qh (fun _ _=>rfl)) (jJ p))))))
 (qe (qo (pv 2)))))),?_⟩
  apply⟨x,l,ss,ns,us,tps,qs,rfl,Y,X,⟨hl,n⟩,g,fun H1 U=>?_⟩;apply yq ?_;ext;intro d O;have c:=U.free O;have I:=qD U (o:=.dK []) O;have N:upd H1 d (.dK []) d=some (.dK (prK [])):=qb;generalize upd H1 d (.dK [])=H2 at I N;apply .inl ⟨⟨_,.of (I _ _ hl)⟩,qQ (xs:=us.map V.ref) (fun i σ J=>L2.Same H J/\∃ L,σ=[some (.ref x),some (.ref l),some (.ref d),L]/\J d=some (.dK (prK (qs.take i)))) ⟨I,_,rfl,N⟩ (fun i σ J _ t=>.of (t.1 _ _ hl)) (fun i y σ J S t=>?_) fun σ J t=>?_⟩
  .obtain⟨A,L,rfl,a⟩:=t;rw[yd] at S;obtain⟨b,s,rfl⟩:=yn.mp S;have Z:i<us.length:=(yc.mp s).1;obtain⟨ab,r⟩:∃ ab,qs[i]?=some ab:=⟨_,yb (by rw[<- u];show Z)⟩;have B:=n.at_ i b ab s r;obtain⟨G,D,n1,n2⟩:=g.new r;have C:b≠d:=fun z=>by rw[z,c] at B;cases B
   have m:=A _ _ B;have aa:(prK (qs.take i)).length<=2000:=by rw[qeW,yQ];lk
   apply .inl (qaV m (v:=.str ab.2) (qv (j:=1) rfl) ?_);apply .inl (qaV m (v:=.str ab.1) (qv (j:=0) rfl) ?_);apply .inr ⟨d,_,rfl,DPut.k (k:=Sum.inr ab.1) a (by rw[YA];lk),?_⟩;have W:=qaC A (o:=.dK (zw (prK (qs.take i)) (Sum.inr ab.1) (.str ab.2))) c;have M:upd J d (.dK (zw (prK (qs.take i)) (Sum.inr ab.1) (.str ab.2))) d=some (.dK (zw (prK (qs.take i)) (Sum.inr ab.1) (.str ab.2))):=qb;have e:upd J d (.dK (zw (prK (qs.take i)) (Sum.inr ab.1) (.str ab.2))) b=some (.tup [.str ab.1,.str ab.2]):=by rw[qf C];show m
   generalize upd J d (.dK (zw (prK (qs.take i)) (Sum.inr ab.1) (.str ab.2)))=J3 at W M e;apply .inl (qaV e (v:=.str ab.1) (qv (j:=0) rfl) ?_);apply .inl (qaV e (v:=.str ab.2) (qv (j:=1) rfl) ?_);apply .inr ⟨d,_,rfl,DPut.k (k:=Sum.inr ab.2) M ?_,?_⟩
   .have:=jp (prK (qs.take i)) (Sum.inr ab.1:Key) (.str ab.2);rw[YA];lk
   .show⟨qaC W c,_,rfl,by rw[qb,qeX D,G]⟩
  .obtain⟨A,L,rfl,a⟩:=t;rw[ya,u,yP] at a;apply q d J A c a
structure Gr(A:Str->Str->Prop)(f:Str->Option Str):Prop where
 as:∀{a b},A a b->A b a
 ir:∀{a b},A a b->a≠b
 fs:∀{a b},f a=some b->f b=some a
 fa:∀{a b},f a=some b->A a b
structure FS where
 rows:Str->Option (LS)
 par:Str->Option Str
 bas:Str->Str
def Turns(A:Str->Str->Prop)(f:Str->Option Str)(r:LS):Prop:=∀(j:Nat) a b,r[j]?=some a->r[j+1]?=some b->A a b/\(f a=some b↔j % 2=1)
structure Alt(A:Str->Str->Prop)(f:Str->Option Str)(r:LS)(v:Str):Prop where
 nd:r.Nodup
 odd:r.length % 2=1
 hd:∀ s,r[0]?=some s->f s=none
 tl:∃ r0,r=r0++[v]
 st:Turns A f r
structure FI(A:Str->Str->Prop)(f:Str->Option Str)(S:FS):Prop where
 alt:∀ v r,S.rows v=some r->Alt A f r v
 bse:∀ v r,S.rows v=some r->∃ rb t,S.rows (S.bas v)=some rb/\r=rb++t/\∀ u∈t,S.bas u=S.bas v
 idm:∀ v r,S.rows v=some r->S.bas (S.bas v)=S.bas v
 dwn:∀ b r q,S.rows b=some r->S.bas b=b->f b=some q->S.rows q=none/\∃ z rz,S.par q=some z/\S.rows z=some rz/\r=rz++[q,b]
 mat:∀ v,S.bas v≠v->(∃ r,S.rows v=some r)/\∃ u,f v=some u/\S.bas u=S.bas v
 odd:∀ x z,S.par x=some z->A z x/\(∃ r,S.rows z=some r)/\∃ y r,f x=some y/\S.rows y=some r
section
variable{A:Str->Str->Prop}{f:Str->Option Str}{S:FS}
theorem FI.own(I:FI A f S)(h:S.rows v=none):S.bas v=v:=Yh fun z=>by
 obtain⟨⟨r,e⟩,_⟩:=I.mat v z;rw[h] at e;cases e
theorem FI.evb(I:FI A f S){r:LS}(h:S.rows v=some r):∃ a,S.rows (S.bas v)=some a:=(I.bse v r h).elim fun a z=>⟨a,z.elim fun _ y=>y.1⟩
theorem FI.pair(I:FI A f S){w:Str}{r s:LS}(hv:S.rows v=some r)(hw:S.rows w=some s)(h:f v=some w):S.bas v=S.bas w:=by
 by_cases z:S.bas v=v
 .have:=(I.dwn v r w hv z h).1;rw[hw] at this;cases this
 .obtain⟨_,u,a,e⟩:=I.mat v z;rw[h] at a;cases a;show e.symm
inductive Ch(f:Str->Option Str)(S:FS):Str->LS->Prop
 | root {b:Str}:f b=none->Ch f S b [b]
 | step {b q z:Str} {l:LS}:f b=some q->S.par q=some z->Ch f S (S.bas z) l->Ch f S b (b::l)
theorem Ch.one{l:LS}(h:Ch f S b l):∀{m},Ch f S b m->m=l:=by
 induction h with
 | root e=>intro m g;cases g with
  | root _=>rfl
  | step e' _ _=>rw[e] at e';cases e'
 | step e p _ ih=>intro m g;cases g with
  | root e'=>rw[e] at e';cases e'
  | step e' p' g'=>rw[e] at e';cases e';rw[p] at p';cases p';rw[ih g']
theorem Ch.ne{l:LS}(h:Ch f S b l):∃ t,l=b::t:=by cases h<;>show⟨_,rfl⟩
theorem FI.chain(I:FI A f S):∀(n:Nat) {b:Str} {r:LS},r.length<=n->S.rows b=some r->S.bas b=b->∃ l,Ch f S b l
 | n,b,r,hn,hb,hbb=>by
  cases e:f b with
  | none=>show⟨_,.root e⟩
  | some q =>
   obtain⟨_,z,rz,p,hz,c⟩:=I.dwn b r q hb hbb e;obtain⟨a,t,h1,d,_⟩:=I.bse z rz hz;have hl:a.length<n:=by rw[c,d] at hn;simp at hn;lk
   match n,hl with
   | n+1,hl =>
    obtain⟨l,g⟩:=I.chain n (b:=S.bas z) (r:=a) (by lk) h1 (I.idm z rz hz);show⟨_,.step e p g⟩
theorem FI.chainOf(I:FI A f S){r:LS}(h:S.rows v=some r):∃ l,Ch f S (S.bas v) l:=by
 obtain⟨a,e⟩:=I.evb h;show I.chain _ (yh _) e (I.idm v r h)
def Cov(f:Str->Option Str)(S:FS)(l:LS)(u:Str):Prop:=∃ d∈l,S.bas u=d\/f d=some u
theorem Cov.mono{l m:LS}(h:Cov f S l u)(a:∀ d∈l,d∈m):Cov f S m u:=h.elim fun d z=>⟨d,a d z.1,z.2⟩
theorem Ch.up(I:FI A f S){l:LS}(h:Ch f S b l):∀{v:Str} {r:LS},S.rows v=some r->S.bas v=b->∀{l1 l2:LS} {c:Str},l=l1++c::l2->∃ s t,S.rows c=some s/\S.bas c=c/\Ch f S c (c::l2)/\r=s++t/\∀ u∈t,S.bas u=c\/Cov f S l1 u:=by
 induction h with
 | root e =>
  intro v r hv m l1 l2 c j
  cases l1 with
  | cons x y=>show absurd (congrArg List.length j) (by simp)
  | nil =>
   cases j;obtain⟨o,t,h1,n,i⟩:=I.bse v r hv;rw[m] at h1 i;show⟨o,t,h1,by rw[<- m];show I.idm v r hv,.root e,n,fun u hu=>.inl (i u hu)⟩
 | @step b q z l e p g ih =>
  intro v r hv m l1 l2 c j;obtain⟨o,t,h1,n,i⟩:=I.bse v r hv;rw[m] at h1 i;have a:S.bas b=b:=by rw[<- m];show I.idm v r hv
  cases l1 with
  | nil =>
   cases j;show⟨o,t,h1,a,.step e p g,n,fun u hu=>.inl (i u hu)⟩
  | cons x y =>
   cases j;obtain⟨J,K,rz,w,hz,B⟩:=I.dwn b o q h1 a e;rw[p] at w;cases w;obtain⟨s,t',D,E,F,G,H⟩:=ih hz rfl rfl;show⟨s,t'++[q,b]++t,D,E,F,by rw[n,B,G];simp,fun u hu=>?_⟩;rcases yA.mp hu with hu | hu
   .rcases yA.mp hu with hu | hu
    .show(H u hu).imp id fun z=>z.mono fun d C=>yC _ C
    .simp only[yx,Yb,YH] at hu;rcases hu with rfl | rfl
     .show .inr ⟨b,yU,.inr e⟩
     .show .inr ⟨_,yU,.inl a⟩
   .show .inr ⟨b,yU,.inl (i u hu)⟩
theorem Ch.bs0(I:FI A f S){r l:LS}(hv:S.rows v=some r)(h:Ch f S (S.bas v) l)(hc:c∈l):∃ a,S.rows c=some a/\S.bas c=c:=by
 obtain⟨l1,l2,e⟩:=Yv hc;obtain⟨a,_,h1,b,_⟩:=h.up I hv rfl e;show⟨a,h1,b⟩
theorem Ch.cov(G:Gr A f)(I:FI A f S){r l:LS}(hv:S.rows v=some r)(h:Ch f S (S.bas v) l)(hu:u∈r):Cov f S l u:=by
 have hl:l≠[]:=by obtain⟨t,e⟩:=h.ne;rw[e];show kU _ _
 obtain⟨o,t,h1,s,w,x,y⟩:=h.up I hv rfl (xx hl).symm;have b:l.getLast hl∈l:=List.getLast_mem hl;rw[x] at hu;rcases yA.mp hu with hu | hu
 .have D:f (l.getLast hl)=none:=by
   cases w with
   | root e=>show e
   | step _ _ g=>obtain⟨_,e⟩:=g.ne;cases e
  have c:=I.alt _ _ h1;obtain⟨q,i⟩:=c.tl
  have m:q=[]:=by
   cases j:q.length with
   | zero=>show List.eq_nil_of_length_eq_zero j
   | succ n =>
    exfalso;have p:o.length=n+2:=by rw[i];simp[j]
    obtain⟨a,B⟩:∃ a,o[n]?=some a:=⟨_,yb (by lk)⟩;have C:o[n+1]?=some (l.getLast hl):=by rw[i,yO (by lk),j];simp
    have:=G.fs ((c.st n a _ B C).2.mpr (by have:=c.odd;lk));rw[D] at this;cases this
  rw[i,m] at hu;have e:u=l.getLast hl:=by simpa using hu
  show⟨_,b,.inl (by rw[e];show s)⟩
 .rcases y u hu with z | ⟨d,hd,z⟩
  .show⟨_,b,.inl z⟩
  .show⟨d,List.dropLast_subset l hd,z⟩
theorem Cov.apart(G:Gr A f)(I:FI A f S){l m:LS}(hl:∀ d∈l,∃ r,S.rows d=some r/\S.bas d=d)(n:∀ d∈m,∃ r,S.rows d=some r/\S.bas d=d)(t:∀ d∈l,d∉m)(h1:Cov f S l u)(p:Cov f S m u):False:=by
 have i:∀{d e:Str},(∃ r,S.rows d=some r/\S.bas d=d)->(∃ r,S.rows e=some r/\S.bas e=e)->S.bas u=d->f e=some u->False:=fun⟨r,b,q⟩ ⟨s,g,j⟩ h h'=>by
  have o:=(I.dwn _ _ _ g j h').1;have:=I.own o;rw[h] at this;rw[this,o] at b;cases b
 obtain⟨d,b,z⟩:=h1;obtain⟨e,g,y⟩:=p;have c:d≠e:=fun w=>t d b (by rw[w];show g);rcases z with z | z<;>rcases y with y | y
 .show c (z.symm.trans y)
 .show i (hl d b) (n e g) z y
 .show i (n e g) (hl d b) y z
 .have a:=G.fs z;rw[G.fs y] at a;show c (ym a).symm
theorem Turns.app{r s:LS}(h:Turns A f r)(g:∀(j:Nat) a b,s[j]?=some a->s[j+1]?=some b->A a b/\(f a=some b↔(r.length+j) % 2=1))(w:∀ a b,r[r.length-1]?=some a->s[0]?=some b->0<r.length->A a b/\(f a=some b↔(r.length-1) % 2=1)):Turns A f (r++s):=fun j a b c d=>by
 by_cases h1:j+1<r.length
 .rw [Yg (by lk)] at c;rw[Yg h1] at d;show h j a b c d
 .by_cases e:j+1=r.length
  .rw [Yg (by lk),show j=r.length-1 by lk] at c;rw[yO (by lk),show j+1-r.length=0 by lk] at d;rw[show j=r.length-1 by lk];show w a b c d (by lk)
  .rw [yO (by lk)] at c;rw[yO (by lk),show j+1-r.length=j-r.length+1 by lk] at d;have:=g _ a b c d
   rwa[show r.length+(j-r.length)=j by lk] at this
theorem Alt.back(G:Gr A f){r s t:LS}{w q:Str}(hw:Alt A f s w)(hv:Alt A f r v)(i:r=rz++q::c::t)(hz:rz.length % 2=1)(F:A w v)(H:f w≠some v)(B:∀ u∈s,u∉q::c::t):Alt A f (s++(q::c::t).reverse) q:=by
 obtain⟨L,p⟩:=hw.tl;obtain⟨K,l⟩:=hv.tl;have o:0<s.length:=by rw[p];simp
 have I:=hv.odd;have n:r.length=rz.length+(t.length+2):=by rw[i];simp
 have at_:∀{j:Nat} {a:Str},(q::c::t).reverse[j]?=some a->j<t.length+2/\r[r.length-1-j]?=some a:=fun{j a} h=>by
  have hl:=(yc.mp h).1;rw[YF] at hl;simp only[yJ] at hl;rw[List.getElem?_reverse (by simp only[yJ];lk)] at h;simp only[yJ] at h;show⟨by lk,?_⟩;rw[n]
  conv=>lhs;rw[i]
  rw[yO (by lk),show rz.length+(t.length+2)-1-j-rz.length=t.length+1+1-1-j by lk];show h
 show⟨Yi.mpr ⟨hw.nd,?_,fun x J y g e=>B x J (by rw[e];show kW.mp g)⟩,?_,fun y g=>?_,⟨s++(c::t).reverse,by simp⟩,hw.st.app (fun j a b h1 m=>?_) fun a b h1 m _=>?_⟩
 .show(List.reverse_perm _).nodup_iff.mpr ((Yi.mp (i ▸ hv.nd)).2.1)
 .rw [yt,YF];simp only[yJ];have:=hw.odd;lk
 .rw [Yg o] at g;show hw.hd y g
 .obtain⟨l1,C⟩:=at_ h1;obtain⟨l2,d⟩:=at_ m;have:=hv.st (r.length-1-(j+1)) b a d (by rw[show r.length-1-(j+1)+1=r.length-1-j by lk];show C);show⟨G.as this.1,⟨fun z=>?_,fun z=>?_⟩⟩
  .have:=this.2.mp (G.fs z);have:=hw.odd;lk
  .show G.fs (this.2.mpr (by have:=hw.odd;lk))
 .have D:a=w:=by
   rw[p,yt,yO (by simp)] at h1;simpa using h1.symm
  have E:b=v:=by
   obtain⟨_,d⟩:=at_ m;rw[Kj,l,yt,yO (by simp)] at d;simpa using d.symm
  subst D;subst E;show⟨F,⟨fun z=>absurd z H,fun z=>by have:=hw.odd;lk⟩⟩
end
section
variable{A:Str->Str->Prop}{f:Str->Option Str}{S S':FS}
theorem Ch.nd(I:FI A f S){l:LS}(h:Ch f S b l):∀{v:Str} {r:LS},S.rows v=some r->S.bas v=b->l.Nodup:=by
 induction h with
 | root e=>intro _ _ _ _;simp
 | @step b q z l e p g ih =>
  intro v r hv d;have a:S.bas b=b:=by rw[<- d];show I.idm v r hv
  obtain⟨n,h1⟩:=I.evb hv;rw[d] at h1;obtain⟨_,o,rz,i,hz,_⟩:=I.dwn b n q h1 a e;rw[p] at i;cases i;show yo.mpr ⟨fun j=>?_,ih hz rfl⟩;obtain⟨x,y,c⟩:=Yv j;obtain⟨_,_,_,_,m,_⟩:=g.up I hz rfl c;have:=m.one (.step e p g);rw[c] at this;have:=congrArg List.length this;simp at this;lk
theorem Ch.suf(I:FI A f S){r l:LS}(hv:S.rows v=some r)(h:Ch f S (S.bas v) l){q:Str}(e:l=l1++c::l2)(b:f c=some q):∃ rz t,r=rz++q::c::t/\rz.length % 2=1/\S.rows q=none/\∀ u∈q::c::t,Cov f S (l1++[c]) u:=by
 obtain⟨p,t,h1,a,_,g,i⟩:=h.up I hv rfl e;obtain⟨m,z,rz,_,n,o⟩:=I.dwn c p q h1 a b;show⟨rz,t,by rw[g,o];simp,(I.alt z rz n).odd,m,fun u hu=>?_⟩;rcases yx.mp hu with rfl | hu
 .show⟨c,by simp,.inr b⟩
 .rcases yx.mp hu with rfl | hu
  .show⟨u,by simp,.inl a⟩
  .rcases i u hu with z | z
   .show⟨c,by simp,.inl z⟩
   .show z.mono fun d j=>yR _ j
theorem Ch.meet(I:FI A f S){w:Str}{r s l:LS}(hv:S.rows v=some r)(hw:S.rows w=some s)(h:Ch f S (S.bas v) l)(h':Ch f S (S.bas w) l'){j:LS}{m:Str}(n:l=l1++m::l2)(i:l'=m1++m::j)(J:∀ d∈l1,d∉l'):j=l2/\∀ d∈m1,d∉l:=by
 obtain⟨_,_,_,_,k,_⟩:=h.up I hv rfl n;obtain⟨_,_,_,_,k',_⟩:=h'.up I hw rfl i;have E:j=l2:=(xC (k.one k')).2;show⟨E,fun d K hl=>?_⟩;obtain⟨a,b,C⟩:=Yv K;obtain⟨x,y,ex⟩:=Yv hl;obtain⟨_,_,_,_,g,_⟩:=h.up I hv rfl ex;obtain⟨_,_,_,_,g',_⟩:=h'.up I hw rfl (l1:=a) (c:=d) (l2:=b++m::j) (by rw[i,C];simp);have u:y=b++m::j:=(xC (g'.one g)).2;have e:=h.nd I hv rfl;have o:d∈l':=by rw[i,C];simp
 have q:d∉l1:=fun z=>J d z o;have p:d∈m::l2:=by rw[n] at hl;show(yA.mp hl).resolve_left q
 rcases yx.mp p with z | z
 .rw [z] at ex;rw[ex,u] at e;have:=(Yi.mp e).2.1;show(yo.mp this).1 (by simp)
 .have t:m∈x:=by
   obtain⟨L,D,F⟩:=Yv z;have B:l=(l1++m::L)++d::D:=by rw[n,F];simp
   obtain⟨_,_,_,_,H,_⟩:=h.up I hv rfl B;have G:D=y:=(xC (g.one H)).2;rw[B,G] at ex;rw[<- List.append_cancel_right ex];simp
  rw[ex,u] at e;show(Yi.mp e).2.2 m t m (by simp) rfl
def NewRow(S:FS)(v w u:Str)(r:LS):Prop:=∃ rv rw rz t,S.rows v=some rv/\S.rows w=some rw/\rv=rz++u::t/\r=rw++(u::t).reverse
def InR(f:Str->Option Str)(m:Str)(a:LS)(u:Str):Prop:=u=m\/∃ c∈a,u=c\/f c=some u
structure Mg(f:Str->Option Str)(S S':FS)(v w m:Str)(l1 m1:LS):Prop where
 par:S'.par=S.par
 old:∀ u r,S.rows u=some r->S'.rows u=some r
 new:∀ u r,S'.rows u=some r->S.rows u=some r\/(∃ c∈l1,f c=some u/\NewRow S v w u r)\/(∃ c∈m1,f c=some u/\NewRow S w v u r)
 all:∀ c∈l1++m1,∀ q,f c=some q->∃ r,S'.rows q=some r
 inn:∀ u,InR f m (l1++m1) (S.bas u)->S'.bas u=m
 out:∀ u,¬ InR f m (l1++m1) (S.bas u)->S'.bas u=S.bas u
theorem cut_one{a b c d:LS}{x:Str}(h:(a++x::b).Nodup)(e:a++x::b=c++x::d):a=c/\b=d:=by
 induction a generalizing c with
 | nil =>
  cases c with
  | nil=>show⟨rfl,(xC e).2⟩
  | cons y c =>
   obtain⟨f,g⟩:=xC e;show absurd (show x∈b by rw[g];simp) (yo.mp h).1
 | cons y a ih =>
  cases c with
  | nil =>
   obtain⟨f,g⟩:=xC e;show absurd (show y∈a++x::b by rw[f];simp) (yo.mp h).1
  | cons z c =>
   obtain⟨f,g⟩:=xC e;obtain⟨h1,i⟩:=ih (yo.mp h).2 g;show⟨by rw[f,h1],i⟩
theorem NewRow.ok(G:Gr A f)(I:FI A f S){w:Str}{r l:LS}(hv:S.rows v=some rv)(hw:S.rows w=some rw)(h:Ch f S (S.bas v) l)(h':Ch f S (S.bas w) l')(o:l=l1++l2)(J:∀ d∈l1,d∉l')(F:A w v)(H:S.bas w≠S.bas v)(hc:c∈l1)(L:f c=some u)(K:NewRow S v w u r) :
  Alt A f r u/\S.rows u=none/\∃ t,r=rw++t/\∀ x∈t,Cov f S l1 x:=by
 obtain⟨M,N,rz,t,p,q,s,y⟩:=K;rw[hv] at p;cases p;rw[hw] at q;cases q;obtain⟨a,b,n⟩:=Yv hc;obtain⟨O,t',j,B,C,m⟩:=h.suf I hv (l1:=a) (c:=c) (l2:=b++l2) (by rw[o,n];simp) L;have e:=(I.alt v rv hv).nd;obtain⟨D,E⟩:=cut_one (by rw[<- s];show e) (s.symm.trans j);subst D;subst E;have sub:∀ d∈a++[c],d∈l1:=fun d z=>by rw[n];rcases yA.mp z with z | z;show yR _ z;rw[yy.mp z];simp
 have inl:∀ d∈l1,d∈l:=fun d z=>by rw[o];show yR _ z
 show⟨?_,C,_,y,fun x g=>(m x (kW.mp g)).mono sub⟩;rw[y];show Alt.back G (I.alt w rw hw) (I.alt v rv hv) j B F (fun z=>H (I.pair hw hv z)) fun x g i=>?_;show Cov.apart G I (fun d z=>h.bs0 I hv (inl d (sub d z))) (fun d z=>h'.bs0 I hw z) (fun d z=>J d (sub d z)) (m x i) (h'.cov G I hw g)
theorem FI.merge(G:Gr A f)(I:FI A f S){w m:Str}(hv:S.rows v=some rv)(hw:S.rows w=some rw)(h:Ch f S (S.bas v) (l1++m::l2))(h':Ch f S (S.bas w) (m1++m::l2))(hd:∀ d∈l1,d∉m1++m::l2)(U:∀ d∈m1,d∉l1++m::l2)(ha:A v w)(hb:S.bas v≠S.bas w)(M:Mg f S S' v w m l1 m1):FI A f S':=by
 have hm:∃ r,S.rows m=some r/\S.bas m=m:=h.bs0 I hv (by simp);obtain⟨P,H,W⟩:=hm
 have B:∀ c∈l1++m1,(∃ r,S.rows c=some r/\S.bas c=c)/\c≠m/\∃ q,f c=some q/\S.rows q=none:=fun c hc=>by
  rcases yA.mp hc with z | z
  .show⟨h.bs0 I hv (yR _ z),fun e=>hd c z (by rw[e];simp),?_⟩;obtain⟨a,b,E⟩:=Yv z;obtain⟨rc,_,D,o,p,_⟩:=h.up I hv rfl (l1:=a) (c:=c) (l2:=b++m::l2) (by rw[E];simp);generalize l:b++m::l2=x at p
   cases p with
   | root _=>show absurd (congrArg List.length l) (by simp)
   | step e _ _=>show⟨_,e,(I.dwn _ _ _ D o e).1⟩
  .show⟨h'.bs0 I hw (yR _ z),fun e=>U c z (by rw[e];simp),?_⟩;obtain⟨a,b,E⟩:=Yv z;obtain⟨rc,_,D,o,p,_⟩:=h'.up I hw rfl (l1:=a) (c:=c) (l2:=b++m::l2) (by rw[E];simp);generalize l:b++m::l2=x at p
   cases p with
   | root _=>show absurd (congrArg List.length l) (by simp)
   | step e _ _=>show⟨_,e,(I.dwn _ _ _ D o e).1⟩
 have cov:∀ u,Cov f S (l1++m1) u->S'.bas u=m:=fun u ⟨d,hd,z⟩=>by
  show M.inn u ?_;rcases z with z | z
  .show .inr ⟨d,hd,.inl z⟩
  .have hn:=(B d hd).2.2;obtain⟨q,e,F⟩:=hn;rw[z] at e;cases e;rw[I.own F];show .inr ⟨d,hd,.inr z⟩
 have K:∀ u,Cov f S l1 u->S'.bas u=m:=fun u z=>cov u (z.mono fun d y=>yR _ y);have L:∀ u,Cov f S m1 u->S'.bas u=m:=fun u z=>cov u (z.mono fun d y=>yV _ y);have bm:∀ u,S.bas u=m->S'.bas u=m:=fun u z=>M.inn u (.inl z);have m0:S'.bas m=m:=bm m W;have Z:=M.old m P H
 have J:∀{x:Str} {rx a b:LS},S.rows x=some rx->Ch f S (S.bas x) (a++m::b)->(∀ d∈a,d∈l1++m1)->∃ t,rx=P++t/\∀ u∈t,S'.bas u=m:=fun{x rx a b} l hc hs=>by
  obtain⟨rc,t,D,_,_,R,g5⟩:=hc.up I l rfl rfl;rw[H] at D;cases D;show⟨t,R,fun u j=>(g5 u j).elim (bm u) fun z=>cov u (z.mono hs)⟩
 have nw:∀ u r,(∃ c∈l1,f c=some u/\NewRow S v w u r)\/(∃ c∈m1,f c=some u/\NewRow S w v u r)->Alt A f r u/\S.rows u=none/\S'.bas u=m/\∃ t,r=P++t/\∀ x∈t,S'.bas x=m:=fun u r z=>by
  rcases z with⟨c,hc,j,C⟩ | ⟨c,hc,j,C⟩
  .obtain⟨D,o,t,p,R⟩:=NewRow.ok G I hv hw h h' rfl hd (G.as ha) (Ym hb) hc j C;obtain⟨t0,p1,p2⟩:=J hw h' fun d y=>yV _ y;show⟨D,o,K u ⟨c,hc,.inr j⟩,t0++t,by rw[p,p1];simp,fun x l=>(yA.mp l).elim (p2 x) fun y=>K x (R x y)⟩
  .obtain⟨D,o,t,p,R⟩:=NewRow.ok G I hw hv h' h rfl U ha hb hc j C;obtain⟨t0,p1,p2⟩:=J hv h fun d y=>yR _ y;show⟨D,o,L u ⟨c,hc,.inr j⟩,t0++t,by rw[p,p1];simp,fun x l=>(yA.mp l).elim (p2 x) fun y=>L x (R x y)⟩
 have af:∀ u r,S.rows u=some r->InR f m (l1++m1) (S.bas u)->S.bas u=m\/S.bas u∈l1++m1:=fun u r j z=>by
  rcases z with z | ⟨c,hc,z | z⟩
  .show .inl z
  .show .inr (by rw[z];show hc)
  .obtain⟨q,e,F⟩:=(B c hc).2.2;rw[z] at e;cases e;obtain⟨rb,n⟩:=I.evb j;rw[F] at n;cases n
 show⟨fun u r j=>?_,fun u r j=>?_,fun u r j=>?_,fun b r q aa O F=>?_,fun u j=>?_,fun x z l=>?_⟩
 .rcases M.new u r j with z | z
  .show I.alt u r z
  .show(nw u r z).1
 .rcases M.new u r j with z | z
  .by_cases i:InR f m (l1++m1) (S.bas u)
   .rw [M.inn u i];show⟨P,?_⟩
    have:∃ t,r=P++t/\∀ x∈t,S'.bas x=m:=by
     rcases af u r z i with y | y
     .obtain⟨rb,t,N,n,e3⟩:=I.bse u r z;rw[y,H] at N;cases N;show⟨t,n,fun x l=>bm x ((e3 x l).trans y)⟩
     .rcases yA.mp y with y | y
      .obtain⟨a,b,E⟩:=Yv y;obtain⟨_,_,_,_,g,_⟩:=h.up I hv rfl (l1:=a) (c:=S.bas u) (l2:=b++m::l2) (by rw[E];simp);show J z (a:=S.bas u::b) (by simpa using g) fun d hd=>by rw[E];rcases yx.mp hd with rfl | hd<;>simp[*]
      .obtain⟨a,b,E⟩:=Yv y;obtain⟨_,_,_,_,g,_⟩:=h'.up I hw rfl (l1:=a) (c:=S.bas u) (l2:=b++m::l2) (by rw[E];simp);show J z (a:=S.bas u::b) (by simpa using g) fun d hd=>by rw[E];rcases yx.mp hd with rfl | hd<;>simp[*]
    obtain⟨t,N,n⟩:=this;show⟨t,Z,N,n⟩
   .rw [M.out u i];obtain⟨rb,t,N,n,e3⟩:=I.bse u r z;show⟨rb,t,M.old _ _ N,n,fun x l=>by rw[M.out x (by rw[e3 x l];show i)];show e3 x l⟩
  .obtain⟨_,_,e,t,N,n⟩:=nw u r z;rw[e];show⟨P,t,Z,N,n⟩
 .by_cases i:InR f m (l1++m1) (S.bas u)
  .rw [M.inn u i];show m0
  .rw [M.out u i];rcases M.new u r j with z | z
   .have e:=I.idm u r z;rw[M.out _ (by rw[e];show i)];show e
   .obtain⟨_,o,_⟩:=nw u r z;have e:=I.own o;rw[e,M.out u (by rw[e] at i ⊢;show i)];show e
 .have ac:S.bas b=b/\(b=m\/¬ InR f m (l1++m1) (S.bas b)):=by
   by_cases i:InR f m (l1++m1) (S.bas b)
   .have:=M.inn b i;rw[O] at this;rw[this];show⟨W,.inl rfl⟩
   .have:=M.out b i;rw[O] at this;show⟨this.symm,.inr i⟩
  obtain⟨T,ad⟩:=ac
  have C:S.rows b=some r:=by
   rcases M.new b r aa with z | z
   .show z
   .exfalso;obtain⟨_,o,p,_⟩:=nw b r z;rw[O] at p;rw[p,H] at o;cases o
  obtain⟨k1,z,rz,k2,k3,k4⟩:=I.dwn b r q C T F;show⟨?_,z,rz,by rw[M.par];show k2,M.old _ _ k3,k4⟩
  cases e:S'.rows q with
  | none=>rfl
  | some s =>
   exfalso
   have Y:∀ c∈l1++m1,f c=some q->False:=fun c hc ae=>by
    have:=G.fs ae;rw[G.fs F] at this;have n:=ym this;subst n;rcases ad with y | y
    .show(B b hc).2.1 y
    .show y (.inr ⟨b,hc,.inl T⟩)
   rcases M.new q s e with y | ⟨c,hc,y,_⟩ | ⟨c,hc,y,_⟩
   .rw [k1] at y;cases y
   .show Y c (yR _ hc) y
   .show Y c (yV _ hc) y
 .by_cases i:InR f m (l1++m1) (S.bas u)
  .rw [M.inn u i] at j ⊢;by_cases X:S.bas u=u
   .rw [X] at i;rcases i with z | ⟨c,hc,z | z⟩
    .show absurd z.symm j
    .subst z;obtain⟨⟨r,C,_⟩,_,q,F,_⟩:=B u hc;show⟨⟨r,M.old _ _ C⟩,q,F,cov q ⟨u,hc,.inr F⟩⟩
    .show⟨M.all c hc u z,c,G.fs z,cov c ⟨c,hc,.inl (B c hc).1.choose_spec.2⟩⟩
   .obtain⟨⟨r,C⟩,y,hy,e⟩:=I.mat u X;show⟨⟨r,M.old _ _ C⟩,y,hy,M.inn y (by rw[e];show i)⟩
  .rw [M.out u i] at j ⊢;obtain⟨⟨r,C⟩,y,hy,e⟩:=I.mat u j;show⟨⟨r,M.old _ _ C⟩,y,hy,by rw[M.out y (by rw[e];show i)];show e⟩
 .rw [M.par] at l;obtain⟨k1,⟨r,k2⟩,y,s,k3,k4⟩:=I.odd x z l;show⟨k1,⟨r,M.old _ _ k2⟩,y,s,k3,M.old _ _ k4⟩
end
structure Aug(A:Str->Str->Prop)(f:Str->Option Str)(r:LS):Prop where
 nd:r.Nodup
 two:2<=r.length
 ev:r.length % 2=0
 st:Turns A f r
 hd:∀ s,r[0]?=some s->f s=none
 tl:∀ s,r[r.length-1]?=some s->f s=none
section
variable{A:Str->Str->Prop}{f:Str->Option Str}{S S':FS}
theorem FI.aug(G:Gr A f)(I:FI A f S){w:Str}{l:LS}(hv:S.rows v=some rv)(hw:S.rows w=some rw)(h:Ch f S (S.bas v) l)(h':Ch f S (S.bas w) l')(hl:l.getLast?≠l'.getLast?)(E:A v w):Aug A f (rv++rw.reverse):=by
 have n:∀ d∈l,d∉l':=fun d F p=>by
  obtain⟨a,b,e⟩:=Yv F;obtain⟨x,y,q⟩:=Yv p;obtain⟨_,_,_,_,k,_⟩:=h.up I hv rfl e;obtain⟨_,_,_,_,k',_⟩:=h'.up I hw rfl q;have:=k.one k';show hl (by rw[e,q,this,XA,XA];rfl)
 have c:=I.alt v rv hv;have g:=I.alt w rw hw;obtain⟨O,r⟩:=c.tl;obtain⟨P,t⟩:=g.tl;have K:0<rv.length:=by rw[r];simp
 have L:0<rw.length:=by rw[t];simp
 have M:=c.odd;have N:=g.odd
 have H:f v≠some w:=fun z=>by
  have e:=I.pair hv hw z;have:=h.one (e ▸ h');rw[this] at hl;show hl rfl
 have at_:∀{j:Nat} {a:Str},rw.reverse[j]?=some a->j<rw.length/\rw[rw.length-1-j]?=some a:=fun{j a} e=>by
  have hl:=(yc.mp e).1;rw[YF] at hl;rw[List.getElem?_reverse hl] at e;show⟨hl,e⟩
 show⟨Yi.mpr ⟨c.nd,(List.reverse_perm _).nodup_iff.mpr g.nd,fun x J y u e=>?_⟩,by rw[yt,YF];lk,by rw[yt,YF];lk,c.st.app (fun j a b h1 o=>?_) fun a b h1 o _=>?_,fun s i=>?_,fun s i=>?_⟩
 .rw [<- e] at u;show Cov.apart G I (fun d z=>h.bs0 I hv z) (fun d z=>h'.bs0 I hw z) n (h.cov G I hv J) (h'.cov G I hw (kW.mp u))
 .obtain⟨l1,B⟩:=at_ h1;obtain⟨l2,m⟩:=at_ o;have:=g.st (rw.length-1-(j+1)) b a m (by rw[show rw.length-1-(j+1)+1=rw.length-1-j by lk];show B);show⟨G.as this.1,⟨fun z=>?_,fun z=>?_⟩⟩
  .have:=this.2.mp (G.fs z);lk
  .show G.fs (this.2.mpr (by lk))
 .have C:a=v:=by
   rw[r,yt,yO (by simp)] at h1;simpa using h1.symm
  have D:b=w:=by
   obtain⟨_,m⟩:=at_ o;rw[Kj,t,yt,yO (by simp)] at m;simpa using m.symm
  subst C;subst D;show⟨E,⟨fun z=>absurd z H,fun z=>by lk⟩⟩
 .rw [Yg K] at i;show c.hd s i
 .rw [yt,YF,yO (by lk),show rv.length+rw.length-1-rv.length=rw.length-1 by lk] at i;obtain⟨_,e⟩:=at_ i;rw[k8] at e;show g.hd s e
structure Gw(S S':FS)(p u y:Str)(r:LS):Prop where
 ry:S'.rows y=some (r++[u,y])
 ro:∀ s,s≠y->S'.rows s=S.rows s
 pu:S'.par u=some p
 po:∀ s,s≠u->S'.par s=S.par s
 ba:S'.bas=S.bas
theorem FI.fresh(G:Gr A f)(I:FI A f S)(a:S.rows u=none)(g:S.par u=none)(c:f u=some y):S.rows y=none:=by
 cases e:S.rows y with
 | none=>rfl
 | some s =>
  exfalso;by_cases z:S.bas y=y
  .obtain⟨_,_,_,k,_⟩:=I.dwn y s u e z (G.fs c);rw[g] at k;cases k
  .obtain⟨_,x,b,k⟩:=I.mat y z;rw[G.fs c] at b;cases b;rw[I.own a] at k;obtain⟨h,d⟩:=I.evb e;rw[<- k,a] at d;cases d
theorem FI.grow(G:Gr A f)(I:FI A f S){p:Str}{r:LS}(o:S.rows p=some r)(O:A p u)(w:S.rows u=none)(K:S.par u=none)(n:f u=some y)(W:Gw S S' p u y r):FI A f S':=by
 have c:=I.fresh G w K n;have T:u≠y:=G.ir (G.fa n);have py:p≠y:=fun z=>by rw[z,c] at o;cases o
 have g:∀ s t,S.rows s=some t->S'.rows s=some t:=fun s t e=>by rw[W.ro s (fun z=>by rw[z,c] at e;cases e)];show e
 have new:∀ s t,S'.rows s=some t->(s=y/\t=r++[u,y])\/(s≠y/\S.rows s=some t):=fun s t e=>by
  by_cases z:s=y
  .subst z;rw[W.ry] at e;show .inl ⟨rfl,(ym e).symm⟩
  .rw [W.ro s z] at e;show .inr ⟨z,e⟩
 obtain⟨l,hl⟩:=I.chainOf o
 have C:∀ x∈r,x≠u/\x≠y:=fun x D=>by
  obtain⟨d,X,z⟩:=hl.cov G I o D;obtain⟨rd,i,m⟩:=hl.bs0 I o X;show⟨fun e=>?_,fun e=>?_⟩
  .rw [e] at z;rcases z with z | z
   .rw [I.own w] at z;rw[z,i] at w;cases w
   .obtain⟨_,_,_,k,_⟩:=I.dwn d rd u i m z;rw[K] at k;cases k
  .rw [e] at z;rcases z with z | z
   .rw [I.own c] at z;rw[z,i] at c;cases c
   .have:=G.fs z;rw[G.fs n] at this;rw[ym this,i] at w;cases w
 have B:=I.alt p r o;obtain⟨r0,N⟩:=B.tl;have L:0<r.length:=by rw[N];simp
 show⟨fun v t e=>?_,fun v t e=>?_,fun v t e=>?_,fun b t q e P F=>?_,fun v e=>?_,fun x z e=>?_⟩
 .rcases new v t e with⟨rfl,rfl⟩ | ⟨_,e⟩
  .show⟨Yi.mpr ⟨B.nd,by simp[T],fun x D z hz E=>?_⟩,by rw[yt];have:=B.odd;simp only[yJ,YW];lk,fun s R=>?_,⟨r++[u],by simp⟩,B.st.app (fun j a b h1 J=>?_) fun a b h1 J _=>?_⟩
   .obtain⟨Z,n2⟩:=C x D;simp only[yx,Yb,YH] at hz;rcases hz with rfl | rfl
    .show Z E
    .show n2 E
   .rw [Yg L] at R;show B.hd s R
   .have Y:j=0:=by have:=(yc.mp J).1;simp at this;lk
    subst Y;cases h1;cases J;show⟨G.fa n,⟨fun _=>by have:=B.odd;lk,fun _=>n⟩⟩
   .cases J
    have U:a=p:=by
     rw[N,yt,yO (by simp)] at h1;simpa using h1.symm
    subst U;show⟨O,⟨fun z=>?_,fun z=>by have:=B.odd;lk⟩⟩;have:=G.fs z;rw[n] at this;show absurd (ym this).symm py
  .show I.alt v t e
 .rw [W.ba];rcases new v t e with⟨rfl,rfl⟩ | ⟨_,e⟩
  .rw [I.own c];show⟨_,[],W.ry,by simp,(fun x h=>by cases h)⟩
  .obtain⟨rb,s,i,m,H⟩:=I.bse v t e;show⟨rb,s,g _ _ i,m,H⟩
 .rw [W.ba];rcases new v t e with⟨rfl,rfl⟩ | ⟨_,e⟩
  .rw [I.own c,I.own c]
  .show I.idm v t e
 .rw [W.ba] at P;rcases new b t e with⟨rfl,rfl⟩ | ⟨_,e⟩
  .rw [G.fs n] at F;cases F;show⟨by rw[W.ro u T];show w,p,r,W.pu,g _ _ o,rfl⟩
  .obtain⟨i,z,rz,m,H,M⟩:=I.dwn b t q e P F;show⟨?_,z,rz,?_,g _ _ H,M⟩
   .rw [W.ro q fun z=>?_]
    .show i
    .rw [z] at F;have:=G.fs F;rw[G.fs n] at this;rw[<- ym this,w] at e;cases e
   .rw [W.po q fun z=>?_]
    .show m
    .rw [z,K] at m;cases m
 .rw [W.ba] at e ⊢;obtain⟨⟨t,i⟩,m⟩:=I.mat v e;show⟨⟨t,g _ _ i⟩,m⟩
 .by_cases D:x=u
  .subst D;rw[W.pu] at e;cases e;show⟨O,⟨r,g _ _ o⟩,y,_,n,W.ry⟩
  .rw [W.po x D] at e;obtain⟨i,⟨t,m⟩,y',s,H,M⟩:=I.odd x z e;show⟨i,⟨t,g _ _ m⟩,y',s,H,g _ _ M⟩
theorem FI.start(h1:∀ v r,S.rows v=some r->f v=none/\r=[v])(d:∀ x,S.par x=none)(c:∀ v,S.bas v=v):FI A f S:=by
 show⟨fun v r e=>?_,fun v r e=>?_,fun v r e=>by rw[c,c],fun b r q e _ g=>?_,fun v e=>absurd (c v) e,fun x z e=>by rw[d] at e;cases e⟩
 .obtain⟨k,rfl⟩:=h1 v r e;show⟨by simp,rfl,fun s i=>by cases i;show k,⟨[],rfl⟩,fun j a b h1 d=>?_⟩;simp at d
 .show⟨r,[],by rw[c];show e,by simp,(fun x h=>by cases h)⟩
 .rw [(h1 b r e).1] at g;cases g
end
structure CI(A:Str->Str->Prop)(S:FS)(Pd:Str->Prop):Prop where
 cl:∀ v u,Pd v->A v u->S.bas u=S.bas v\/(S.par u≠none/\¬ Pd u)
 pe:∀ v,Pd v->S.rows v≠none
theorem CI.mono(h:CI A S Pd)(b:∀ u v,S.bas u=S.bas v->S'.bas u=S'.bas v)(c:∀ u,S.par u≠none->S'.par u≠none)(d:∀ u,S.rows u≠none->S'.rows u≠none):CI A S' Pd:=
 ⟨fun v u k a=>(h.cl v u k a).imp (b u v) fun z=>⟨c u z.1,z.2⟩,fun v k=>d v (h.pe v k)⟩
theorem qcs:∀{l m:LS},l.Nodup->(∀ x∈l,x∈m)->l.length<=m.length
 | [],_,_,_=>YS _
 | x::r,m,hn,hs=>by
  obtain⟨h1,c⟩:=yo.mp hn;have a:=hs x yU;have:=qcs (l:=r) (m:=m.erase x) c fun y b=>(Xz (fun e=>h1 (by rw[<- e];show b))).mpr (hs y (yC _ b));rw[YV a] at this;have:0<m.length:=Y2 a;simp only[yJ];lk
theorem qfv:∀(n:Nat) {X:LS},X.length<=n->X.Nodup->(∀ x∈X,∃ y∈X,g x=some y/\y≠x/\g y=some x)->X.length % 2=0
 | _,[],_,_,_=>rfl
 | 0,x::r,h,_,_=>by simp at h
 | n+1,x::r,h,hn,hp=>by
  obtain⟨h1,d⟩:=yo.mp hn;obtain⟨y,p,j,i,l⟩:=hp x yU;have c:y∈r:=(yx.mp p).resolve_left i;have hl:=YV c;have t:0<r.length:=Y2 c
  have:=qfv n (X:=r.erase y) (by simp at h;lk) (d.erase y) fun z hz=>by
   have a:=(d.mem_erase_iff.mp hz);obtain⟨u,o,m,f,b⟩:=hp z (yC _ a.2);have q:u≠x:=fun e=>by rw[e,j] at b;show a.1 (ym b).symm
   have s:u≠y:=fun e=>by rw[e,l] at b;show h1 (by rw[ym b];show a.2)
   show⟨u,d.mem_erase_iff.mpr ⟨s,(yx.mp o).resolve_left q⟩,m,f,b⟩
  simp only[yJ];lk
structure Fn(A:Str->Str->Prop)(f:Str->Option Str)(S:FS)(ss:LS):Prop where
 fi:FI A f S
 gr:Gr A f
 inn:∀ a b,A a b->a∈ss
 nd:ss.Nodup
 cl:∀ v u,S.rows v≠none->A v u->S.bas u=S.bas v\/(S.par u≠none/\S.rows u=none)
 sng:∀ z∈ss,f z=none->S.rows z≠none
 es:∀ v,S.rows v≠none->v∈ss
def qdF(S:FS)(ss:LS)(b:Str):LS:=ss.filter fun u=>(S.rows u).isSome&&decide (S.bas u=b)
def qbV(S:FS)(ss:LS):LS:=ss.filter fun u=>(S.rows u).isSome&&decide (S.bas u=u)
def qdG(S:FS)(ss:LS):LS:=ss.filter fun u=>(S.par u).isSome&&!(S.rows u).isSome
def snL(g:Str->Option Str)(ss:LS):LS:=ss.filter fun u=>!(g u).isSome
section
variable{A:Str->Str->Prop}{f g:Str->Option Str}{S:FS}{ss:LS}
theorem isS{o:Option α}:o.isSome=true↔o≠none:=by cases o<;>simp
theorem mem_cls:u∈qdF S ss b↔u∈ss/\S.rows u≠none/\S.bas u=b:=by
 unfold qdF;rw[yp,yY,isS,yE]
theorem mem_bas:u∈qbV S ss↔u∈ss/\S.rows u≠none/\S.bas u=u:=by
 unfold qbV;rw[yp,yY,isS,yE]
theorem mem_bar:u∈qdG S ss↔u∈ss/\S.par u≠none/\S.rows u=none:=by
 unfold qdG;rw[yp,yY,isS];cases S.rows u<;>simp
theorem mem_sn:u∈snL g ss↔u∈ss/\g u=none:=by
 unfold snL;rw[yp];cases g u<;>simp
theorem some_of{o:Option α}(h:o≠none):∃ r,o=some r:=by cases o with | none=>show absurd rfl h | some r=>show⟨r,rfl⟩
theorem FI.evE(I:FI A f S)(hv:S.rows v≠none)(e:S.bas u=S.bas v):S.rows u≠none:=fun b=>by
 obtain⟨r,c⟩:=some_of hv;obtain⟨d,a⟩:=I.evb c;rw[I.own b] at e;rw[<- e,b] at a;cases a
theorem Fn.cls_odd(F:Fn A f S ss)(p:b∈qbV S ss):(qdF S ss b).length % 2=1:=by
 obtain⟨o,j,l⟩:=mem_bas.mp p;have c:b∈qdF S ss b:=mem_cls.mpr ⟨o,j,l⟩;have a:(qdF S ss b).Nodup:=F.nd.filter _
 have:=qfv (g:=f) _ (X:=(qdF S ss b).erase b) (yh _) (a.erase b) fun z hz=>by
  obtain⟨s,hz⟩:=a.mem_erase_iff.mp hz;obtain⟨t,m,n⟩:=mem_cls.mp hz;obtain⟨_,u,d,h⟩:=F.fi.mat z (fun e=>s (e.symm.trans n));have i:=F.fi.evE m h;show⟨u,a.mem_erase_iff.mpr ⟨fun e=>?_,mem_cls.mpr ⟨F.es u i,i,h.trans n⟩⟩,d,Ym (F.gr.ir (F.gr.fa d)),F.gr.fs d⟩;obtain⟨r,q⟩:=some_of j;rw[e] at d;show m (F.fi.dwn b r z q l (F.gr.fs d)).1
 rw[YV c] at this;have:=Y2 c;lk
theorem Fn.count(F:Fn A f S ss):(qbV S ss).length=(snL f ss).length+(qdG S ss).length:=by
 have v:(qbV S ss).Nodup:=F.nd.filter _
 have e:(qbV S ss).length=((qbV S ss).filter fun b=>!(f b).isSome).length+((qbV S ss).filter fun b=>(f b).isSome).length:=by
  generalize qbV S ss=l
  induction l with
  | nil=>rfl
  | cons x r ih =>
   rw[yL,yL,yJ,ih];cases (f x).isSome
   .rw [yG (show(!false)=true from rfl),yB Yu,yJ];lk
   .rw [yB (show ¬ (!true)=true by decide),yG (show true=true from rfl),yJ];lk
 rw[e];have D:((qbV S ss).filter fun b=>!(f b).isSome).length=(snL f ss).length:=xP
  (qcs (v.filter _) fun x c=>by
   obtain⟨h1,d⟩:=yp.mp c;show mem_sn.mpr ⟨(mem_bas.mp h1).1,?_⟩
   cases e:f x with
   | none=>rfl
   | some y=>rw[e] at d;cases d)
  (qcs (F.nd.filter _) fun x c=>by
   obtain⟨h1,d⟩:=mem_sn.mp c;show yp.mpr ⟨mem_bas.mpr ⟨h1,F.sng x h1 d,Yh fun z=>?_⟩,by rw[d];rfl⟩;obtain⟨_,u,i,_⟩:=F.fi.mat x z;rw[d] at i;cases i)
 have E:((qbV S ss).filter fun b=>(f b).isSome).length=(qdG S ss).length:=by
  have inj:(((qbV S ss).filter fun b=>(f b).isSome).map fun b=>(f b).getD "").Nodup:=by
   show YM.mpr (xk (fun{a b} G g o e=>?_) (v.filter _));obtain⟨x,c⟩:=xj.mp (yp.mp G).2;obtain⟨y,w⟩:=xj.mp (yp.mp g).2;rw[c,w] at e;have n:x=y:=e;have k:=F.gr.fs c;rw[n,F.gr.fs w] at k;show o (ym k).symm
  show xP ?_ ?_
  .have:=qcs inj (m:=qdG S ss) fun q p=>?_
   rwa[ya] at this
   obtain⟨b,g,rfl⟩:=yI.mp p;obtain⟨h1,d⟩:=yp.mp g;obtain⟨x,c⟩:=xj.mp d;obtain⟨L,B,C⟩:=mem_bas.mp h1;obtain⟨r,H⟩:=some_of B;obtain⟨j,z,rz,t,_⟩:=F.fi.dwn b r x H C c;rw[c];have I:S.par x≠none:=by rw[t];show fun e=>by cases e
   show x∈qdG S ss;show mem_bar.mpr ⟨F.inn _ _ (F.gr.as (F.gr.fa c)),I,j⟩
  .have:(qdG S ss).length<=(((qbV S ss).filter fun b=>(f b).isSome).map fun b=>(f b).getD "").length:=qcs (F.nd.filter _) fun q p=>?_
   rwa[ya] at this
   obtain⟨M,J,K⟩:=mem_bar.mp p;obtain⟨z,hz⟩:=some_of J;obtain⟨_,_,y,r,j,t⟩:=F.fi.odd q z hz;have h:S.rows y≠none:=by rw[t];show fun e=>by cases e
   show yI.mpr ⟨y,yp.mpr ⟨mem_bas.mpr ⟨F.es y h,h,Yh fun e=>?_⟩,by rw[F.gr.fs j];rfl⟩,by rw[F.gr.fs j];rfl⟩;obtain⟨_,u,i,s⟩:=F.fi.mat y e;rw[F.gr.fs j] at i;cases i;show F.fi.evE h s K
 rw[D,E]
theorem Fn.most(F:Fn A f S ss)(m:Gr A g):(snL f ss).length<=(ss.filter fun u=>!(g u).isSome&&(S.rows u).isSome).length:=by
 have n:∀ b∈qbV S ss,∃ v∈qdF S ss b,g v=none\/∃ w,g v=some w/\w∈qdG S ss:=fun b l=>Yh fun r=>by
  have D:=F.cls_odd l
  have:=qfv (g:=g) _ (X:=qdF S ss b) (yh _) (F.nd.filter _) fun v hv=>by
   obtain⟨E,t,G⟩:=mem_cls.mp hv
   cases e:g v with
   | none=>show absurd ⟨v,hv,.inl e⟩ r
   | some w =>
    have hw:=m.as (m.fa e);rcases F.cl v w t (m.fa e) with z | ⟨z1,z2⟩
    .have s:=F.fi.evE t z;show⟨w,mem_cls.mpr ⟨F.es w s,s,z.trans G⟩,rfl,Ym (m.ir (m.fa e)),m.fs e⟩
    .show absurd ⟨v,hv,.inr ⟨w,e,mem_bar.mpr ⟨F.inn _ _ hw,z1,z2⟩⟩⟩ r
  lk
 obtain⟨j,i⟩:∃ j:Str->Str,∀ b∈qbV S ss,j b∈qdF S ss b/\(g (j b)=none\/∃ w,g (j b)=some w/\w∈qdG S ss):=
  ⟨fun b=>@dite _ (b∈qbV S ss) (Classical.propDecidable _) (fun h=>(n b h).choose) fun _=>b,fun b l=>by
   dsimp only;rw[dif_pos l];show⟨(n b l).choose_spec.1,(n b l).choose_spec.2⟩⟩
 have inj:∀ a∈qbV S ss,∀ b∈qbV S ss,j a=j b->a=b:=fun a o b l e=>by
  have h1:=(mem_cls.mp (i a o).1).2.2;have H:=(mem_cls.mp (i b l).1).2.2;rw[<- h1,<- H,e]
 have l:(qbV S ss).Nodup:=F.nd.filter _
 have B:(qbV S ss).length<=((ss.filter fun u=>!(g u).isSome&&(S.rows u).isSome)++qdG S ss).length:=by
  rw[<- ya (f:=fun b=>(g (j b)).getD (j b))];show qcs (YM.mpr (xk (fun{a b} o d q e=>?_) l)) fun x I=>?_
  .have C:∀ c∈qbV S ss,S.rows (j c)≠none:=fun c hc=>(mem_cls.mp (i c hc).1).2.1;rcases(i a o).2 with z | ⟨w,z,hw⟩<;>rcases(i b d).2 with y | ⟨u,y,hu⟩
   .rw [z,y] at e;show q (inj a o b d e)
   .rw [z,y] at e;have p:j a=u:=e;show C a o (by rw[p];show(mem_bar.mp hu).2.2)
   .rw [z,y] at e;have p:w=j b:=e;show C b d (by rw[<- p];show(mem_bar.mp hw).2.2)
   .rw [z,y] at e;have p:w=u:=e;have k:=m.fs z;rw[p,m.fs y] at k;show q (inj a o b d (ym k).symm)
  .obtain⟨b,d,rfl⟩:=yI.mp I;obtain⟨E,t,G⟩:=mem_cls.mp (i b d).1;rcases(i b d).2 with z | ⟨w,z,hw⟩
   .rw [z];show yR _ (yp.mpr ⟨E,by show(!(g (j b)).isSome&&(S.rows (j b)).isSome)=true;rw[z,isS.mpr t];rfl⟩)
   .rw [z];show yV _ hw
 rw[F.count,yt] at B;lk
end
theorem qd9:∀{qs:LP},pt qs s=some t->(s,t)∈qs\/(t,s)∈qs
 | [],h=>by cases h
 | q::r,h=>by
  unfold pt at h;split at h
  .rename_i e;cases h;show .inl (by rw[<- e];simp)
  .split at h
   .rename_i e;cases h;show .inr (by rw[<- e];simp)
   .rcases qd9 h with z | z
    .show .inl (yC _ z)
    .show .inr (yC _ z)
theorem qgF:∀{qs:LP},(qz qs).Nodup->∀{a b:Str},(a,b)∈qs\/(b,a)∈qs->pt qs a=some b
 | [],_,a,b,m=>by rcases m with z | z<;>cases z
 | q::r,h,a,b,m=>by
  have f:(q.1::q.2::qz r).Nodup:=h;obtain⟨i,n⟩:=yo.mp f;obtain⟨o,p⟩:=yo.mp n;have inr:∀{x y:Str},(x,y)∈r->x∈qz r/\y∈qz r:=fun d=>⟨xE.mpr ⟨_,d,by simp⟩,xE.mpr ⟨_,d,by simp⟩⟩;unfold pt
  have c:(a,b)∈r\/(b,a)∈r->(if q.1=a then some q.2 else if q.2=a then some q.1 else pt r a)=some b:=fun l=>by
   have j:a∈qz r:=l.elim (fun z=>(inr z).1) fun z=>(inr z).2;rw[yB (fun z=>i (by rw[z];show yC _ j)),yB (fun z=>o (by rw[z];show j))];show qgF p l
  rcases m with z | z
  .rcases yx.mp z with z | z
   .subst z;rw[yG rfl]
   .show c (.inl z)
  .rcases yx.mp z with z | z
   .subst z;have g:b≠a:=fun e=>i (by show b∈a::_;rw[e];show yU);rw[yB g,yG rfl]
   .show c (.inr z)
theorem qeY(h:(qz qs).Nodup):pt qs a=some b↔(a,b)∈qs\/(b,a)∈qs:=⟨qd9,qgF h⟩
theorem qeZ(h:(qz qs).Nodup):pt qs a=some b↔pt qs b=some a:=by
 rw[qeY h,qeY h,Or.comm]
theorem qe0{x y:Option Str}(h:∀ b,x=some b↔y=some b):x=y:=by
 cases x with
 | none=>cases y with
  | none=>rfl
  | some b=>show absurd ((h b).mpr rfl) (fun z=>by cases z)
 | some a=>show((h a).mp rfl).symm
theorem uF:FnScope wqz wqz (qg j4):=fS
structure Fo where
 x:Addr
 b:Addr
 dp:Addr
 dr:Addr
 da:Addr
 ds:Addr
 dg:Addr
 dw:Addr
 ex:LQ
def Fo.six(a:Fo):LQ:=[a.x,a.dr,a.da,a.ds,a.dg,a.dw]
def Fo.all(a:Fo):LQ:=a.six++a.ex
def Fo.tab(a:Fo)(lo:V):List (Str×V):=[("board",.ref a.b),("partners",.ref a.dp),("rows",.ref a.dr),("parents",.ref a.da),("bases",.ref a.ds),("rings",.ref a.dg),("waiting",.ref a.dw),("longer",lo)]
def Bx(l:LQ)(H H':Hp):Prop:=∀ c o,c∉l->H c=some o->H' c=some o
def RowV(H:Hp)(l:LQ)(o:Option V):Option (LS)->Prop
 | none=>o=none
 | some r=>∃ t,o=some (.ref t)/\H t=some (.lst (r.map V.str))/\t∉l
def FoO(b:Addr)(H:Hp)(a:Fo)(lo:V):Prop:=∃ dx fs,H a.x=some (.ins b dx fs)/\fs.length<=9/\(lo=.non->fs.length<=8)/\(∀ f v,(f,v)∈a.tab lo->fs.lookup f=some v)/\∀ f,f∉fAtt->fs.lookup f=none
structure FoA(cf cw:Addr)(H0 H:Hp)(a:Fo)(ss:LS)(ns:LN)(qs:LP)(S:FS)(bs dn wt:LS)(lo:V):Prop where
 sm:L2.Same H0 H
 web:WebAt cw H0 a.b ss ns
 prt:H0 a.dp=some (.dK (prK qs))
 fr:∀ c∈a.six,H0 c=none
 nd:[a.dr,a.da,a.ds,a.dg,a.dw].Nodup
 exf:∀ c∈a.ex,H0 c=none/\c∉a.six/\∃ o,H c=some o
 obj:FoO cf H a lo
 row:∃ kvs,H a.dr=some (.dK kvs)/\kvs.length<=(dn++wt).length/\∀ s,RowV H a.all (jZ kvs (.inr s:Key)) (S.rows s)
 par:∃ kvs,H a.da=some (.dK kvs)/\(∃ po:LS,kvs.length<=po.length/\po.Nodup/\∀ u∈po,u∈ss/\S.par u≠none)/\∀ s,jZ kvs (.inr s:Key)=(S.par s).map V.str
 bas:∃ kvs,H a.ds=some (.dK kvs)/\kvs.length<=bs.length/\∀ s∈bs,jZ kvs (.inr s:Key)=some (.str (S.bas s))
 rng:∃ xs,H a.dg=some (.lst xs)/\xs.length<=(dn++wt).length
 wai:H a.dw=some (.lst (wt.map V.str))
 evn:(dn++wt).Nodup
 evi:∀ v,v∈dn++wt↔S.rows v≠none
 evs:∀ v∈dn++wt,v∈ss
theorem RowV.mono{l:LQ}{o:Option V}{r:Option (LS)}(h:RowV H l o r){m:LQ}(k:Bx m H H')(d:∀ c∈m,c∈l):RowV H' l o r:=by
 cases r with
 | none=>show h
 | some r=>obtain⟨t,h1,b,a⟩:=h;show⟨t,h1,k _ _ (fun z=>a (d _ z)) b,a⟩
theorem Fo.sub{a:Fo}:∀ c∈a.six,c∈a.all:=fun c h=>yR _ h
theorem Bx.of{l:LQ}(s:L2.Same H H'):Bx l H H':=fun c o _ e=>s c o e
theorem Bx.trans{l:LQ}{d:Hp}(a:Bx l H H')(b:Bx l H' d):Bx l H d:=fun c o n e=>b c o n (a c o n e)
section
variable{cf cw:Addr}{H0 H H':Hp}{a:Fo}{ss:LS}{ns:LN}{qs:LP}{S S':FS}{bs dn wt:LS}{lo:V}
theorem FoA.same(h:FoA cf cw H0 H a ss ns qs S bs dn wt lo)(s:L2.Same H H'):FoA cf cw H0 H' a ss ns qs S bs dn wt lo:=by
 obtain⟨dx,fs,h1,i⟩:=h.obj;obtain⟨j,r,t,u⟩:=h.row;obtain⟨m,p,q⟩:=h.par;obtain⟨n,b,d⟩:=h.bas;obtain⟨xs,f,g⟩:=h.rng;show⟨h.sm.trans s,h.web,h.prt,h.fr,h.nd,fun c hc=>⟨(h.exf c hc).1,(h.exf c hc).2.1,(h.exf c hc).2.2.elim fun o e=>⟨o,s _ _ e⟩⟩,⟨dx,fs,s _ _ h1,i⟩,⟨j,s _ _ r,t,fun z=>(u z).mono (Bx.of (l:=[]) s) (fun c h=>by cases h)⟩,⟨m,s _ _ p,q⟩,⟨n,s _ _ b,d⟩,⟨xs,s _ _ f,g⟩,s _ _ h.wai,h.evn,h.evi,h.evs⟩
theorem FoA.six(h:FoA cf cw H0 H a ss ns qs S bs dn wt lo):∀ c∈a.six,∃ o,H c=some o:=fun c hc=>by
 obtain⟨dx,fs,h1,_⟩:=h.obj;obtain⟨g,f,_⟩:=h.row;obtain⟨i,e,_⟩:=h.par;obtain⟨j,b,_⟩:=h.bas;obtain⟨xs,d,_⟩:=h.rng;simp only[Fo.six,yx,Yb,YH] at hc;rcases hc with rfl | rfl | rfl | rfl | rfl | rfl
 .show⟨_,h1⟩
 .show⟨_,f⟩
 .show⟨_,e⟩
 .show⟨_,b⟩
 .show⟨_,d⟩
 .show⟨_,h.wai⟩
theorem FoA.new(h:FoA cf cw H0 H a ss ns qs S bs dn wt lo){c:Addr}(e:H c=none):c∉a.six:=fun z=>by
 obtain⟨o,k⟩:=h.six c z;rw[e] at k;cases k
theorem FoA.sep(h:FoA cf cw H0 H a ss ns qs S bs dn wt lo):a.six.Nodup:=by
 obtain⟨dx,fs,h1,_⟩:=h.obj;obtain⟨f,e,_⟩:=h.row;obtain⟨g,d,_⟩:=h.par;obtain⟨i,b,_⟩:=h.bas;obtain⟨xs,c,_⟩:=h.rng;show yo.mpr ⟨fun z=>?_,h.nd⟩;simp only[yx,Yb,YH] at z;rcases z with z | z | z | z | z
 .rw [z,e] at h1;cases h1
 .rw [z,d] at h1;cases h1
 .rw [z,b] at h1;cases h1
 .rw [z,c] at h1;cases h1
 .rw [z,h.wai] at h1;cases h1
theorem FoO.eq(h:FoO cf H a lo)(e:H' a.x=H a.x):FoO cf H' a lo:=by
 obtain⟨dx,fs,h1,b⟩:=h;show⟨dx,fs,e.trans h1,b⟩
theorem Bx.upd{l:LQ}{c:Addr}(k:Bx l H H')(hc:c∈l):Bx l H (upd H' c o):=fun d u n e=>by
 rw[qf (fun z=>n (by rw[z];show hc))];show k d u n e
def Fo.add(a:Fo)(c:Addr):Fo:={ a with ex:=c::a.ex }
theorem FoA.add(h:FoA cf cw H0 H a ss ns qs S bs dn wt lo){c:Addr}(e:H c=none):FoA cf cw H0 (upd H c o) (a.add c) ss ns qs S bs dn wt lo:=by
 have g:=h.same (qD (Sr H) (o:=o) e);obtain⟨f,q,w,x⟩:=g.row;obtain⟨n,v,_,A⟩:=h.row
 have s:n=f:=by
  have:=qD (Sr H) (o:=o) e _ _ v;rw[q] at this;show(HO.dK.inj (ym this)).symm
 subst s;show⟨g.sm,g.web,g.prt,g.fr,g.nd,fun d hd=>?_,g.obj,⟨n,q,w,fun z=>?_⟩,g.par,g.bas,g.rng,g.wai,g.evn,g.evi,g.evs⟩
 .rcases yx.mp hd with rfl | hd
  .show⟨h.sm.free e,h.new e,_,qb⟩
  .show g.exf d hd
 .have b:=x z;have j:=A z
  cases i:S.rows z with
  | none=>rw[i] at b;show b
  | some r =>
   rw[i] at b j;obtain⟨t,f,u,p⟩:=b;obtain⟨t',l,m,_⟩:=j;rw[f] at l;cases l;show⟨t,f,u,fun y=>?_⟩;rcases yA.mp y with y | y
   .show p (yR _ y)
   .rcases yx.mp y with y | y
    .rw [y,e] at m;cases m
    .show p (yV _ y)
theorem FoA.updE(h:FoA cf cw H0 H a ss ns qs S bs dn wt lo){c:Addr}(hc:c∈a.ex):FoA cf cw H0 (upd H c o) a ss ns qs S bs dn wt lo:=by
 obtain⟨l,p,_⟩:=h.exf c hc;have ne:∀{d:Addr},d∈a.six->upd H c o d=H d:=fun b=>qf fun z=>p (by rw[<- z];show b);obtain⟨q,w,x,A⟩:=h.row;obtain⟨r,t,v⟩:=h.par;obtain⟨s,f,g⟩:=h.bas;obtain⟨xs,i,j⟩:=h.rng;show⟨qaC h.sm l,h.web,h.prt,h.fr,h.nd,fun d b=>⟨(h.exf d b).1,(h.exf d b).2.1,by by_cases z:d=c;show⟨_,by rw[z,qb]⟩;rw[qf z];show(h.exf d b).2.2⟩,h.obj.eq (ne (by simp[Fo.six])),⟨q,(ne (by simp[Fo.six])).trans w,x,fun z=>(A z).mono (m:=[c]) (fun d u n e=>by rw[qf (fun y=>n (by rw[y];simp))];show e) fun d b=>by rw[yy.mp b];show yV _ hc⟩,⟨r,(ne (by simp[Fo.six])).trans t,v⟩,⟨s,(ne (by simp[Fo.six])).trans f,g⟩,⟨xs,(ne (by simp[Fo.six])).trans i,j⟩,(ne (by simp[Fo.six])).trans h.wai,h.evn,h.evi,h.evs⟩
theorem FoA.drop(h:FoA cf cw H0 H a ss ns qs S bs dn wt lo){l:LQ}(f:∀ c∈l,c∈a.ex):FoA cf cw H0 H { a with ex:=l } ss ns qs S bs dn wt lo:=by
 obtain⟨d,j,m,n⟩:=h.row;show⟨h.sm,h.web,h.prt,h.fr,h.nd,fun c hc=>h.exf c (f c hc),h.obj,⟨d,j,m,fun z=>?_⟩,h.par,h.bas,h.rng,h.wai,h.evn,h.evi,h.evs⟩;have b:=n z
 cases e:S.rows z with
 | none=>rw[e] at b;show b
 | some r =>
  rw[e] at b;obtain⟨t,d,g,i⟩:=b;show⟨t,d,g,fun y=>i ((yA.mp y).elim (fun z=>yR _ z) fun z=>yV _ (f _ z))⟩
theorem FoA.newA(h:FoA cf cw H0 H a ss ns qs S bs dn wt lo){c:Addr}(e:H c=none):c∉a.all:=fun z=>by
 rcases yA.mp z with z | z
 .show h.new e z
 .obtain⟨o,k⟩:=(h.exf c z).2.2;rw[e] at k;cases k
theorem FoA.few(h:FoA cf cw H0 H a ss ns qs S bs dn wt lo):(dn++wt).length<=ss.length:=zR h.evn h.evs
end
def FS.setRow(S:FS)(p:Str)(r:LS):FS:=⟨fun s=>if s=p then some r else S.rows s,S.par,S.bas⟩
inductive spRe(cc:Nat->Addr)(cw:Addr)(vs:List V)(H:Hp)(Q:VK)(E:XK):Prop|mk (H0:Hp) (a:Fo) (ss:LS) (ns:LN) (qs:LP) (S:FS) (bs dn wt:LS) (lo:V) (p:Str) (t:Addr) (r:LS) (_:vs=[.ref a.x,.str p,.ref t]) (_:FoA (cc 9) cw H0 H a ss ns qs S bs dn wt lo) (_:ss.length<=14) (_:H t=some (.lst (r.map V.str))) (_:t∉a.all) (_:p∈ss) (_:S.rows p=none) (_:∀ H',FoA (cc 9) cw H0 H' a ss ns qs (S.setRow p r) bs dn (wt++[p]) lo->Bx a.six H H'->(∀ o,H a.dg=some o->H' a.dg=some o)->Q .non H')
inductive spBd(cc:Nat->Addr)(cw:Addr)(vs:List V)(H:Hp)(Q:VK)(E:XK):Prop|mk (H0:Hp) (a:Fo) (ss:LS) (ns:LN) (qs:LP) (S:FS) (dn wt:LS) (lo:V) (p:Str) (r l:LS) (A:Str->Str->Prop) (_:vs=[.ref a.x,.str p]) (_:FoA (cc 9) cw H0 H a ss ns qs S ss dn wt lo) (_:ss.length<=14) (_:FI A (pt qs) S) (_:S.rows p=some r) (_:Ch (pt qs) S (S.bas p) l) (_:l.length<=14) (_:∀(t:Addr) (H':Hp),L2.Same H H'->H t=none->H' t=some (.lst (l.map V.str))->Q (.ref t) H')
section
variable{P:Program}{w:World}{K:W.Frag}{mg:Str->Option Value}{base:Heap}{cc:Nat->Addr}{cw:Addr}{H0 H:Hp}{a:Fo}{ss:LS}{ns:LN}{qs:LP}{S:FS}{bs dn wt:LS}{lo:V}
theorem FoO.rd{Q:VK}{f:Str}{v:V}(h:FoO (cc 9) H a lo)(T:Txt K mg cc cw)(i:Nat)(e:(a.tab lo)[i]?=some (f,v))(q:Q v H):FldR K f (.ref a.x) H Q:=by
 obtain⟨dx,fs,h1,_,_,b,_⟩:=h;show⟨a.x,cc 9,dx,fs,v,rfl,h1,T.fcl,T.fa f ?_,b f v (ye e),q⟩;have:((a.tab lo).map Prod.fst)[i]?=some f:=by rw[yd,e];rfl
 show ye (l:=fAtt) (i:=i) this
theorem ok_re(F:Fun K "reach" "Forest.reach" j4 f fd)(T:Txt K mg cc cw):wq7 1 f fd wqz (spRe cc cw):=by
 show F.ok uF fun _ _ _ _ H vs Q E U h=>?_
 .obtain⟨H0,a,ss,ns,qs,S,bs,dn,wt,lo,p,t,r,rfl,h,R,W,d,s,m,q⟩:=h;have X:=jX U;have b:=h.few;have l:p∉dn++wt:=fun z=>(h.evi p).mp z m;show⟨_,(qc (jI (pv 2) (jH (qB (K:=K) rfl (pv 0) rfl) (pv 1) (jJ X)))
 (qe (qP (qbl (K:=K) rfl yM Yc Yd qN (qB (K:=K) rfl (pv 0) rfl) (qa (pv 1) qd))))),?_⟩
  ext;obtain⟨⟨n1,n2,n3,n4,n5⟩,⟨n6,n7,C,D⟩,⟨aa,ac,A⟩,⟨ad,B⟩,g⟩:=(by simpa [Fo.six] using h.sep:(¬a.x=a.dr/\¬a.x=a.da/\¬a.x=a.ds/\¬a.x=a.dg/\¬a.x=a.dw)/\(¬a.dr=a.da/\¬a.dr=a.ds/\¬a.dr=a.dg/\¬a.dr=a.dw)/\(¬a.da=a.ds/\¬a.da=a.dg/\¬a.da=a.dw)/\(¬a.ds=a.dg/\¬a.ds=a.dw)/\¬a.dg=a.dw);obtain⟨j,r1,r2,r3⟩:=h.row;obtain⟨Z,p1,p2,p3⟩:=h.par;obtain⟨ks,J,L,M⟩:=h.bas;obtain⟨xs,N,O⟩:=h.rng;show .inl (h.obj.rd T 2 rfl ?_);apply .inr ⟨a.dr,_,rfl,DPut.k (k:=Sum.inr p) r1 (by rw[YA];lk),?_⟩;have G:FoO (cc 9) (upd H a.dr (.dK (zw j (Sum.inr p) (.ref t)))) a lo:=h.obj.eq (qf n1);have I:upd H a.dr (.dK (zw j (Sum.inr p) (.ref t))) a.dw=some (.lst (wt.map V.str)):=by rw[qf (Ym D)];show h.wai
  apply .inl (G.rd T 6 rfl ?_);show⟨.inl ⟨rfl,_,.of I⟩,?_⟩;apply⟨a.dw,_,_,rfl,rfl,I,by rw[ya];show qi (by rw[yt] at b;lk),?_⟩;have u:∀{c:Addr} {o o':HO},c∉a.six->upd (upd H a.dr o) a.dw o' c=H c:=fun hc=>by rw[qf (fun z=>hc (by rw[z];simp[Fo.six])),qf (fun z=>hc (by rw[z];simp[Fo.six]))]
  have i:Bx a.six H (upd (upd H a.dr (.dK (zw j (Sum.inr p) (.ref t)))) a.dw (.lst (wt.map V.str++[.str p]))):=fun c o n e=>by rw[u n];show e
  show q _ ⟨qaC (qaC h.sm (h.fr _ (by simp[Fo.six]))) (h.fr _ (by simp[Fo.six])),h.web,h.prt,h.fr,h.nd,fun c hc=>⟨(h.exf c hc).1,(h.exf c hc).2.1,(h.exf c hc).2.2.elim fun o e=>⟨o,i _ _ (h.exf c hc).2.1 e⟩⟩,G.eq (qf n5),⟨_,by rw[qf D,qb],?_,fun z=>?_⟩,⟨Z,by rw[qf A,qf (Ym n6)];show p1,p2,p3⟩,⟨ks,by rw[qf B,qf (Ym n7)];show J,L,M⟩,⟨xs,by rw[qf g,qf (Ym C)];show N,?_⟩,by rw[qb,yu];rfl,?_,fun v=>?_,fun v hv=>?_⟩ i fun o e=>by(rw[qf g,qf (Ym C)];show e)
  .have:=jp j (Sum.inr p:Key) (.ref t);rw[<- Ys,yt (bs:=[p])];show _<=_+1;lk
  .unfold FS.setRow;dsimp only;rw[qaP];by_cases e:z=p
   .subst e;rw[yG rfl,yG rfl];show⟨t,rfl,i _ _ (fun y=>d (Fo.sub _ y)) W,d⟩
   .rw [yB (fun y=>e (xn y)),yB e];show(r3 z).mono i Fo.sub
  .rw [<- Ys,yt (bs:=[p])];show Y1 O
  .rw [<- Ys];show Yi.mpr ⟨h.evn,xu _ _,fun x u y Y e=>l (by rw[<- yy.mp Y,<- e];show u)⟩
  .rw [<- Ys,yA,yy,h.evi];unfold FS.setRow;dsimp only;by_cases e:v=p
   .subst e;rw[yG rfl];show⟨(fun _ z=>by cases z),fun _=>.inr rfl⟩
   .rw [yB e];show⟨fun z=>z.resolve_right e,.inl⟩
  .rw [<- Ys] at hv;rcases yA.mp hv with z | z
   .show h.evs v z
   .rw [yy.mp z];show s
end
theorem Kw:FnScope ["self","place","bases","below"] wqb (qg qV):=fS
theorem atI_last{xs:LS}:atI ((xs++[c]).map V.str) (-1)=some (.str c):=by
 have e:ixN ((xs++[c]).map V.str).length (-1)=some xs.length:=by
  unfold ixN;rw[yB (by lk),yG (by rw[ya,yt];simp;lk)]
  congr 1
  rw[ya,yt];simp only[yJ,YW];lk
 unfold atI;rw[e];show((xs++[c]).map V.str)[xs.length]?=_;rw[yd,yO (yh _),k8];rfl
theorem Ch.cases'{f:Str->Option Str}{t:LS}(h:Ch f S b (b::t)):(f b=none/\t=[])\/∃ q z,f b=some q/\S.par q=some z/\Ch f S (S.bas z) t:=by
 generalize e:b::t=l at h
 cases h with
 | root h=>cases e;show .inl ⟨h,rfl⟩
 | step h1 h2 h3=>cases e;show .inr ⟨_,_,h1,h2,h3⟩
theorem in_prK{Q:VK}(a:H d=some (.dK (prK qs)))(q:Q (.bl (pt qs s).isSome) H):qey K false (.str s) (.ref d) H Q:=by
 show .inr (.inl ⟨d,_,rfl,DGet.k (k:=Sum.inr s) a,?_⟩);rw[jq,yB (by decide),xt];show q
theorem qez{v:V}{Q:VK}(a:H d=some (.dK kvs))(e:jZ kvs (.inr s:Key)=some v)(q:Q v H):qgd K (.ref d) (.str s) H Q:=.inr ⟨d,v,rfl,by rw[<- e];show DGet.k (k:=Sum.inr s) a,q⟩
theorem ok_bd(F:Fun K "bases_down_from" "Forest.bases_down_from" qV f fd)(T:Txt K mg cc cw):wq7 1 f fd wqb (spBd cc cw):=by
 show F.ok Kw fun _ _ _ _ H vs Q E hr h=>?_
 .obtain⟨H0,a,ss,ns,qs,S,dn,wt,lo,p,r,l,B,rfl,h,ad,I,hp,y,aa,q⟩:=h;have n:=jX hr;show⟨_,(qc (qk (i:=2) Kw.nd rfl (yH rfl) (qS (qa (qr (qt (K:=K) rfl n) (qB (K:=K) rfl (pv 0) rfl) (pv 1) (fun _ _=>rfl)) qd)))
 (qc (qao yS (qj (qae (K:=K) rfl n) (qr (qt (K:=K) rfl n) (pv 2) (qaA qaN qh) (fun _ _=>rfl)) (qB (K:=K) rfl (pv 0) rfl) (by with_unfolding_all rfl))
 (qc (qk (i:=3) Kw.nd rfl (yH rfl) (qr (qt (K:=K) rfl n) (qB (K:=K) rfl (pv 0) rfl) (qr (qt (K:=K) rfl n) (qB (K:=K) rfl (pv 0) rfl) (qr (qt (K:=K) rfl n) (pv 2) (qaA qaN qh) (fun _ _=>rfl)) (fun _ _=>rfl)) (fun _ _=>rfl)))
 (qe (qP (qbl (K:=K) rfl yM Yc Yd qN (pv 2) (qa (qr (qt (K:=K) rfl n) (qB (K:=K) rfl (pv 0) rfl) (pv 3) (fun _ _=>rfl)) qd))))))
 (qe (qo (pv 2))))),?_⟩
  have u:∀{v:Str} {r:LS},S.rows v=some r->v∈ss:=fun e=>h.evs _ ((h.evi _).mpr (by rw[e];show fun z=>by cases z));obtain⟨ks,b1,b2,b3⟩:=h.bas;apply .inl (h.obj.rd T 4 rfl ?_);apply qez b1 (b3 p (u hp)) ?_;apply⟨wqqa,fun bl j=>?_⟩;have s1:=qD (Sr H) (o:=.lst [.str (S.bas p)]) j;have e1:upd H bl (.lst [.str (S.bas p)]) bl=some (.lst (([]++[S.bas p]).map V.str)):=qb;generalize upd H bl (.lst [.str (S.bas p)])=H1 at s1 e1;ext;obtain⟨W,g⟩:∃ W:Nat->L2.St->Hp->Prop,W=fun m σ J=>∃(l1 l2:LS) (c:Str) (y3:Option V),l=l1++c::l2/\σ=[some (.ref a.x),some (.str p),some (.ref bl),y3]/\L2.Same H J/\J bl=some (.lst ((l1++[c]).map V.str))/\m=l2.length:=⟨_,rfl⟩;obtain⟨t0,R⟩:=y.ne;show⟨W,⟨t0.length,by rw[g];show⟨[],t0,_,_,R,rfl,s1,e1,rfl⟩⟩,fun m σ J hW=>?_⟩;rw[g] at hW;obtain⟨l1,l2,c,y3,M,rfl,sJ,s,hm⟩:=hW;obtain⟨rc,_,Y,U,A,_⟩:=y.up I hp rfl M;have d:=h.same sJ;have D:=d.sm _ _ h.prt;apply⟨1,rfl,?_⟩;show .inl (zN s (v:=.str c) atI_last ?_);apply .inl (d.obj.rd T 1 rfl ?_);show in_prK D ?_;rcases A.cases' with⟨C,rfl⟩ | ⟨q',z,C,G,X⟩
  .rw [C];show⟨_,rfl,qL (fun h=>by cases h) fun _=>?_⟩;apply q bl J sJ j (by rw[M];show s)
  .rw [C];show⟨_,rfl,qad ⟨fun L H'=>∃ m',m'<m/\W m' L H',fun L H' z=>z,?_⟩⟩;obtain⟨_,z',rz,b,Z,_⟩:=I.dwn c rc q' Y U C;rw[G] at b;cases b;obtain⟨ka,p1,p2,p3⟩:=d.par;obtain⟨ae,N,ac,O⟩:=d.bas;apply .inl (d.obj.rd T 3 rfl ?_);apply .inl (d.obj.rd T 1 rfl ?_);apply⟨1,rfl,?_⟩;show .inl (zN s (v:=.str c) atI_last ?_);show qez D (by rw[jq,C];rfl) ?_;show qez p1 (by rw[p3,G];rfl) ?_;apply⟨.inl ⟨rfl,_,.of s⟩,?_⟩;apply .inl (d.obj.rd T 4 rfl ?_);apply qez N (O z (u Z)) ?_;apply⟨bl,_,_,rfl,rfl,s,by rw[ya];show qi (by have:=congrArg List.length M;rw[yt,yJ] at this;rw[yt];simp only[yJ,YW];lk),?_⟩;obtain⟨t1,t⟩:=X.ne;rw[g];show⟨t1.length,by rw[hm,t];simp,l1++[c],t1,S.bas z,_,by rw[M,t];simp,rfl,qaC sJ j,by rw[qb,yu (l₁:=l1++[c])];rfl,rfl⟩
theorem Kp:FnScope ["self","one","other","bases","side","base","place","row"] wqO (qg je):=fS
structure RR(f:Str->Option Str)(S S':FS)(v w:Str)(cs:LS):Prop where
 par:S'.par=S.par
 bas:S'.bas=S.bas
 old:∀ u r,S.rows u=some r->S'.rows u=some r
 new:∀ u r,S'.rows u=some r->S.rows u=some r\/∃ c∈cs,f c=some u/\NewRow S v w u r
 all:∀ c∈cs,∀ q,f c=some q->∃ r,S'.rows q=some r
inductive spRr(cc:Nat->Addr)(cw:Addr)(vs:List V)(H:Hp)(Q:VK)(E:XK):Prop|mk (H0:Hp) (a:Fo) (ss:LS) (ns:LN) (qs:LP) (S:FS) (dn wt:LS) (lo:V) (v w:Str) (lb:Addr) (cs rv rw:LS) (_:vs=[.ref a.x,.str v,.str w,.ref lb]) (_:FoA (cc 9) cw H0 H a ss ns qs S ss dn wt lo) (_:ss.length<=14) (_:H lb=some (.lst (cs.map V.str))) (_:lb∉a.six) (_:S.rows v=some rv) (_:S.rows w=some rw) (_:rv.length<=14) (_:rw.length<=14) (_:rv.Nodup) (_:cs.Nodup) (_:cs.length<=14) (_:(qz qs).Nodup) (_:(∀ c∈cs,∃ q rz t,pt qs c=some q/\S.rows q=none/\q∈ss/\rv=rz++q::t)) (_:∀(t:Addr) (sd more:LS) (H':Hp) (S':FS),FoA (cc 9) cw H0 H' (a.add t) ss ns qs S' ss dn (wt++more) lo->Bx a.six H H'->H t=none->H' t=some (.lst (sd.map V.str))->(∀ u,u∈sd↔∃ c∈cs,u=c\/pt qs c=some u)->sd.length=2*cs.length->more.length=cs.length->RR (pt qs) S S' v w cs->(∀ o,H a.dg=some o->H' a.dg=some o)->Q (.ref t) H')
theorem qdH{t:LS}{q:Str}(a:(rz++q::t).Nodup):(rz++q::t).idxOf q=rz.length:=by
 show qdc a (by rw[yO (yh _),k8];rfl)
theorem qfw{a b:Addr}{Q:VK}(c:G a=some (.lst xs))(d:G b=some (.lst ys))(hl:xs.length+ys.length<=1000)(q:∀ p,G p=none->Q (.ref p) (upd G p (.lst (xs++ys)))):qdu K (.ref a) (.ref b) G Q:=.inl ⟨a,b,_,_,rfl,rfl,c,d,yi hl (by decide),q⟩
theorem ok_rr(F:Fun K "reach_round" "Forest.reach_round" je f fd)(T:Txt K mg cc cw)(KC:wq6 1 (cc 9) "reach" wqz (spRe cc cw)):wq7 2 f fd wqO (spRr cc cw):=by
 show F.ok Kp fun _ _ _ _ H vs Q E hr h=>?_
 .obtain⟨H0,a,ss,ns,qs,S,dn,wt,lo,v,w,lb,U,rv,g,rfl,h,aq,I,ba,hv,hw,bc,bj,al,ax,bg,ak,ay,q⟩:=h;have hu:=jX hr;show⟨_,(qc (qk (i:=4) Kp.nd rfl (yH rfl) (qS qd))
 (qc (qX yS rfl (qG (K:=K) rfl (pv 3)) (qm (i:=5) Kp.nd rfl (yH rfl))
 (qc (qk (i:=6) Kp.nd rfl (yH rfl) (qr (qt (K:=K) rfl hu) (qB (K:=K) rfl (pv 0) rfl) (pv 5) (fun _ _=>rfl)))
 (qc (qk (i:=7) Kp.nd rfl (yH rfl) (qr (qt (K:=K) rfl hu) (qB (K:=K) rfl (pv 0) rfl) (pv 1) (fun _ _=>rfl)))
 (qc (qP (qE KC (hmR hr) (pv 0) (qa (pv 6) (qa (qu (j6 (K:=K) rfl) (qr (qt (K:=K) rfl hu) (qB (K:=K) rfl (pv 0) rfl) (pv 2) (fun _ _=>rfl)) (qfJ (K:=K) rfl (jt (qes (K:=K) rfl) (pv 7) (jF (qbl (K:=K) rfl yM Xg XY (qdy (K:=K) rfl) (pv 7) (qa (pv 6) qd))) jV) (jF (qaA qaN qh)))) qd))))
 (qe (qP (qbl (K:=K) rfl yM xl xm zP (pv 4) (qa (qS (qa (pv 5) (qa (pv 6) qd))) qd))))))))
 (qe (qo (pv 4))))),?_⟩
  apply⟨wq9,fun l s=>?_⟩;have s1:=qD (Sr H) (o:=.lst []) s;have h1:=h.add (o:=.lst []) s;have Z:upd H l (.lst []) l=some (.lst (([]:LS).map V.str)):=qb;have bm:lb≠l:=fun z=>by rw[z,s] at I;cases I
  generalize upd H l (.lst [])=H1 at s1 h1 Z;ext;obtain⟨LI,B⟩:∃ LI:Nat->L2.St->Hp->Prop,LI=fun i σ J=>∃(S':FS) (b G:LS) (y5 y6 y7:Option V),σ=[some (.ref a.x),some (.str v),some (.str w),some (.ref lb),some (.ref l),y5,y6,y7]/\FoA (cc 9) cw H0 J (a.add l) ss ns qs S' ss dn (wt++b) lo/\Bx a.six H J/\J l=some (.lst (G.map V.str))/\(∀ u,u∈G↔∃ c∈U.take i,u=c\/pt qs c=some u)/\G.length=2*i/\b.length=i/\RR (pt qs) S S' v w (U.take i)/\∀ o,H a.dg=some o->J a.dg=some o:=⟨_,rfl⟩;show .inl ⟨⟨_,.of (s1 _ _ I)⟩,qQ (xs:=U.map V.str) LI (by rw[B];show⟨S,[],[],_,_,_,rfl,by rw[Ye];show h1,Bx.of s1,Z,fun u=>by simp,rfl,rfl,⟨rfl,rfl,fun _ _ e=>e,fun _ _ e=>.inl e,fun c hc=>by simp at hc⟩,fun o e=>s1 _ _ e⟩) (fun i σ J _ R=>?_) (fun i y σ J hy R=>?_) fun σ J R=>?_⟩
  .rw [B] at R;obtain⟨S',b,G,y5,y6,y7,rfl,A,X,_⟩:=R;show .of (X _ _ ba I)
  .rw [B] at R;obtain⟨S',b,G,y5,y6,y7,rfl,A,X,eJ,M,m,L,D,W⟩:=R;rw[yd] at hy;obtain⟨c,hc,rfl⟩:=yn.mp hy;have aw:=ye hc;obtain⟨z,rz,t,hz,am,bf,p⟩:=ay c aw;have bh:i<U.length:=(yc.mp hc).1;have N:U.take (i+1)=U.take i++[c]:=by rw[yK,hc];rfl
   have bb:=A.sm _ _ h.prt;obtain⟨kr,r1,r2,r3⟩:=A.row
   have rowOf:∀{u:Str} {r:LS},S.rows u=some r->∃ t,jZ kr (.inr u:Key)=some (.ref t)/\J t=some (.lst (r.map V.str)):=fun{u r} e=>by
    have:=r3 u;rw[D.old u r e] at this;obtain⟨t,k1,k2,_⟩:=this;show⟨t,k1,k2⟩
   obtain⟨tv,kv,ev⟩:=rowOf hv;obtain⟨tw,kw,ew⟩:=rowOf hw;apply .inl (A.obj.rd T 1 rfl ?_);apply qez bb (by rw[jq,hz];rfl) ?_;apply .inl (A.obj.rd T 2 rfl ?_);apply qez r1 kv ?_;ext;obtain⟨dx,fs,bd,_,_,_,be⟩:=id A.obj;show⟨a.x,dx,fs,rfl,bd,be _ (by room),?_⟩;apply .inl (A.obj.rd T 2 rfl ?_);apply qez r1 kw ?_;apply qhn ?_;apply⟨.inl ⟨rfl,_,.of ev⟩,?_⟩;apply⟨tv,rv,z,rfl,rfl,.of ev,by rw[p];simp,_,rfl,?_⟩;rw[p] at al;have ap:rv.idxOf z=rz.length:=by rw[p];show qdH al
   rw[ap];apply .inl ⟨tv,_,rfl,.of ev,fun c1 as=>?_⟩;have ag:qcQ (rv.map V.str) (some ((rz.length:Nat):Int)) none=(z::t).map V.str:=by rw[qbR,p,yu,List.drop_left' (by simp)]
   rw[ag];have t1:=qD (Sr J) (o:=.lst ((z::t).map V.str)) as;have ac:upd J c1 (.lst ((z::t).map V.str)) c1=some (.lst ((z::t).map V.str)):=qb;generalize upd J c1 (.lst ((z::t).map V.str))=J1 at t1 ac;apply⟨1,rfl,?_⟩;show⟨_,rfl,rfl,c1,_,rfl,.of ac,fun c2 au=>?_⟩;have t2:=qD t1 (o:=.lst ((z::t).map V.str).reverse) au;have ad:upd J1 c2 (.lst ((z::t).map V.str).reverse) c2=some (.lst ((z::t).reverse.map V.str)):=by rw[qb,List.map_reverse]
   generalize upd J1 c2 (.lst ((z::t).map V.str).reverse)=J2 at t2 ad;have bi:(z::t).length<=14:=by rw[p,yt] at bc;lk
   show qfw (t2 _ _ ew) ad (by rw[ya,ya,YF];lk) fun c3 ah=>?_;have ar:=A.same t2;have n3:=ar.newA ah;have t3:=qD t2 (o:=.lst (g.map V.str++(z::t).reverse.map V.str)) ah;have ae:upd J2 c3 (.lst (g.map V.str++(z::t).reverse.map V.str)) c3=some (.lst ((g++(z::t).reverse).map V.str)):=by rw[qb,yu]
   generalize upd J2 c3 (.lst (g.map V.str++(z::t).reverse.map V.str))=J3 at t3 ae
   have ai:c∉U.take i:=fun y=>by
    obtain⟨j,hj⟩:=yf y;have az:=(yc.mp hj).1;rw[yQ] at az;rw[List.getElem?_take,yG (by lk)] at hj;have:=qy ax hj hc;lk
   have an:S'.rows z=none:=by
    cases e:S'.rows z with
    | none=>rfl
    | some r =>
     exfalso;rcases D.new z r e with y | ⟨O,C,y,_⟩
     .rw [am] at y;cases y
     .have Z:=(qeZ ak).mp y;rw[(qeZ ak).mp hz] at Z;rw[<- ym Z] at C;show ai C
   apply⟨H0,a.add l,ss,ns,qs,S',ss,dn,wt++b,lo,z,c3,g++(z::t).reverse,rfl,A.same t3,aq,ae,n3,bf,an,fun J4 h4 Y aj=>?_⟩;have ao:l∉a.six:=h.new s;have aa:J4 l=some (.lst (G.map V.str)):=Y _ _ ao (t3 _ _ eJ);apply⟨.inl ⟨rfl,_,.of aa⟩,?_⟩;apply⟨wqqb,fun c5 av=>?_⟩;have t5:=qD (Sr J4) (o:=.lst [.str c,.str z]) av;have af:upd J4 c5 (.lst [.str c,.str z]) c5=some (.lst [.str c,.str z]):=qb;generalize upd J4 c5 (.lst [.str c,.str z])=J5 at t5 af;have h5:=h4.same t5;apply⟨l,c5,_,_,rfl,rfl,t5 _ _ aa,af,by rw[ya,YA];show _+2<=_;lk,?_⟩;have h6:=h5.updE (c:=l) (o:=.lst (G.map V.str++[.str c,.str z])) yU;rw[B];show⟨S'.setRow z (g++(z::t).reverse),b++[z],G++[c,z],_,_,_,rfl,by rw[<- Ys wt];show h6,?_,by rw[qb,yu];rfl,fun u=>?_,by rw[yt,m];show _+2=_;lk,by rw[yt,L];rfl,⟨D.par,D.bas,fun u r e=>?_,fun u r e=>?_,fun O C q' e=>?_⟩,fun o e=>?_⟩
   .show fun d o n e=>by
     have ne:d≠l:=fun y=>by rw[y,s] at e;cases e
     rw[qf ne];show t5 _ _ (Y _ _ n (t3 _ _ (X _ _ n e)))
   .rw [N,yA,M];simp only[yA,yx,Yb,YH];constructor
    .rintro (⟨O,h1,h2⟩ | rfl | rfl)
     .show⟨O,.inl h1,h2⟩
     .show⟨u,.inr rfl,.inl rfl⟩
     .show⟨c,.inr rfl,.inr hz⟩
    .rintro ⟨O,h1 | rfl,h2⟩
     .show .inl ⟨O,h1,h2⟩
     .rcases h2 with h2 | h2
      .show .inr (.inl h2)
      .rw [hz] at h2;show .inr (.inr (ym h2).symm)
   .show(if u=z then _ else S'.rows u)=_;rw[yB (fun y=>by rw[y,am] at e;cases e)];show D.old u r e
   .have e':(if u=z then some (g++(z::t).reverse) else S'.rows u)=some r:=e;by_cases y:u=z
    .subst y;rw[yG rfl] at e';show .inr ⟨c,by rw[N];simp,hz,rv,g,rz,t,hv,hw,p,(ym e').symm⟩
    .rw [yB y] at e';rcases D.new u r e' with x | ⟨O,h1,h2⟩
     .show .inl x
     .show .inr ⟨O,by rw[N];show yR _ h1,h2⟩
   .show ∃ r,(if q'=z then some (g++(z::t).reverse) else S'.rows q')=some r;by_cases y:q'=z
    .rw [yG y];show⟨_,rfl⟩
    .rw [yB y];rw[N] at C;rcases yA.mp C with x | x
     .show D.all O x q' e
     .rw [yy.mp x,hz] at e;show absurd (ym e).symm y
   .have ne:a.dg≠l:=fun y=>ao (by rw[<- y];simp[Fo.six]);rw[qf ne];show t5 _ _ (aj o (t3 _ _ (W o e)))
  .rw [B] at R;obtain⟨S',b,G,y5,y6,y7,rfl,A,X,eJ,M,m,L,D,W⟩:=R;rw[ya] at m L;rw[ya,yP] at M D;apply q l G b J S' A X s eJ M m L D W
theorem K0:FnScope wqQ wqV (qg jO):=fS
def FS.setBas(S:FS)(l:LS)(m:Str):FS:=⟨S.rows,S.par,fun u=>if u∈l then m else S.bas u⟩
def wnL(S:FS)(ss a:LS)(m:Str):LS:=ss.filter fun u=>decide (S.bas u∈a++[m])
inductive spFd(cc:Nat->Addr)(cw:Addr)(vs:List V)(H:Hp)(Q:VK)(E:XK):Prop|mk (H0:Hp) (a:Fo) (ss:LS) (ns:LN) (qs:LP) (S:FS) (dn wt:LS) (lo:V) (lr:Addr) (rg:LS) (m:Str) (xs:List V) (_:vs=[.ref a.x,.ref lr,.str m]) (_:FoA (cc 9) cw H0 H a ss ns qs S ss dn wt lo) (_:ss.length<=14) (_:H lr=some (.lst (rg.map V.str))) (_:lr∉a.six) (_:rg.length<=100) (_:H a.dg=some (.lst xs)) (_:xs.length<(dn++wt).length) (_:∀ H',FoA (cc 9) cw H0 H' a ss ns qs (S.setBas (wnL S ss rg m) m) ss dn wt lo->Bx a.six H H'->Q .non H')
theorem put_len{k:Key}{v u:V}(h:jZ kvs k=some u):(zw kvs k v).length=kvs.length:=by
 unfold zw;rw[qar,h];show ya _
theorem qe1{n:Addr}{Q:VK}(a:H n=some (.lst (ss.map V.str)))(q:Q (.bl (decide (z∈ss))) H):qey K false (.str z) (.ref n) H Q:=
 .inl ⟨n,_,rfl,.inl (.of a),rfl,Yw.mpr fun x b=>by(obtain⟨s,_,rfl⟩:=yI.mp b;rfl),by rw[yB (by decide),qco];show q⟩
theorem FoA.setB{a:Fo}{ks:List (Key×V)}{l:LS}{m:Str}(h:FoA (cc 9) cw H0 H a ss ns qs (S.setBas l m) ss dn wt lo)(t:H a.ds=some (.dK ks))(hz:z∈ss):FoA (cc 9) cw H0 (upd H a.ds (.dK (zw ks (Sum.inr z) (.str m)))) a ss ns qs (S.setBas (l++[z]) m) ss dn wt lo/\ks.length<=ss.length:=by
 obtain⟨A,K,L,M⟩:=h.row;obtain⟨w,G,I,J⟩:=h.par;obtain⟨k,g,i,j⟩:=h.bas;obtain⟨xs,r,s⟩:=h.rng;rw[t] at g;cases g;obtain⟨⟨N,O,E,P,R⟩,⟨T,F,U,W⟩,⟨b,B,C⟩,⟨d,f⟩,D⟩:=(by simpa [Fo.six] using h.sep:(¬a.x=a.dr/\¬a.x=a.da/\¬a.x=a.ds/\¬a.x=a.dg/\¬a.x=a.dw)/\(¬a.dr=a.da/\¬a.dr=a.ds/\¬a.dr=a.dg/\¬a.dr=a.dw)/\(¬a.da=a.ds/\¬a.da=a.dg/\¬a.da=a.dw)/\(¬a.ds=a.dg/\¬a.ds=a.dw)/\¬a.dg=a.dw);have p:Bx a.six H (upd H a.ds (.dK (zw ks (Sum.inr z) (.str m)))):=fun c o n e=>by rw[qf (fun y=>n (by rw[y];simp[Fo.six]))];show e
 show⟨⟨qaC h.sm (h.fr _ (by simp[Fo.six])),h.web,h.prt,h.fr,h.nd,fun c hc=>⟨(h.exf c hc).1,(h.exf c hc).2.1,(h.exf c hc).2.2.elim fun o e=>⟨o,p _ _ (h.exf c hc).2.1 e⟩⟩,h.obj.eq (qf E),⟨A,by rw[qf F];show K,L,fun y=>(M y).mono p Fo.sub⟩,⟨w,by rw[qf b];show G,I,J⟩,⟨_,qb,by rw[put_len (j z hz)];show i,fun u v=>?_⟩,⟨xs,by rw[qf (Ym d)];show r,s⟩,by rw[qf (Ym f)];show h.wai,h.evn,h.evi,h.evs⟩,i⟩;rw[qaP,j u v];show(if _ then _ else _)=some (V.str (if u∈l++[z] then m else S.bas u));have q:(S.setBas l m).bas u=if u∈l then m else S.bas u:=rfl;rw[q];by_cases e:u=z
 .subst e;rw[yG rfl,yG (by simp)]
 .rw [yB (fun x=>e (xn x))];by_cases y:u∈l
  .rw [yG y,yG (yR _ y)]
  .rw [yB y,yB (fun x=>(yA.mp x).elim y fun x=>e (yy.mp x))]
theorem FoA.updG{a:Fo}{bs:LS}(h:FoA (cc 9) cw H0 H a ss ns qs S bs dn wt lo)(m:xs.length<=(dn++wt).length):FoA (cc 9) cw H0 (upd H a.dg (.lst xs)) a ss ns qs S bs dn wt lo:=by
 obtain⟨p,A,B,C⟩:=h.row;obtain⟨n,v,w,z⟩:=h.par;obtain⟨k,i,j,l⟩:=h.bas;obtain⟨⟨D,E,F,t,G⟩,⟨I,J,u,K⟩,⟨q,b,r⟩,⟨d,s⟩,f⟩:=(by simpa [Fo.six] using h.sep:(¬a.x=a.dr/\¬a.x=a.da/\¬a.x=a.ds/\¬a.x=a.dg/\¬a.x=a.dw)/\(¬a.dr=a.da/\¬a.dr=a.ds/\¬a.dr=a.dg/\¬a.dr=a.dw)/\(¬a.da=a.ds/\¬a.da=a.dg/\¬a.da=a.dw)/\(¬a.ds=a.dg/\¬a.ds=a.dw)/\¬a.dg=a.dw);have g:Bx a.six H (upd H a.dg (.lst xs)):=(Bx.of (Sr H)).upd (by simp[Fo.six]);show⟨qaC h.sm (h.fr _ (by simp[Fo.six])),h.web,h.prt,h.fr,h.nd,fun c hc=>⟨(h.exf c hc).1,(h.exf c hc).2.1,(h.exf c hc).2.2.elim fun o e=>⟨o,g _ _ (h.exf c hc).2.1 e⟩⟩,h.obj.eq (qf t),⟨p,by rw[qf u];show A,B,fun y=>(C y).mono g Fo.sub⟩,⟨n,by rw[qf b];show v,w,z⟩,⟨k,by rw[qf d];show i,j,l⟩,⟨xs,qb,m⟩,by rw[qf (Ym f)];show h.wai,h.evn,h.evi,h.evs⟩
theorem ok_fdF(F:Fun K "fold" "Forest.fold" jO f fd)(T:Txt K mg cc cw)(Kr:wq6 1 cw "places" wqh (spPls cw)):wq7 2 f fd wqV (spFd cc cw):=by
 show F.ok K0 fun _ _ _ _ H vs Q E hr h=>?_
 .obtain⟨H0,a,ss,ns,qs,S,dn,wt,lo,lr,d,m,xs,rfl,h,am,ae,ap,aq,ac,ar,q⟩:=h;have B:=jX hr;show⟨_,(qc (zJ (sc:=qg jO) (XN:=wqQ) wqY 1 [1,0,2] rfl rfl rfl (by room) rfl (by room) (i:=3) K0.nd rfl rfl
  (qG (K:=K) rfl (jg Kr (hmR hr) (qB (K:=K) rfl (pv 0) rfl))) (fun _ _ _ _=>(qm (i:=0) (show(wqY:LS).Nodup by room) rfl (yH rfl))) qH
  (fun _ _ _ _=>(qK (qj (qae (K:=K) rfl B) (qr (qt (K:=K) rfl B) (qB (K:=K) rfl (pv 2) rfl) (pv 0) (fun _ _=>rfl)) (qu (j6 (K:=K) rfl) (pv 1) (qS (qa (pv 3) qd))) (by with_unfolding_all rfl))))
  (fun _ _ _ _=>(pv 0)))
 (qc (qX yS rfl (qG (K:=K) rfl (pv 3)) (qm (i:=4) K0.nd rfl (yH rfl))
 (qe (jI (pv 2) (jH (qB (K:=K) rfl (pv 0) rfl) (pv 4) (jJ B)))))
 (qe (qP (qbl (K:=K) rfl yM Yc Yd qN (qB (K:=K) rfl (pv 0) rfl) (qa (pv 3) qd)))))),?_⟩
  have ak:=h.few;have A:=h.web.same h.sm;obtain⟨wx,dd,ol,nn,hb,_⟩:=id A;apply .inl (h.obj.rd T 0 rfl ?_);show⟨a.b,wx,_,rfl,hb,j8 (by room),?_⟩;apply⟨a.b,ss,ns,rfl,A,fun pl af=>?_⟩;have s1:=qD (Sr H) (o:=.lst (ss.map V.str)) af;have X:upd H pl (.lst (ss.map V.str)) pl=some (.lst (ss.map V.str)):=qb;generalize upd H pl (.lst (ss.map V.str))=H1 at s1 X;show .inl ⟨⟨_,.of X⟩,qF (xs:=ss.map V.str) (fun i ys J=>L2.Same H1 J/\ys=((ss.take i).filter fun u=>decide (S.bas u∈d++[m])).map V.str) ⟨L2.Same.refl H1,rfl⟩ (fun i ys J _ g=>.of (g.1 _ _ X)) (fun i y ys J G g=>?_) fun ys J g=>?_⟩
  .obtain⟨I,rfl⟩:=g;rw[yd] at G;obtain⟨z,hz,rfl⟩:=yn.mp G;have j:=s1.trans I;have l:=h.same j;obtain⟨ks,N,b2,b3⟩:=l.bas;have an:=(yc.mp hz).1
   have r:(ss.take (i+1)).filter (fun u=>decide (S.bas u∈d++[m]))=(ss.take i).filter (fun u=>decide (S.bas u∈d++[m]))++(if S.bas z∈d++[m] then [z] else []):=by
    rw[yK,hz,yW];show _++[z].filter _=_;rw[yL];simp only[kJ,Yr]
   apply .inl (l.obj.rd T 4 rfl ?_);apply qez N (b3 z (ye hz)) ?_;apply⟨wqqa,fun U Z=>?_⟩;have t1:=qD (Sr J) (o:=.lst [.str m]) Z;have s:upd J U (.lst [.str m]) U=some (.lst [.str m]):=qb;generalize upd J U (.lst [.str m])=J1 at t1 s;show qfw ((j.trans t1) _ _ ae) s (by rw[ya];show _+1<=_;lk) fun W aa=>?_;have t2:=qD t1 (o:=.lst (d.map V.str++[.str m])) aa;have t:upd J1 W (.lst (d.map V.str++[.str m])) W=some (.lst ((d++[m]).map V.str)):=by rw[qb,yu];rfl
   generalize upd J1 W (.lst (d.map V.str++[.str m]))=J2 at t2 t;show qe1 t ⟨_,rfl,?_⟩;rw[r];by_cases p:S.bas z∈d++[m]
   .rw [yD p,yG p];show qad ?_;ext;have ad:=yF (fun u=>decide (S.bas u∈d++[m])) (ss.take i);rw[yQ] at ad;show⟨by rw[ya];show qi (by lk),I.trans t2,by rw[yu];rfl⟩
   .rw [yl p,yB p,Ye];show yq ?_;show⟨I.trans t2,rfl⟩
  .obtain⟨I,rfl⟩:=g;rw[show(ss.map V.str).length=ss.length from ya _,yP];have j:=s1.trans I;have ah:(ss.filter fun u=>decide (S.bas u∈d++[m])).length<=ss.length:=yF _ _;show⟨by rw[ya];show yX (qi (by lk)),fun M C=>?_⟩;have O:=qD j (o:=.lst ((wnL S ss d m).map V.str)) C;have Y:upd J M (.lst ((wnL S ss d m).map V.str)) M=some (.lst ((wnL S ss d m).map V.str)):=qb;have al:(wnL S ss d m).length<=ss.length:=ah;have ai:∀ u∈wnL S ss d m,u∈ss:=fun u B=>(yp.mp B).1;show qgS _ _ _ _ (upd J M (.lst ((wnL S ss d m).map V.str)));generalize wnL S ss d m=L at *;have D:=(h.same j).new C;generalize upd J M (.lst (L.map V.str))=H2 at O Y;have h2:=h.same O;apply .inl ⟨⟨_,.of Y⟩,qQ (xs:=L.map V.str) (fun i σ J=>Bx a.six H2 J/\(∀ o,H2 a.dg=some o->J a.dg=some o)/\FoA (cc 9) cw H0 J a ss ns qs (S.setBas (L.take i) m) ss dn wt lo/\∃ y4,σ=[some (.ref a.x),some (.ref lr),some (.str m),some (.ref M),y4]) ⟨fun c o _ e=>e,fun _ e=>e,?_,_,rfl⟩ (fun i σ J _ g=>.of (g.1 _ _ D Y)) (fun i y σ J G g=>?_) fun σ J g=>?_⟩
   .have:S.setBas ([]:LS) m=S:=by unfold FS.setBas;simp
    rw[List.take_zero,this];show h2
   .obtain⟨R,hg,l,y4,rfl⟩:=g;rw[yd] at G;obtain⟨z,hz,rfl⟩:=yn.mp G;obtain⟨ks,N,b2,b3⟩:=l.bas;have ag:L.take (i+1)=L.take i++[z]:=by rw[yK,hz];rfl
    obtain⟨h3,ao⟩:=l.setB N (ai z (ye hz));apply .inl (l.obj.rd T 4 rfl ?_);apply .inr ⟨a.ds,_,rfl,DPut.k (k:=Sum.inr z) N (by rw[YA];lk),?_⟩;have aj:a.dg≠a.ds:=fun e=>by have:=h.nd;rw[e] at this;simp at this
    show⟨fun c o n e=>by rw[qf (fun y=>n (by rw[y];simp[Fo.six]))];show R c o n e,fun o e=>by rw[qf aj];show hg o e,by rw[ag];show h3,_,rfl⟩
   .obtain⟨R,hg,l,y4,rfl⟩:=g;rw[ya,yP] at l;have v:=hg _ (O _ _ ac);apply .inl (l.obj.rd T 5 rfl ?_);show⟨.inl ⟨rfl,_,.of v⟩,?_⟩;apply⟨a.dg,_,_,rfl,rfl,v,qi (by lk),?_⟩;show q _ (l.updG (by rw[yt];simp only[yJ,YW];lk)) ((Bx.of O).trans R |>.upd (by simp[Fo.six]))
theorem Kn:FnScope wqE wqy (qg qM):=fS
structure Mono(S S':FS):Prop where
 ba:∀ u v,S.bas u=S.bas v->S'.bas u=S'.bas v
 pa:∀ u,S.par u≠none->S'.par u≠none
 ro:∀ u r,S.rows u=some r->S'.rows u=some r
theorem Mono.refl(S:FS):Mono S S:=⟨fun _ _ e=>e,fun _ e=>e,fun _ _ e=>e⟩
theorem Mono.trans{c:FS}(a:Mono S S')(b:Mono S' c):Mono S c:=⟨fun u v e=>b.ba u v (a.ba u v e),fun u e=>b.pa u (a.pa u e),fun u r e=>b.ro u r (a.ro u r e)⟩
structure Wb(A:Str->Str->Prop)(ss:LS)(qs:LP):Prop where
 gr:Gr A (pt qs)
 inn:∀ a b,A a b->a∈ss
 qn:(qz qs).Nodup
 few:ss.length<=14
 nd:ss.Nodup
theorem Alt.inn(W:Wb A ss qs){r:LS}(h:Alt A (pt qs) r v)(hv:v∈ss):r.length<=14/\∀ u∈r,u∈ss:=by
 have a:∀ u∈r,u∈ss:=fun u g=>by
  obtain⟨j,d⟩:=yf g;obtain⟨i,e⟩:=h.tl;by_cases hl:j+1<r.length
  .obtain⟨b,f⟩:∃ b,r[j+1]?=some b:=⟨_,yb hl⟩;show W.inn _ _ (h.st j u b d f).1
  .have c:=(yc.mp d).1;have:j=i.length:=by rw[e,yt] at c hl;simp at c hl;lk
   rw[e,this,yO (yh _),k8] at d;rw[<- ym d];show hv
 show⟨yi (zR h.nd a) W.few,a⟩
theorem qea(l':LS):∀{l:LS},(∃ d∈l,d∈l')->∃ l1 m l2,l=l1++m::l2/\m∈l'/\(∀ d∈l1,d∉l')/\∃ t,l.filter (fun d=>decide (d∈l'))=m::t
 | [],⟨_,h,_⟩=>by cases h
 | x::r,h=>by
  by_cases b:x∈l'
  .show⟨[],x,r,rfl,b,(fun _ h=>by cases h),_,by rw[yL,yG (yD b)]⟩
  .obtain⟨d,i,a⟩:=h;obtain⟨l1,m,l2,c,e,f,t,g⟩:=qea l' (l:=r) ⟨d,(yx.mp i).resolve_left (fun z=>b (by rw[<- z];show a)),a⟩;show⟨x::l1,m,l2,by rw[c];rfl,e,fun y hy=>?_,t,by rw[yL,yB (by simpa using b)];show g⟩;rcases yx.mp hy with rfl | hy
   .show b
   .show f y hy
inductive spBt(cc:Nat->Addr)(cw:Addr)(vs:List V)(H:Hp)(Q:VK)(E:XK):Prop|mk (H0:Hp) (a:Fo) (ss:LS) (ns:LN) (qs:LP) (S:FS) (dn wt:LS) (v w:Str) (rv rw:LS) (A:Str->Str->Prop) (_:vs=[.ref a.x,.str v,.str w]) (_:FoA (cc 9) cw H0 H a ss ns qs S ss dn wt .non) (_:Wb A ss qs) (_:FI A (pt qs) S) (_:S.rows v=some rv) (_:S.rows w=some rw) (_:A v w) (_:(∀(H':Hp) (S':FS) (more:LS),FoA (cc 9) cw H0 H' a ss ns qs S' ss dn (wt++more) .non->Bx a.six H H'->FI A (pt qs) S'->S'.bas v=S'.bas w->Mono S S'->Q .non H')) (_:∀(H':Hp) (t:Addr) (r:LS),FoA (cc 9) cw H0 H' a ss ns qs S ss dn wt (.ref t)->Bx a.six H H'->H' t=some (.lst (r.map V.str))->t∉a.all->Aug A (pt qs) r->r.length<=28->Q .non H')
theorem qfL{d:Str}{Q:VK}(q:Q (.bl (!decide (c=d))) H):qfH K true (.str c) (.str d) H Q:=by
 show .inl ⟨rfl,rfl,?_⟩;rw[yG rfl]
 have e:eqV (.str c) (.str d)=decide (c=d):=by
  by_cases h:c=d
  .subst h;simp[eqV]
  .simp [eqV,h]
 rw[e];show q
theorem FoA.setL{a:Fo}{bs:LS}{fs:List (Str×V)}{v:V}(h:FoA (cc 9) cw H0 H a ss ns qs S bs dn wt .non)(s:H a.x=some (.ins (cc 9) dx fs))(hv:v≠.non):fs.length<1000/\FoA (cc 9) cw H0 (upd H a.x (.ins (cc 9) dx (qI "longer" v fs))) a ss ns qs S bs dn wt v:=by
 obtain⟨m,n,g,K,G,I,J⟩:=h.obj;rw[s] at g;cases g;have hl:=G rfl;obtain⟨w,D,E,F⟩:=h.row;obtain⟨t,A,B,C⟩:=h.par;obtain⟨k,i,j,l⟩:=h.bas;obtain⟨xs,p,q⟩:=h.rng;have r:=h.sep;have nx:∀{c:Addr},c∈[a.dr,a.da,a.ds,a.dg,a.dw]->c≠a.x:=fun hc e=>(yo.mp r).1 (by rw[<- e];show hc);have d:Bx a.six H (upd H a.x (.ins (cc 9) dx (qI "longer" v fs))):=(Bx.of (Sr H)).upd (by simp[Fo.six]);show⟨by lk,qaC h.sm (h.fr _ (by simp[Fo.six])),h.web,h.prt,h.fr,h.nd,fun c hc=>⟨(h.exf c hc).1,(h.exf c hc).2.1,(h.exf c hc).2.2.elim fun o e=>⟨o,d _ _ (h.exf c hc).2.1 e⟩⟩,⟨dx,_,qb,yi (jE _ _ _) (by lk),fun e=>absurd e hv,fun f u b=>?_,fun f b=>?_⟩,⟨w,by rw[qf (nx (by simp))];show D,E,fun y=>(F y).mono d Fo.sub⟩,⟨t,by rw[qf (nx (by simp))];show A,B,C⟩,⟨k,by rw[qf (nx (by simp))];show i,j,l⟩,⟨xs,by rw[qf (nx (by simp))];show p,q⟩,by rw[qf (nx (by simp))];show h.wai,h.evn,h.evi,h.evs⟩
 .rw [qC];by_cases e:f="longer"
  .rw [yG e];subst e;have:(Str.ofString "longer",u)∈a.tab v:=b;simp only[Fo.tab,yx,XS,Yb,YH] at this;rcases this with⟨z,_⟩ | ⟨z,_⟩ | ⟨z,_⟩ | ⟨z,_⟩ | ⟨z,_⟩ | ⟨z,_⟩ | ⟨z,_⟩ | ⟨_,z⟩<;>first | show absurd z (by room) | show congrArg some z.symm
  .rw [yB e];show I f u ?_;have:(f,u)∈a.tab v:=b;simp only[Fo.tab,yx,XS,Yb,YH] at this ⊢;rcases this with z | z | z | z | z | z | z | ⟨z,_⟩
   all_goals first | show absurd z e | simp[z]
 .rw [qC,yB (fun e=>b (by rw[e];room))];show J f b
theorem FoA.rowAt{a:Fo}{bs:LS}(h:FoA (cc 9) cw H0 H a ss ns qs S bs dn wt lo){r:LS}(e:S.rows u=some r){Q:VK}(q:∀ t,H t=some (.lst (r.map V.str))->Q (.ref t) H):qgd K (.ref a.dr) (.str u) H Q:=by
 obtain⟨g,d,_,f⟩:=h.row;have:=f u;rw[e] at this;obtain⟨t,b,c,_⟩:=this;show qez d b (q t c)
theorem ok_bt(F:Fun K "bring_together" "Forest.bring_together" qM f fd)(T:Txt K mg cc cw)(KJ:wq6 1 (cc 9) "bases_down_from" wqb (spBd cc cw))(KS:wq6 2 (cc 9) "reach_round" wqO (spRr cc cw))(uR:wq6 2 (cc 9) "fold" wqV (spFd cc cw)):wq7 3 f fd wqy (spBt cc cw):=by
 show F.ok Kn fun _ _ _ _ H vs Q E hr h=>?_
 .obtain⟨H0,a,ss,ns,qs,S,dn,wt,v,w,rv,g,B,rfl,h,b,I,hv,hw,cf,q1,q2⟩:=h;have M:=jX hr;have Y:∀{v:Str} {r:LS},S.rows v=some r->v∈ss:=fun e=>h.evs _ ((h.evi _).mpr (by rw[e];show fun z=>by cases z));obtain⟨l,hl⟩:=I.chainOf hv;obtain⟨l',D⟩:=I.chainOf hw;have ai:=hl.nd I hv rfl;have C:=D.nd I hw rfl;have Z:l.length<=14:=yi (zR ai fun c hc=>(hl.bs0 I hv hc).elim fun r z=>Y z.1) b.few;have L:l'.length<=14:=yi (zR C fun c hc=>(D.bs0 I hw hc).elim fun r z=>Y z.1) b.few;obtain⟨au,du⟩:=(I.alt v rv hv).inn b (Y hv);obtain⟨al,dv⟩:=(I.alt w g hw).inn b (Y hw);obtain⟨lx,c,ax⟩:∃ lx c,l=lx++[c]:=by obtain⟨t,e⟩:=hl.ne;show⟨_,_,(xx (by rw[e];show kU _ _)).symm⟩
  obtain⟨ly,d,ay⟩:∃ ly d,l'=ly++[d]:=by obtain⟨t,e⟩:=D.ne;show⟨_,_,(xx (by rw[e];show kU _ _)).symm⟩
  show⟨_,(qc (qk (i:=3) Kn.nd rfl (yH rfl) (qE KJ (hmR hr) (pv 0) (qa (pv 1) qd)))
 (qc (qk (i:=4) Kn.nd rfl (Y9 rfl) (qE KJ (hmR hr) (pv 0) (qa (pv 2) qd)))
 (qe (qR (qj (qaj (K:=K) rfl M) (qr (qt (K:=K) rfl M) (pv 3) (qaA qaN qh) (fun _ _=>rfl)) (qr (qt (K:=K) rfl M) (pv 4) (qaA qaN qh) (fun _ _=>rfl)) (qx _)) (qe (zf (K:=K) rfl (pv 0) (qu (j6 (K:=K) rfl) (qr (qt (K:=K) rfl M) (qB (K:=K) rfl (pv 0) rfl) (pv 1) (fun _ _=>rfl)) (qfJ (K:=K) rfl (qr (qt (K:=K) rfl M) (qB (K:=K) rfl (pv 0) rfl) (pv 2) (fun _ _=>rfl)) (jF (qaA qaN qh)))) rfl)) (qe (qR (qj (qaj (K:=K) rfl M) (qr (qt (K:=K) rfl M) (pv 3) qh (fun _ _=>rfl)) (qr (qt (K:=K) rfl M) (pv 4) qh (fun _ _=>rfl)) (qx _)) (qc (qk (i:=5) Kn.nd rfl (yH rfl) (qr (qt (K:=K) rfl M) (q9 (sc:=qg qM) (XN:=wqE) ["base","others"] 1 [4] rfl rfl rfl (by room) rfl (by room)
  (qG (K:=K) rfl (pv 3)) (fun _ _ _ _=>(qm (i:=0) (show(["base","others"]:LS).Nodup by room) rfl (yH rfl))) qH
  (fun _ _ _ _=>(qK (qj (qae (K:=K) rfl M) (pv 0) (pv 1) (by with_unfolding_all rfl))))
  (fun _ _ _ _=>(pv 0))) qh (fun _ _=>rfl)))
 (qc (qk (i:=6) Kn.nd rfl (yH rfl) (qE KS (hmR hr) (pv 0) (qa (pv 1) (qa (pv 2) (qa (jt (qes (K:=K) rfl) (pv 3) jV (jF (qbl (K:=K) rfl yM Xg XY (qdy (K:=K) rfl) (pv 3) (qa (pv 5) qd)))) qd)))))
 (qc (qP (qbl (K:=K) rfl yM xl xm zP (pv 6) (qa (qE KS (hmR hr) (pv 0) (qa (pv 2) (qa (pv 1) (qa (jt (qes (K:=K) rfl) (pv 4) jV (jF (qbl (K:=K) rfl yM Xg XY (qdy (K:=K) rfl) (pv 4) (qa (pv 5) qd)))) qd)))) qd)))
 (qe (qP (qE uR (hmR hr) (pv 0) (qa (pv 6) (qa (pv 5) qd)))))))) qw)))))),?_⟩
  ext;obtain⟨dx,fs,ak,_,_,_,ba⟩:=id h.obj;show⟨a.x,dx,fs,rfl,ak,ba _ (by room),?_⟩;apply⟨H0,a,ss,ns,qs,S,dn,wt,.non,v,rv,l,B,rfl,h,b.few,I,hv,hl,Z,fun o1 H1 s1 dk cu=>?_⟩;apply⟨a.x,dx,fs,rfl,s1 _ _ ak,ba _ (by room),?_⟩;apply⟨H0,a,ss,ns,qs,S,dn,wt,.non,w,g,l',B,rfl,h.same s1,b.few,I,hw,D,L,fun o2 H2 s2 dl am=>?_⟩;have aq:=s1.trans s2;have h2:=h.same aq;have R:=s2 _ _ cu;have ds:=h.newA dk;have dt:=(h.same s1).newA dl;apply⟨1,rfl,?_⟩;show .inl (zN R (v:=.str c) (by rw[ax];show atI_last) ?_);apply⟨1,rfl,?_⟩;show .inl (zN am (v:=.str d) (by rw[ay];show atI_last) ?_);show qfL ⟨_,rfl,?_⟩;by_cases an:c=d
  .rw [yD an];show yq ?_;obtain⟨t0,X⟩:=hl.ne;obtain⟨ef,A⟩:=D.ne;apply .inl (zN R (v:=.str (S.bas v)) (qv (j:=0) (by rw[X];rfl)) ?_);apply .inl (zN am (v:=.str (S.bas w)) (qv (j:=0) (by rw[A];rfl)) ?_);show qfL ⟨_,rfl,?_⟩;by_cases ag:S.bas v=S.bas w
   .rw [yD ag];show yq ?_;show q1 H2 S [] (by rw[Ye];show h2) (Bx.of aq) I ag (Mono.refl S)
   .rw [yl ag];show qad ?_;obtain⟨l1,m,l2,U,aj,ao,tf,bq⟩:=qea l' (l:=l) ⟨c,by rw[ax];simp,by rw[ay,an];simp⟩;obtain⟨m1,m2,O⟩:=Yv aj;obtain⟨ct,de⟩:=hl.meet I hv hw D U O ao;rw[ct] at O;have dy:m∉m1:=fun z=>by rw[O] at C;show(Yi.mp C).2.2 m z m (by simp) rfl
    have dw:m∉l1:=fun z=>ao m z aj;apply .inl ⟨⟨_,.of R⟩,qF (xs:=l.map V.str) (fun i ys J=>J=H2/\ys=((l.take i).filter fun d=>decide (d∈l')).map V.str) ⟨rfl,rfl⟩ (fun i ys J _ hp=>by rw[hp.1];show .of R) (fun i y ys J hy hp=>?_) fun ys J hp=>?_⟩
    .obtain⟨rfl,rfl⟩:=hp;rw[yd] at hy;obtain⟨z,hz,rfl⟩:=yn.mp hy
     have az:(l.take (i+1)).filter (fun d=>decide (d∈l'))=(l.take i).filter (fun d=>decide (d∈l'))++(if z∈l' then [z] else []):=by
      rw[yK,hz,yW];show _++[z].filter _=_;rw[yL];simp only[kJ,Yr]
     have ec:=(yc.mp hz).1;have dh:=yF (fun d=>decide (d∈l')) (l.take i);rw[yQ] at dh;apply qe1 am ⟨_,rfl,?_⟩;rw[az];by_cases G:z∈l'
     .rw [yD G,yG G];show qad ?_;apply⟨by rw[ya];show qi (by lk),rfl,by rw[yu];rfl⟩
     .rw [yl G,yB G,Ye];show yq ?_;show⟨rfl,rfl⟩
    .obtain⟨rfl,rfl⟩:=hp;rw[show(l.map V.str).length=l.length from ya _,yP,bq];have dp:=yF (fun d=>decide (d∈l')) l;rw[bq] at dp;show⟨by rw[ya];show yX (qi (by lk)),fun cl bt=>?_⟩;have s3:=qD aq (o:=.lst ((m::tf).map V.str)) bt;have bc:=qD (Sr J) (o:=.lst ((m::tf).map V.str)) bt;have bh:upd J cl (.lst ((m::tf).map V.str)) cl=some (.lst ((m::tf).map V.str)):=qb;generalize upd J cl (.lst ((m::tf).map V.str))=H3 at s3 bc bh;apply .inl (zN bh (v:=.str m) (qv (j:=0) rfl) ?_);have h3:=h.same s3;have ae:=bc _ _ R;have bm:=bc _ _ am;apply⟨a.x,dx,fs,rfl,s3 _ _ ak,ba _ (by room),?_⟩;apply⟨.inl ⟨rfl,_,.of ae⟩,?_⟩;apply⟨o1,l,m,rfl,rfl,.of ae,by rw[U];simp,_,rfl,?_⟩;rw[show l.idxOf m=l1.length by rw[U] at ai ⊢;show qdH ai];apply .inl ⟨o1,_,rfl,.of ae,fun c1 aa=>?_⟩;have bi:qcQ (l.map V.str) none (some ((l1.length:Nat):Int))=l1.map V.str:=by rw[qaX,U,yu,List.take_left' (by simp)]
     rw[bi];have s4:=qD s3 (o:=.lst (l1.map V.str)) aa;have co:=qD (Sr H3) (o:=.lst (l1.map V.str)) aa;have ac:upd H3 c1 (.lst (l1.map V.str)) c1=some (.lst (l1.map V.str)):=qb;have n1:=h3.new aa;generalize upd H3 c1 (.lst (l1.map V.str))=H4 at s4 co ac;have h4:=h.same s4
     have av:∀{x y:Str} {rx k W:LS},S.rows x=some rx->(∀ u∈rx,u∈ss)->Ch (pt qs) S (S.bas x) k->k=W++m::l2->∀ c∈W,∃ q rz t,pt qs c=some q/\S.rows q=none/\q∈ss/\rx=rz++q::t:=fun{x y rx k W} hx hs hk ek c hc=>by
      obtain⟨a',b',ea⟩:=Yv hc;have bj:k=a'++c::(b'++m::l2):=by rw[ek,ea];simp
      obtain⟨_,_,_,_,g3,_⟩:=hk.up I hx rfl bj;rcases g3.cases' with⟨_,z⟩ | ⟨q,_,hq,_⟩
      .simp at z
      .obtain⟨rz,t,W,_,k3,_⟩:=hk.suf I hx bj hq;show⟨q,rz,_,hq,k3,hs q (by rw[W];simp),W⟩
     apply⟨H0,a,ss,ns,qs,S,dn,wt,.non,v,w,c1,l1,rv,g,rfl,h4,b.few,ac,n1,hv,hw,au,al,(I.alt v rv hv).nd,?_,?_,b.qn,av (y:=v) hv du hl U,fun N p ap H5 S1 h5 be ce bn bz cb bw R1 di=>?_⟩
     .rw [U] at ai;show(Yi.mp ai).1
     .rw [U,yt] at Z;lk
     have eb:o1∉a.six:=fun z=>ds (Fo.sub _ z);have cn:o2∉a.six:=fun z=>dt (Fo.sub _ z);have af:=be _ _ cn (co _ _ bm);apply⟨.inl ⟨rfl,_,.of bn⟩,?_⟩;ext;obtain⟨cr,cz,ch,_,_,_,cj⟩:=id h5.obj;show⟨a.x,cr,cz,rfl,ch,cj _ (by room),?_⟩;apply⟨.inl ⟨rfl,_,.of af⟩,?_⟩;apply⟨o2,l',m,rfl,rfl,.of af,aj,_,rfl,?_⟩;rw[show l'.idxOf m=m1.length by rw[O] at C ⊢;show qdH C];apply .inl ⟨o2,_,rfl,.of af,fun c2 ah=>?_⟩;have aw:qcQ (l'.map V.str) none (some ((m1.length:Nat):Int))=m1.map V.str:=by rw[qaX,O,yu,List.take_left' (by simp)]
     rw[aw];have s6:=qD (Sr H5) (o:=.lst (m1.map V.str)) ah;have ad:upd H5 c2 (.lst (m1.map V.str)) c2=some (.lst (m1.map V.str)):=qb;have n2:=h5.new ah;generalize upd H5 c2 (.lst (m1.map V.str))=H6 at s6 ad;have h6:=h5.same s6
     have cm:∀ c∈m1,∀ q,pt qs c=some q->S.rows q=none->S1.rows q=none:=fun c hc q hq hn=>by
      cases e:S1.rows q with
      | none=>rfl
      | some r =>
       exfalso;rcases R1.new q r e with z | ⟨c',hc',z,_⟩
       .rw [hn] at z;cases z
       .have e1:=b.gr.fs z;rw[b.gr.fs hq] at e1;rw[<- ym e1] at hc';show ao c hc' (by rw[O];show yR _ hc)
     apply⟨H0,a.add N,ss,ns,qs,S1,dn,wt++ap,.non,w,v,c2,m1,g,rv,rfl,h6,b.few,ad,n2,R1.old _ _ hw,R1.old _ _ hv,al,au,(I.alt w g hw).nd,?_,?_,b.qn,fun c hc=>?_,fun t2 s bb H7 S2 h7 bf ed cv ca cd bx R2 dj=>?_⟩
     .rw [O] at C;show(Yi.mp C).1
     .rw [O,yt] at L;lk
     .obtain⟨q,rz,t,W,k2,k3,k4⟩:=av (y:=v) hw dv D O c hc;show⟨q,rz,t,W,cm c hc q W k2,k3,k4⟩
     have bd:N∉a.six:=h4.new ce;have bo:H7 N=some (.lst (p.map V.str)):=bf _ _ bd (s6 _ _ bn);apply⟨N,t2,_,_,rfl,rfl,bo,cv,by rw[ya,ya,YA];rw[U,yt] at Z;rw[O,yt] at L;lk,?_⟩;have h8:=h7.updE (c:=N) (o:=.lst (p.map V.str++s.map V.str)) (by simp[Fo.add]);obtain⟨xs,df,ee⟩:=h.rng;have bu:=dj _ (s6 _ _ (di _ (s4 _ _ df)));have dr:a.dg≠N:=fun z=>bd (by rw[<- z];simp[Fo.six]);have bp:upd H7 N (.lst (p.map V.str++s.map V.str)) N=some (.lst ((p++s).map V.str)):=by rw[qb,yu]
     have ar:upd H7 N (.lst (p.map V.str++s.map V.str)) a.dg=some (.lst xs):=by rw[qf dr];show bu
     have bg:Bx a.six H (upd H7 N (.lst (p.map V.str++s.map V.str))):=fun e o n k=>by
      have ne:e≠N:=fun z=>by rw[z,s4.free ce] at k;cases k
      rw[qf ne];show bf _ _ n (s6 _ _ (be _ _ n (s4 _ _ k)))
     generalize upd H7 N (.lst (p.map V.str++s.map V.str))=H8 at h8 bp ar bg
     have dz:0<ap.length+bb.length:=by
      rw[bw,bx];rcases l1 with _ | ⟨x,r⟩
      .rcases m1 with _ | ⟨x,r⟩
       .rw [U] at X;rw[O] at A;show absurd ((xC X).1.symm.trans (xC A).1) ag
       .simp
      .simp;lk
     ext;obtain⟨cs,da,ci,_,_,_,ck⟩:=id h8.obj;show⟨a.x,cs,da,rfl,ci,ck _ (by room),?_⟩;apply⟨H0,(a.add N).add t2,ss,ns,qs,S2,dn,wt++ap++bb,.non,N,p++s,m,xs,rfl,h8,b.few,bp,bd,?_,ar,?_,fun H9 h9 cq=>?_⟩
     .rw [yt,cb,cd];rw[U,yt] at Z;rw[O,yt] at L;lk
     .rw [<- Ys,<- Ys,yt,yt (as:=dn++wt)];lk
     have dm:∀ u,u∈p++s++[m]↔InR (pt qs) m (l1++m1) u:=fun u=>by
      rw[yA,yA,bz,ca,yy];unfold InR;constructor
      .rintro ((⟨c,hc,z⟩ | ⟨c,hc,z⟩) | z)
       .show .inr ⟨c,yR _ hc,z⟩
       .show .inr ⟨c,yV _ hc,z⟩
       .show .inl z
      .rintro (z | ⟨c,hc,z⟩)
       .show .inr z
       .rcases yA.mp hc with y | y
        .show .inl (.inl ⟨c,y,z⟩)
        .show .inl (.inr ⟨c,y,z⟩)
     have br:S2.bas=S.bas:=by rw[R2.bas,R1.bas]
     have bv:∀ u,InR (pt qs) m (l1++m1) (S.bas u)->u∈ss:=fun u M=>by
      cases e:S.rows u with
      | some r=>show Y e
      | none =>
       rw[I.own e] at M;rcases M with z | ⟨c,hc,z⟩
       .obtain⟨r,k,_⟩:=hl.bs0 I hv (c:=m) (by rw[U];simp);rw[z];show Y k
       .have dd:∃ r,S.rows c=some r:=by
         rcases yA.mp hc with y | y
         .show(hl.bs0 I hv (by rw[U];show yR _ y)).elim fun r k=>⟨r,k.1⟩
         .show(D.bs0 I hw (by rw[O];show yR _ y)).elim fun r k=>⟨r,k.1⟩
        obtain⟨r,k⟩:=dd;rcases z with z | z
        .rw [z];show Y k
        .show b.inn _ _ (b.gr.as (b.gr.fa z))
     have hM:Mg (pt qs) S (S2.setBas (wnL S2 ss (p++s) m) m) v w m l1 m1:=by
      have cg:∀ u,u∈wnL S2 ss (p++s) m↔u∈ss/\InR (pt qs) m (l1++m1) (S.bas u):=fun u=>by
       unfold wnL;rw[yp,yE,dm,br]
      have nr:∀{u:Str} {r:LS},NewRow S1 w v u r->NewRow S w v u r:=fun⟨a1,a2,a3,a4,W,k2,k3⟩=>by
       rw[R1.old _ _ hw] at W;rw[R1.old _ _ hv] at k2;cases W;cases k2;show⟨_,_,a3,a4,hw,hv,k3⟩
      show⟨by show S2.par=S.par;rw[R2.par,R1.par],fun u r e=>R2.old _ _ (R1.old _ _ e),fun u r e=>?_,fun c hc q hq=>?_,fun u M=>?_,fun u M=>?_⟩
      .rcases R2.new u r e with z | ⟨c,hc,W,k2⟩
       .rcases R1.new u r z with z | z
        .show .inl z
        .show .inr (.inl z)
       .show .inr (.inr ⟨c,hc,W,nr k2⟩)
      .rcases yA.mp hc with y | y
       .obtain⟨r,k⟩:=R1.all c y q hq;show⟨r,R2.old _ _ k⟩
       .show R2.all c y q hq
      .show(if u∈wnL S2 ss (p++s) m then m else S2.bas u)=m;rw[yG ((cg u).mpr ⟨bv u M,M⟩)]
      .show(if u∈wnL S2 ss (p++s) m then m else S2.bas u)=S.bas u;rw[yB (fun z=>M ((cg u).mp z).2),br]
     have hI:=I.merge b.gr hv hw (U ▸ hl) (O ▸ D) (O ▸ ao) (U ▸ de) cf ag hM
     have db:InR (pt qs) m (l1++m1) (S.bas v):=by
      rcases l1 with _ | ⟨x,r⟩
      .rw [U] at X;cases X;show .inl rfl
      .rw [U] at X;cases X;show .inr ⟨_,by simp,.inl rfl⟩
     have dc:InR (pt qs) m (l1++m1) (S.bas w):=by
      rcases m1 with _ | ⟨x,r⟩
      .rw [O] at A;cases A;show .inl rfl
      .rw [O] at A;cases A;show .inr ⟨_,by simp,.inl rfl⟩
     show q1 H9 _ (ap++bb) ?_ (bg.trans cq) hI ((hM.inn v db).trans (hM.inn w dc).symm) ⟨fun u z e=>?_,fun u e=>by rw[hM.par];show e,hM.old⟩
     .rw [<- Ys];show h9.drop (l:=a.ex) fun c hc=>by simp[Fo.add,hc]
     .by_cases G:InR (pt qs) m (l1++m1) (S.bas u)
      .rw [hM.inn u G,hM.inn z (by rw[<- e];show G)]
      .rw [hM.out u G,hM.out z (by rw[<- e];show G),e]
  .rw [yl an];show qad ?_;apply .inl (h2.obj.rd T 2 rfl ?_);apply h2.rowAt hv fun tv cx=>?_;apply qhn ?_;apply .inl (h2.obj.rd T 2 rfl ?_);apply h2.rowAt hw fun tw cy=>?_;apply⟨1,rfl,?_⟩;show⟨_,rfl,rfl,tw,_,rfl,.of cy,fun c1 aa=>?_⟩;have N:=qD aq (o:=.lst (g.map V.str).reverse) aa;have cp:=qD (Sr H2) (o:=.lst (g.map V.str).reverse) aa;have ac:upd H2 c1 (.lst (g.map V.str).reverse) c1=some (.lst (g.reverse.map V.str)):=by rw[qb,List.map_reverse]
   generalize upd H2 c1 (.lst (g.map V.str).reverse)=H3 at N cp ac;show qfw (cp _ _ cx) ac (by rw[ya,ya,YF];lk) fun c2 ah=>?_;have n2:=(h.same N).newA ah;have t2:=qD N (o:=.lst (rv.map V.str++g.reverse.map V.str)) ah;have ad:upd H3 c2 (.lst (rv.map V.str++g.reverse.map V.str)) c2=some (.lst ((rv++g.reverse).map V.str)):=by rw[qb,yu]
   generalize upd H3 c2 (.lst (rv.map V.str++g.reverse.map V.str))=H4 at t2 ad;obtain⟨W,k2⟩:=(h.same t2).setL (v:=.ref c2) (t2 _ _ ak) (fun e=>by cases e);apply .inl ⟨a.x,cc 9,dx,fs,rfl,t2 _ _ ak,T.fcl,T.fa _ (by room),W,?_⟩;have dq:c2≠a.x:=fun z=>n2 (Fo.sub _ (by rw[z];simp[Fo.six]));show q2 _ c2 _ k2 ((Bx.of t2).upd (by simp[Fo.six])) (by rw[qf dq];show ad) n2 (I.aug b.gr hv hw hl D (by rw[ax,ay];simpa using an) cf) (by rw[yt,YF];lk)
theorem KD:FnScope ["self","place","other","partner"] wqb (qg jf):=fS
def FS.setPar(S:FS)(u p:Str):FS:=⟨S.rows,fun s=>if s=u then some p else S.par s,S.bas⟩
inductive spLa(cc:Nat->Addr)(cw:Addr)(vs:List V)(H:Hp)(Q:VK)(E:XK):Prop|mk (H0:Hp) (a:Fo) (ss:LS) (ns:LN) (qs:LP) (S:FS) (dn wt:LS) (v:Str) (A:Str->Str->Prop) (_:vs=[.ref a.x,.str v]) (_:FoA (cc 9) cw H0 H a ss ns qs S ss (dn++[v]) wt .non) (_:Wb A ss qs) (_:(∀ s∈ss,zX s=true)) (_:(∀(j:Nat) z u,ss[j]?=some z->(u∈inB ss 0 (ns.getD j 0)↔A z u))) (_:(∀ z∈ss,pt qs z=none->S.rows z≠none)) (_:FI A (pt qs) S) (_:CI A S (fun u=>u∈dn)) (_:(∀(H':Hp) (S':FS) (more:LS),FoA (cc 9) cw H0 H' a ss ns qs S' ss (dn++[v]) (wt++more) .non->Bx a.six H H'->FI A (pt qs) S'->CI A S' (fun u=>u∈dn++[v])->Mono S S'->Q .non H')) (_:∀(H':Hp) (S':FS) (more:LS) (t:Addr) (r:LS),FoA (cc 9) cw H0 H' a ss ns qs S' ss (dn++[v]) (wt++more) (.ref t)->Bx a.six H H'->H' t=some (.lst (r.map V.str))->t∉a.all->Aug A (pt qs) r->r.length<=28->Q .non H')
theorem CI.on(h:CI A S Pd)(m:Mono S S'):CI A S' Pd:=h.mono m.ba m.pa fun u a=>by
 cases e:S.rows u with
 | none=>show absurd e a
 | some r=>rw[m.ro u r e];show fun z=>by cases z
theorem FoA.setP{a:Fo}{bs:LS}{d:List (Key×V)}{p:Str}(h:FoA (cc 9) cw H0 H a ss ns qs S bs dn wt lo)(C:H a.da=some (.dK d))(g:u∈ss)(f:S.par u=none):FoA (cc 9) cw H0 (upd H a.da (.dK (zw d (Sum.inr u) (.str p)))) a ss ns qs (S.setPar u p) bs dn wt lo/\d.length<=ss.length:=by
 obtain⟨E,P,R,T⟩:=h.row;obtain⟨k',r,M,N⟩:=h.par;obtain⟨k,t,v,w⟩:=h.bas;obtain⟨xs,A,B⟩:=h.rng;rw[C] at r;cases r;obtain⟨⟨U,J,W,X,Y⟩,⟨K,Z,n8,n9⟩,⟨i,j,l⟩,⟨F,G⟩,I⟩:=(by simpa [Fo.six] using h.sep:(¬a.x=a.dr/\¬a.x=a.da/\¬a.x=a.ds/\¬a.x=a.dg/\¬a.x=a.dw)/\(¬a.dr=a.da/\¬a.dr=a.ds/\¬a.dr=a.dg/\¬a.dr=a.dw)/\(¬a.da=a.ds/\¬a.da=a.dg/\¬a.da=a.dw)/\(¬a.ds=a.dg/\¬a.ds=a.dw)/\¬a.dg=a.dw);have n:Bx a.six H (upd H a.da (.dK (zw d (Sum.inr u) (.str p)))):=(Bx.of (Sr H)).upd (by simp[Fo.six]);obtain⟨O,L,q,m⟩:=M;show⟨⟨qaC h.sm (h.fr _ (by simp[Fo.six])),h.web,h.prt,h.fr,h.nd,fun c hc=>⟨(h.exf c hc).1,(h.exf c hc).2.1,(h.exf c hc).2.2.elim fun o e=>⟨o,n _ _ (h.exf c hc).2.1 e⟩⟩,h.obj.eq (qf J),⟨E,by rw[qf K];show P,R,fun y=>(T y).mono n Fo.sub⟩,⟨_,qb,⟨O++[u],by have:=jp d (Sum.inr u:Key) (.str p);rw[yt];show _<=_+1;lk,Yi.mpr ⟨q,xu _ _,fun x b y D e=>(m u (by rw[<- yy.mp D,<- e];show b)).2 f⟩,fun x b=>?_⟩,fun s=>?_⟩,⟨k,by rw[qf (Ym i)];show t,v,w⟩,⟨xs,by rw[qf (Ym j)];show A,B⟩,by rw[qf (Ym l)];show h.wai,h.evn,h.evi,h.evs⟩,yi L (zR q fun x b=>(m x b).1)⟩
 .show x∈ss/\(if x=u then some p else S.par x)≠none;by_cases e:x=u
  .rw [yG e,e];show⟨g,fun z=>by cases z⟩
  .rw [yB e];show m x ((yA.mp b).resolve_right fun z=>e (yy.mp z))
 .rw [qaP,N];show _=(if s=u then some p else S.par s).map V.str;by_cases e:s=u
  .subst e;rw[yG rfl,yG rfl];rfl
  .rw [yB (fun x=>e (xn x)),yB e]
theorem ok_la(F:Fun K "look_around" "Forest.look_around" jf f fd)(T:Txt K mg cc cw)(KI:wq6 6 cw "beside" wqb (spBs cw))(ub:wq6 3 (cc 9) "bring_together" wqy (spBt cc cw))(KC:wq6 1 (cc 9) "reach" wqz (spRe cc cw)):wq7 7 f fd wqb (spLa cc cw):=by
 show F.ok KD fun _ _ _ s H vs Q E hr h=>?_
 .obtain⟨H0,a,ss,ns,qs,S,dn,wt,v,B,rfl,h,d,bg,av,bb,I,hC,q1,q2⟩:=h;have R:=jX hr;show⟨_,(qe (qX yS rfl (qG (K:=K) rfl (qE KI (hmR hr) (qB (K:=K) rfl (pv 0) rfl) (qa (pv 1) qd))) (qm (i:=2) KD.nd rfl (yH rfl))
 (qc (qR (qj (qae (K:=K) rfl R) (pv 2) (qB (K:=K) rfl (pv 0) rfl) (by with_unfolding_all rfl)) (qe (qP (qE ub (hmR hr) (pv 0) (qa (pv 1) (qa (pv 2) qd))))) (qe (qR (qj (zz (K:=K) rfl R) (pv 2) (qB (K:=K) rfl (pv 0) rfl) (by with_unfolding_all rfl)) (qc (qk (i:=3) KD.nd rfl (yH rfl) (qr (qt (K:=K) rfl R) (qB (K:=K) rfl (pv 0) rfl) (pv 2) (fun _ _=>rfl)))
 (qc (jI (pv 1) (jH (qB (K:=K) rfl (pv 0) rfl) (pv 2) (jJ R)))
 (qe (qP (qE KC (hmR hr) (pv 0) (qa (pv 3) (qa (qu (j6 (K:=K) rfl) (qr (qt (K:=K) rfl R) (qB (K:=K) rfl (pv 0) rfl) (pv 1) (fun _ _=>rfl)) (qS (qa (pv 2) (qa (pv 3) qd)))) qd))))))) qw)))
 (qe (qR (qj qdr (qB (K:=K) rfl (pv 0) rfl) qag (qx _)) (qe ps_retN) qw))))),?_⟩
  have am:v∈ss:=h.evs v (by simp)
  obtain⟨rv,az⟩:∃ r,S.rows v=some r:=by
   cases e:S.rows v with
   | none=>show absurd e ((h.evi v).mp (by simp))
   | some r=>show⟨r,rfl⟩
  obtain⟨j,hj⟩:=yf am;have ae:=h.web.same h.sm;obtain⟨wx,dd,ol,nn,hb,_⟩:=id ae;apply .inl (h.obj.rd T 0 rfl ?_);show⟨a.b,wx,_,rfl,hb,j8 (by room),?_⟩;apply⟨a.b,ss,ns,v,j,rfl,ae,hj,fun H1 s1 bl af=>?_⟩;have l:=fun u=>av j v u hj;have N:(inB ss 0 (ns.getD j 0)).length<=14:=yi (qbf _ _ _) d.few;generalize inB ss 0 (ns.getD j 0)=bes at l N ⊢;have be:=(h.same s1).new af;have s2:=qD s1 (o:=.lst (bes.map V.str)) af;have eb:upd H1 bl (.lst (bes.map V.str)) bl=some (.lst (bes.map V.str)):=qb;generalize upd H1 bl (.lst (bes.map V.str))=H2 at s2 eb;have h2:=h.same s2;show .inl ⟨⟨_,.of eb⟩,qQ (xs:=bes.map V.str) (fun i σ J=>∃(S':FS) (c:LS) (y2 y3:Option V),σ=[some (.ref a.x),some (.str v),y2,y3]/\FoA (cc 9) cw H0 J a ss ns qs S' ss (dn++[v]) (wt++c) .non/\Bx a.six H2 J/\FI B (pt qs) S'/\Mono S S'/\∀ u∈bes.take i,S'.bas u=S'.bas v\/(S'.par u≠none/\u∉dn++[v])) ⟨S,[],_,_,rfl,by rw[Ye];show h2,fun _ _ _ e=>e,I,Mono.refl S,(fun u R=>by simp at R)⟩ (fun i σ J _ hp=>?_) (fun i y σ J hy hp=>?_) fun σ J hp=>?_⟩
  .obtain⟨S',c,y2,y3,rfl,_,A,_⟩:=hp;show .of (A _ _ be eb)
  .obtain⟨S',c,y2,y3,rfl,g,A,G,D,M⟩:=hp;rw[yd] at hy;obtain⟨u,ai,rfl⟩:=yn.mp hy;have U:B v u:=(l u).mp (ye ai);have ak:u∈ss:=d.inn _ _ (d.gr.as U);have m:=D.ro v rv az;have O:bes.take (i+1)=bes.take i++[u]:=by rw[yK,ai];rfl
   obtain⟨kr,r1,r2,r3⟩:=g.row;have q:=r3 u;apply .inl (g.obj.rd T 2 rfl ?_);show .inr (.inl ⟨a.dr,_,rfl,DGet.k (k:=Sum.inr u) r1,?_⟩)
   cases C:S'.rows u with
   | some ru =>
    rw[C] at q;obtain⟨tu,k1,k2,_⟩:=q;rw[k1];show⟨_,rfl,qad ?_⟩;ext;obtain⟨dx,fs,X,_,_,_,Y⟩:=id g.obj;show⟨a.x,dx,fs,rfl,X,Y _ (by room),?_⟩;apply⟨H0,a,ss,ns,qs,S',dn++[v],wt++c,v,u,rv,ru,B,rfl,g,d,G,m,C,U,fun H5 S5 bd h5 L I5 au m5=>?_,fun H5 t5 r5 h5 L e5 n5 aq ax=>?_⟩
    .ext;show .inl (h5.obj.rd T 7 rfl ?_);apply⟨rfl,_,rfl,qL (fun h=>by simp at h) fun _=>?_⟩;show⟨S5,c++bd,_,_,rfl,by rw[<- Ys wt];show h5,A.trans L,I5,D.trans m5,fun z hz=>?_⟩;rw[O] at hz;rcases yA.mp hz with hz | hz
     .show(M z hz).imp (m5.ba z v) fun y=>⟨m5.pa z y.1,y.2⟩
     .rw [yy.mp hz];show .inl au.symm
    .ext;show .inl (h5.obj.rd T 7 rfl ?_);apply⟨rfl,_,rfl,qad ?_⟩;show q2 H5 S' c t5 r5 h5 (((Bx.of s2).trans A).trans L) e5 n5 aq ax
   | none =>
    rw[C] at q;have ah:jZ kr (.inr u:Key)=none:=q;rw[ah];have aj:u∉dn++[v]:=fun z=>(g.evi u).mp (yR _ z) C;show⟨_,rfl,qL (fun h=>by cases h) fun _=>?_⟩;obtain⟨ka,p1,p2,p3⟩:=g.par;apply .inl (g.obj.rd T 3 rfl ?_);show .inr (.inl ⟨a.da,_,rfl,DGet.k (k:=Sum.inr u) p1,?_⟩);rw[p3]
    cases ep:S'.par u with
    | some z =>
     show⟨_,rfl,qL (fun h=>by cases h) fun _=>?_⟩;apply .inl (g.obj.rd T 7 rfl ?_);apply⟨rfl,_,rfl,qL (fun h=>by simp at h) fun _=>?_⟩;show⟨S',c,_,_,rfl,g,A,G,D,fun z hz=>?_⟩;rw[O] at hz;rcases yA.mp hz with hz | hz
     .show M z hz
     .rw [yy.mp hz];show .inr ⟨by rw[ep];show(fun y=>by cases y),aj⟩
    | none =>
     show⟨_,rfl,qad ?_⟩
     obtain⟨y,t⟩:∃ y,pt qs u=some y:=by
      cases e:pt qs u with
      | some y=>show⟨y,rfl⟩
      | none =>
       exfalso;have k:=bb u ak e
       cases e2:S.rows u with
       | none=>show k e2
       | some r=>rw[D.ro u r e2] at C;cases C
     have bc:y∈ss:=d.inn _ _ (d.gr.as (d.gr.fa t));have an:=G.fresh d.gr C ep t;have ay:=g.sm _ _ h.prt;obtain⟨Z,bf⟩:=g.setP (p:=v) p1 ak ep;have bi:=d.few;apply .inl (g.obj.rd T 1 rfl ?_);apply qez ay (by rw[jq,t];rfl) ?_;apply .inl (g.obj.rd T 3 rfl ?_);apply .inr ⟨a.da,_,rfl,DPut.k (k:=Sum.inr u) p1 (by rw[YA];lk),?_⟩;have aa:Bx a.six H2 (upd J a.da (.dK (zw ka (Sum.inr u) (.str v)))):=A.upd (by simp[Fo.six]);generalize upd J a.da (.dK (zw ka (Sum.inr u) (.str v)))=J3 at Z aa;ext;obtain⟨dx,fs,X,_,_,_,Y⟩:=id Z.obj;show⟨a.x,dx,fs,rfl,X,Y _ (by room),?_⟩;apply .inl (Z.obj.rd T 2 rfl ?_);apply Z.rowAt (S:=S'.setPar u v) m fun tv ap=>?_;apply⟨wqqb,fun c1 aw=>?_⟩;have t1:=qD (Sr J3) (o:=.lst [.str u,.str y]) aw;have ac:upd J3 c1 (.lst [.str u,.str y]) c1=some (.lst [.str u,.str y]):=qb;generalize upd J3 c1 (.lst [.str u,.str y])=J4 at t1 ac;have bh:=((G.alt v rv m).inn d am).1;show qfw (t1 _ _ ap) ac (by rw[ya];show _+2<=_;lk) fun c2 ag=>?_;have n2:=(Z.same t1).newA ag;have t2:=qD t1 (o:=.lst (rv.map V.str++[.str u,.str y])) ag;have ad:upd J4 c2 (.lst (rv.map V.str++[.str u,.str y])) c2=some (.lst ((rv++[u,y]).map V.str)):=by rw[qb,yu];rfl
     generalize upd J4 c2 (.lst (rv.map V.str++[.str u,.str y]))=J5 at t2 ad;apply⟨H0,a,ss,ns,qs,S'.setPar u v,ss,dn++[v],wt++c,.non,y,c2,rv++[u,y],rfl,Z.same t2,d.few,ad,n2,bc,an,fun H6 h6 ao _=>?_⟩;have W:Gw S' ((S'.setPar u v).setRow y (rv++[u,y])) v u y rv:=⟨yG rfl,fun s hs=>yB hs,yG rfl,fun s hs=>yB hs,rfl⟩;have I6:=G.grow d.gr m U C ep t W
     have m6:Mono S' ((S'.setPar u v).setRow y (rv++[u,y])):=⟨fun _ _ e=>e,fun z hz=>by
      show(if z=u then some v else S'.par z)≠none;split
      .show fun x=>by cases x
      .show hz,fun z r e=>by rw[W.ro z (fun x=>by rw[x,an] at e;cases e)];show e⟩
     apply .inl (h6.obj.rd T 7 rfl ?_);apply⟨rfl,_,rfl,qL (fun h=>by simp at h) fun _=>?_⟩;show⟨_,c++[y],_,_,rfl,by rw[<- Ys wt];show h6,(aa.trans (Bx.of t2)).trans ao,I6,D.trans m6,fun z hz=>?_⟩;rw[O] at hz;rcases yA.mp hz with hz | hz
     .show(M z hz).imp (m6.ba z v) fun y=>⟨m6.pa z y.1,y.2⟩
     .rw [yy.mp hz];show .inr ⟨by rw[W.pu];show(fun x=>by cases x),aj⟩
  .obtain⟨S',c,y2,y3,rfl,g,A,G,D,M⟩:=hp;rw[ya,yP] at M;show q1 J S' c g ((Bx.of s2).trans A) G ?_ D;have ar:=hC.on D;show⟨fun z u hz n=>?_,fun z hz=>?_⟩
   .rcases yA.mp hz with hz1 | hz1
    .by_cases al:u=v
     .rw [al] at n ⊢;rcases M z ((l z).mpr (d.gr.as n)) with y | y
      .show .inl y.symm
      .show absurd (yR _ hz1) y.2
     .rcases ar.cl z u hz1 n with y | ⟨y1,y2⟩
      .show .inl y
      .show .inr ⟨y1,fun x=>(yA.mp x).elim y2 fun x=>al (yy.mp x)⟩
    .rw [yy.mp hz1] at n ⊢;show M u ((l u).mpr n)
   .show(g.evi z).mp (yR _ hz)
theorem uf:FnScope wqb wqh (qg zi):=fS
structure FoD(cf cw:Addr)(H0 H:Hp)(a:Fo)(ss:LS)(ns:LN)(qs:LP)(S:FS)(dn wt:LS)(lo:V)(A:Str->Str->Prop):Prop where
 fo:FoA cf cw H0 H a ss ns qs S ss dn wt lo
 en:(lo=.non/\wt=[]/\FI A (pt qs) S/\CI A S (fun u=>u∈dn)/\∀ z∈ss,pt qs z=none->S.rows z≠none)\/∃ t r,lo=.ref t/\H t=some (.lst (r.map V.str))/\t∉a.all/\Aug A (pt qs) r/\r.length<=28
def S0:FS:=⟨fun _=>none,fun _=>none,fun s=>s⟩
def SI(qs:LP)(l:LS):FS:=⟨fun s=>if s∈l/\pt qs s=none then some [s] else none,fun _=>none,fun s=>s⟩
theorem SI_nil(qs:LP):SI qs []=S0:=by unfold SI S0;simp
theorem SI_on{l:LS}(h:pt qs z=none):SI qs (l++[z])=(SI qs l).setRow z [z]:=by
 unfold SI FS.setRow
 congr 1
 funext s;dsimp only;by_cases e:s=z
 .subst e;rw[yG ⟨by simp,h⟩,yG rfl]
 .rw [yB e];have:s∈l++[z]↔s∈l:=by simp[e]
  simp only[this]
theorem SI_off{l:LS}(h:pt qs z≠none):SI qs (l++[z])=SI qs l:=by
 unfold SI
 congr 1
 funext s;by_cases e:s=z
 .subst e;rw[yB (fun k=>h k.2),yB (fun k=>h k.2)]
 .have:s∈l++[z]↔s∈l:=by simp[e]
  simp only[this]
inductive spGw(cc:Nat->Addr)(cw:Addr)(vs:List V)(H:Hp)(Q:VK)(E:XK):Prop|mk (H0:Hp) (a:Fo) (ss:LS) (ns:LN) (qs:LP) (A:Str->Str->Prop) (_:vs=[.ref a.x]) (_:FoA (cc 9) cw H0 H a ss ns qs S0 [] [] [] .non) (_:Wb A ss qs) (_:(∀ s∈ss,zX s=true)) (_:(∀(j:Nat) z u,ss[j]?=some z->(u∈inB ss 0 (ns.getD j 0)↔A z u))) (_:∀(H':Hp) (S:FS) (dn wt:LS) (lo:V),FoD (cc 9) cw H0 H' a ss ns qs S dn wt lo A->Bx a.six H H'->Q .non H')
theorem ix_natF{k:Nat}(h:k<n):seqIndex? (k:Int) n=some k:=by
 unfold seqIndex?;simp;lk
theorem nin_prF{Q:VK}(a:H d=some (.dK (prK qs)))(q:Q (.bl (!(pt qs s).isSome)) H):qey K true (.str s) (.ref d) H Q:=by
 show .inr (.inl ⟨d,_,rfl,DGet.k (k:=Sum.inr s) a,?_⟩);rw[jq,yG rfl,xt];show q
theorem FoA.ne{a:Fo}{bs:LS}(h:FoA (cc 9) cw H0 H a ss ns qs S bs dn wt lo):(¬a.x=a.dr/\¬a.x=a.da/\¬a.x=a.ds/\¬a.x=a.dg/\¬a.x=a.dw)/\(¬a.dr=a.da/\¬a.dr=a.ds/\¬a.dr=a.dg/\¬a.dr=a.dw)/\(¬a.da=a.ds/\¬a.da=a.dg/\¬a.da=a.dw)/\(¬a.ds=a.dg/\¬a.ds=a.dw)/\¬a.dg=a.dw:=by simpa [Fo.six] using h.sep
theorem FoA.setN{a:Fo}{bs:LS}{ks:List (Key×V)}(h:FoA (cc 9) cw H0 H a ss ns qs S bs dn wt lo)(p:H a.ds=some (.dK ks))(hz:S.bas z=z):FoA (cc 9) cw H0 (upd H a.ds (.dK (zw ks (Sum.inr z) (.str z)))) a ss ns qs S (bs++[z]) dn wt lo/\ks.length<=bs.length:=by
 obtain⟨s,F,G,I⟩:=h.row;obtain⟨r,C,D,E⟩:=h.par;obtain⟨k,g,j,l⟩:=h.bas;obtain⟨xs,m,n⟩:=h.rng;rw[p] at g;cases g;obtain⟨⟨J,K,A,L,M⟩,⟨N,B,O,P⟩,⟨b,t,v⟩,⟨d,f⟩,w⟩:=h.ne;have i:Bx a.six H (upd H a.ds (.dK (zw ks (Sum.inr z) (.str z)))):=(Bx.of (Sr H)).upd (by simp[Fo.six]);show⟨⟨qaC h.sm (h.fr _ (by simp[Fo.six])),h.web,h.prt,h.fr,h.nd,fun c hc=>⟨(h.exf c hc).1,(h.exf c hc).2.1,(h.exf c hc).2.2.elim fun o e=>⟨o,i _ _ (h.exf c hc).2.1 e⟩⟩,h.obj.eq (qf A),⟨s,by rw[qf B];show F,G,fun y=>(I y).mono i Fo.sub⟩,⟨r,by rw[qf b];show C,D,E⟩,⟨_,qb,by have:=jp ks (Sum.inr z:Key) (.str z);rw[yt];show _<=_+1;lk,fun u q=>?_⟩,⟨xs,by rw[qf (Ym d)];show m,n⟩,by rw[qf (Ym f)];show h.wai,h.evn,h.evi,h.evs⟩,j⟩;rw[qaP];by_cases e:u=z
 .subst e;rw[yG rfl,hz]
 .rw [yB (fun x=>e (xn x))];show l u ((yA.mp q).resolve_right fun y=>e (yy.mp y))
theorem FoA.pop{a:Fo}{bs:LS}(h:FoA (cc 9) cw H0 H a ss ns qs S bs dn (v::wt) lo):FoA (cc 9) cw H0 (upd H a.dw (.lst (wt.map V.str))) a ss ns qs S bs (dn++[v]) wt lo:=by
 obtain⟨r,C,D,E⟩:=h.row;obtain⟨q,z,A,B⟩:=h.par;obtain⟨k,j,l,m⟩:=h.bas;obtain⟨xs,n,p⟩:=h.rng;obtain⟨⟨F,G,I,J,w⟩,⟨K,L,M,x⟩,⟨s,t,d⟩,⟨u,f⟩,g⟩:=h.ne;have b:dn++[v]++wt=dn++v::wt:=by simp
 have i:Bx a.six H (upd H a.dw (.lst (wt.map V.str))):=(Bx.of (Sr H)).upd (by simp[Fo.six]);show⟨qaC h.sm (h.fr _ (by simp[Fo.six])),h.web,h.prt,h.fr,h.nd,fun c hc=>⟨(h.exf c hc).1,(h.exf c hc).2.1,(h.exf c hc).2.2.elim fun o e=>⟨o,i _ _ (h.exf c hc).2.1 e⟩⟩,h.obj.eq (qf w),⟨r,by rw[qf x];show C,by rw[b];show D,fun y=>(E y).mono i Fo.sub⟩,⟨q,by rw[qf d];show z,A,B⟩,⟨k,by rw[qf f];show j,l,m⟩,⟨xs,by rw[qf g];show n,by rw[b];show p⟩,qb,by rw[b];show h.evn,by rw[b];show h.evi,by rw[b];show h.evs⟩
theorem ok_gw(F:Fun K "grow" "Forest.grow" zi f fd)(T:Txt K mg cc cw)(Kr:wq6 1 cw "places" wqh (spPls cw))(KC:wq6 1 (cc 9) "reach" wqz (spRe cc cw))(uh:wq6 7 (cc 9) "look_around" wqb (spLa cc cw)):wq7 8 f fd wqh (spGw cc cw):=by
 show F.ok uf fun _ _ _ _ H vs Q E hr h=>?_
 .obtain⟨H0,a,ss,ns,qs,B,rfl,h,G,am,ai,q⟩:=h;have hu:=jX hr;have ao:=G.few;show⟨_,(qc (qX yS rfl (qG (K:=K) rfl (jg Kr (hmR hr) (qB (K:=K) rfl (pv 0) rfl))) (qm (i:=1) uf.nd rfl (yH rfl))
 (qc (jI (pv 1) (jH (qB (K:=K) rfl (pv 0) rfl) (pv 1) (jJ hu)))
 (qe (qR (qj (zz (K:=K) rfl hu) (pv 1) (qB (K:=K) rfl (pv 0) rfl) (by with_unfolding_all rfl)) (qe (qP (qE KC (hmR hr) (pv 0) (qa (pv 1) (qa (qS (qa (pv 1) qd)) qd))))) qw))))
 (qe (qao yS (PW.pt (qbi (qj qfq (qp (jL (K:=K) rfl) rfl T.b_len YE (qa (qB (K:=K) rfl (pv 0) rfl) qd)) qh (qx _)) (qba (qj qhh (qB (K:=K) rfl (pv 0) rfl) qag (qx _)))))
 (qe (qP (qE uh (hmR hr) (pv 0) (qa (qbl (K:=K) rfl yM PySem.F.slot_list_pop PySem.F.type_list_pop mtR_popAt (qB (K:=K) rfl (pv 0) rfl) (qa qh qd)) qd))))))),?_⟩
  have aa:=h.web.same h.sm;obtain⟨wx,dd,ol,nn,hb,_⟩:=id aa;apply .inl (h.obj.rd T 0 rfl ?_);show⟨a.b,wx,_,rfl,hb,j8 (by room),?_⟩;apply⟨a.b,ss,ns,rfl,aa,fun pl ad=>?_⟩;have ar:=h.new ad;have s1:=qD (Sr H) (o:=.lst (ss.map V.str)) ad;have e1:upd H pl (.lst (ss.map V.str)) pl=some (.lst (ss.map V.str)):=qb;generalize upd H pl (.lst (ss.map V.str))=H1 at s1 e1;show .inl ⟨⟨_,.of e1⟩,qQ (xs:=ss.map V.str) (fun i σ J=>∃(p:LS) (X:Option V),σ=[some (.ref a.x),X]/\FoA (cc 9) cw H0 J a ss ns qs (SI qs (ss.take i)) (ss.take i) [] p .non/\Bx a.six H1 J) ⟨[],_,rfl,by rw[List.take_zero,SI_nil];show h.same s1,fun _ _ _ e=>e⟩ (fun i σ J _ n=>?_) (fun i y σ J hy n=>?_) fun σ J n=>?_⟩
  .obtain⟨p,X,rfl,_,Y⟩:=n;show .of (Y _ _ ar e1)
  .obtain⟨p,X,rfl,U,Y⟩:=n;rw[yd] at hy;obtain⟨z,hz,rfl⟩:=yn.mp hy;have av:=(yc.mp hz).1;have aq:=ye hz;have ae:ss.take (i+1)=ss.take i++[z]:=by rw[yK,hz];rfl
   obtain⟨ks,b1,b2,b3⟩:=U.bas;rw[yQ] at b2;obtain⟨D,_⟩:=U.setN (z:=z) b1 rfl;apply .inl (U.obj.rd T 4 rfl ?_);apply .inr ⟨a.ds,_,rfl,DPut.k (k:=Sum.inr z) b1 (by rw[YA];lk),?_⟩;have s:Bx a.six H1 (upd J a.ds (.dK (zw ks (Sum.inr z) (.str z)))):=Y.upd (by simp[Fo.six]);generalize upd J a.ds (.dK (zw ks (Sum.inr z) (.str z)))=J2 at D s;have an:=D.sm _ _ h.prt;apply .inl (D.obj.rd T 1 rfl ?_);show nin_prF an ⟨_,rfl,?_⟩
   cases ez:pt qs z with
   | some y =>
    show yq ?_;show⟨p,_,rfl,by rw[ae,SI_off (by rw[ez];show fun k=>nomatch k)];show D,s⟩
   | none =>
    show qad ?_;ext;obtain⟨dx,fs,N,_,_,_,O⟩:=id D.obj;show⟨a.x,dx,fs,rfl,N,O _ (by room),?_⟩;apply⟨wqqa,fun c1 ac=>?_⟩;have n1:=D.newA ac;have t1:=qD (Sr J2) (o:=.lst [.str z]) ac;have Z:upd J2 c1 (.lst [.str z]) c1=some (.lst ([z].map V.str)):=qb;generalize upd J2 c1 (.lst [.str z])=J3 at t1 Z
    have ap:z∉ss.take i:=fun y=>by
     obtain⟨j,hj⟩:=yf y;have aj:=(yc.mp hj).1;rw[yQ] at aj;rw[List.getElem?_take,yG (by lk)] at hj;have:=qy G.nd hj hz;lk
    apply⟨H0,a,ss,ns,qs,SI qs (ss.take i),ss.take i++[z],[],p,.non,z,c1,[z],rfl,D.same t1,ao,Z,n1,aq,yB (fun k=>ap k.1),fun H6 h6 ag _=>?_⟩;show⟨p++[z],_,rfl,by rw[ae,SI_on ez];show h6,(s.trans (Bx.of t1)).trans ag⟩
  .obtain⟨p,X,rfl,U,Y⟩:=n;rw[ya,yP] at U;have af:Bx a.six H J:=(Bx.of s1).trans Y
   have IJ:FI B (pt qs) (SI qs ss):=FI.start (fun v r e=>by
    have e':(if v∈ss/\pt qs v=none then some [v] else none)=some r:=e;split at e'
    .rename_i k;show⟨k.2,(ym e').symm⟩
    .cases e') (fun _=>rfl) fun _=>rfl
   ext;obtain⟨W,g⟩:∃ W:Nat->L2.St->Hp->Prop,W=fun m σ J=>∃(S:FS) (dn wt:LS) (lo:V) (X:Option V),σ=[some (.ref a.x),X]/\Bx a.six H J/\((lo=.non/\m=15-dn.length/\FoA (cc 9) cw H0 J a ss ns qs S ss dn wt .non/\FI B (pt qs) S/\CI B S (fun u=>u∈dn)/\∀ z∈ss,pt qs z=none->S.rows z≠none)\/(lo≠.non/\m=0/\FoD (cc 9) cw H0 J a ss ns qs S dn wt lo B)):=⟨_,rfl⟩;show⟨W,⟨15,by rw[g];show⟨SI qs ss,[],p,.non,_,rfl,af,.inl ⟨rfl,rfl,U,IJ,⟨(fun v u k=>by cases k),(fun v k=>by cases k)⟩,fun z hz e=>by show(if _ then _ else _)≠none;rw[yG ⟨hz,e⟩];show fun k=>by cases k⟩⟩⟩,fun m σ J hW=>?_⟩;rw[g] at hW;obtain⟨S,dn,wt,lo,aw,rfl,d,L⟩:=hW;rcases L with⟨rfl,hm,l,I,hC,M⟩ | ⟨al,hm,R⟩
   .have c:=l.wai;apply .inl (l.obj.rd T 6 rfl ?_);apply zq c ?_;rw[ya];ext
    cases wt with
    | nil =>
     show qL (fun h=>by simp at h) fun _=>qL (fun h=>by cases h) fun _=>?_;show q J S dn [] .non ⟨l,.inl ⟨rfl,rfl,I,hC,M⟩⟩ d
    | cons v wt =>
     show qL (fun _=>?_) fun h=>absurd (yD (by simp)) h;apply .inl (l.obj.rd T 7 rfl ?_);apply⟨_,rfl,qad ⟨fun as H'=>∃ m',m'<m/\W m' as H',fun _ _ z=>z,?_⟩⟩;have au:dn.length+1<=14:=by have:=l.few;rw[yt,yJ] at this;lk
     ext;obtain⟨dx,fs,N,_,_,_,O⟩:=id l.obj;show⟨a.x,dx,fs,rfl,N,O _ (by room),?_⟩;apply .inl (l.obj.rd T 6 rfl ?_);show⟨.inl ⟨rfl,_,.of c⟩,?_⟩;apply⟨a.dw,_,0,0,.str v,rfl,rfl,c,by decide,by decide,by rw[ya];show ix_natF (by simp),rfl,?_⟩;have n:=l.pop;have C:Bx a.six H (upd J a.dw (.lst (wt.map V.str))):=d.upd (by simp[Fo.six]);ext;show spLa cc cw _ (upd J a.dw (.lst (wt.map V.str))) _ _;generalize upd J a.dw (.lst (wt.map V.str))=J2 at n C;show⟨H0,a,ss,ns,qs,S,dn,wt,v,B,rfl,n,G,am,ai,M,I,hC,fun H5 S5 mo h5 A I5 C5 m5=>?_,fun H5 S5 mo t5 r5 h5 A e5 n5 ah ak=>?_⟩
     .show⟨15-(dn++[v]).length,by rw[hm,yt];show _-(_+1)<_;lk,?_⟩;rw[g]
      show⟨S5,dn++[v],wt++mo,.non,_,rfl,C.trans A,.inl ⟨rfl,rfl,h5,I5,C5,fun z hz e=>(by
       have k:=M z hz e
       cases e2:S.rows z with
       | none=>show absurd e2 k
       | some r=>rw[m5.ro z r e2];show fun x=>by cases x)⟩⟩
     .show⟨0,by lk,?_⟩;rw[g];show⟨S5,dn++[v],wt++mo,.ref t5,_,rfl,C.trans A,.inr ⟨(fun e=>by cases e),rfl,⟨h5,.inr ⟨t5,r5,rfl,e5,n5,ah,ak⟩⟩⟩⟩
   .have c:=R.fo.wai;rcases R.en with k | ⟨t,r,rfl,_⟩
    .show absurd k.1 al
    apply .inl (R.fo.obj.rd T 6 rfl ?_);apply zq c ?_;apply qL (fun _=>?_) (fun _=>qL (fun h=>by cases h) fun _=>q J S dn wt _ R d);apply .inl (R.fo.obj.rd T 7 rfl ?_);apply⟨_,rfl,qL (fun h=>by cases h) fun _=>?_⟩;show q J S dn wt _ R d
theorem uM:FnScope wqA wqA (qg zj):=fS
theorem uS:FnScope wqh wqh (qg zH):=fS
theorem uv:FnScope wqh wqh (qg jm):=fS
def qf6(p:Addr)(H:Hp):Hp:=fun b=>if b=p then none else H b
theorem qab{b:Addr}(h:b≠p):qf6 p H b=H b:=yB h
theorem lkn{f g:Str}{v:V}{fs:List (Str×V)}(h:f≠g)(k:fs.lookup f=none):(qI g v fs).lookup f=none:=by rw[qC,yB h];show k
inductive spFi(cc:Nat->Addr)(cw:Addr)(vs:List V)(H:Hp)(Q:VK)(E:XK):Prop|mk (x dx b r:Addr) (ss:LS) (ns:LN) (us:LQ) (tps qs:LP) (A:Str->Str->Prop) (_:vs=[.ref x,.ref b,.ref r]) (_:H x=some (.ins (cc 9) dx [])) (_:WebAt cw H b ss ns) (_:Adj ss ns tps) (_:Wb A ss qs) (_:(∀ s∈ss,zX s=true)) (_:(∀(j:Nat) z u,ss[j]?=some z->(u∈inB ss 0 (ns.getD j 0)↔A z u))) (_:PL H r us qs) (_:qs.length<=30) (_:(∀ q∈qs,(q∈tps\/(q.2,q.1)∈tps)/\q.1∈ss/\q.2∈ss/\q.1≠q.2)) (_:∀(H0 H':Hp) (a:Fo) (S:FS) (dn wt:LS) (lo:V),a.x=x->a.ex=[]->FoD (cc 9) cw H0 H' a ss ns qs S dn wt lo A->L2.Same (qf6 x H) H0->Q .non H')
theorem WebAt.out{b:Addr}{fs:List (Str×V)}(h:WebAt cw H b ss ns)(a:H x=some (.ins (cc 9) dx fs))(i:b≠x):WebAt cw (qf6 x H) b ss ns:=by
 obtain⟨j,d,ol,n,h1,c,e,f,g⟩:=h;show⟨j,d,ol,n,(qab i).trans h1,(qab ?_).trans c,(qab ?_).trans e,(qab ?_).trans f,g⟩
 .show qaL c a (fun z=>by cases z)
 .show qaL e a (fun z=>by cases z)
 .show qaL f a (fun z=>by cases z)
theorem ok_fi(F:Fun K "__init__" "Forest.__init__" zj f fd)(T:Txt K mg cc cw)(Kl:wq5 9 "partners_in" wqf (spPn cw))(uT:wq6 8 (cc 9) "grow" wqh (spGw cc cw)):wq7 10 f fd wqA (spFi cc cw):=by
 show F.ok uM fun _ _ _ s H vs Q E hr h=>?_
 .obtain⟨x,dx,b,r,ss,ns,us,tps,qs,B,rfl,hx,hW,hA,bt,cg,ce,hP,ch,ci,q⟩:=h;have hu:=jX hr;show⟨_,(qc (zf (K:=K) rfl (pv 0) (pv 1) rfl)
 (qc (zf (K:=K) rfl (pv 0) (qq Kl (hmR hr) qA (qa (pv 1) (qa (pv 2) qd))) rfl)
 (qc (zf (K:=K) rfl (pv 0) j0 rfl)
 (qc (zf (K:=K) rfl (pv 0) j0 rfl)
 (qc (zf (K:=K) rfl (pv 0) j0 rfl)
 (qc (zf (K:=K) rfl (pv 0) (qS qd) rfl)
 (qc (zf (K:=K) rfl (pv 0) (qS qd) rfl)
 (qc (zf (K:=K) rfl (pv 0) qag rfl)
 (qe (qP (jg uT (hmR hr) (pv 0)))))))))))),?_⟩
  have bz:b≠x:=fun e=>by
   obtain⟨wx,d,ol,n,hb,_⟩:=id hW;subst e;rw[hx] at hb;injection hb with hb;injection hb with _ _ hb;cases hb
  have cp:r≠x:=qaL hP.1 hx (fun z=>by cases z)
  have cq:∀ u∈us,u≠x:=fun u hu=>by
   obtain⟨q,_,eu⟩:=hP.2.mem hu;show qaL eu hx (fun z=>by cases z)
  have fa:∀ i,(h:i<8)->NoAttr K (cc 9) (fAtt.getD i ""):=fun i h=>T.fa _ (by have:i<fAtt.length:=h;rw[Yk,yb this];show xD this);apply .inl ⟨x,cc 9,dx,[],rfl,hx,T.fcl,fa 0 (by decide),by decide,?_⟩;have b1:=(But.refl x H).put (o:=.ins (cc 9) dx (qI "board" (.ref b) []));have bp:upd H x (.ins (cc 9) dx (qI "board" (.ref b) [])) x=some (.ins (cc 9) dx (qI "board" (.ref b) [])):=qb;generalize upd H x (.ins (cc 9) dx (qI "board" (.ref b) []))=H1 at b1 bp ⊢
  have keepW:∀{J:Hp},But x H J->WebAt cw J b ss ns:=fun k=>by
   obtain⟨wx,d,ol,n,h1,h2,h3,h4,h5⟩:=hW;show⟨wx,d,ol,n,k _ _ bz h1,k _ _ (qaL h2 hx (fun z=>by cases z)) h2,k _ _ (qaL h3 hx (fun z=>by cases z)) h3,k _ _ (qaL h4 hx (fun z=>by cases z)) h4,h5⟩
  have cb:PL H1 r us qs:=⟨b1 _ _ cp hP.1,hP.2.len,fun k t ab ht cd=>b1 _ _ (cq t (ye ht)) (hP.2.at_ k t ab ht cd)⟩;apply⟨b,r,ss,ns,us,tps,qs,rfl,keepW b1,hA,cb,⟨ci,bt.qn,ch⟩,fun dp H2 s2 bg cf=>?_⟩;have bv:=s2 _ _ bp;have b2:=b1.same s2;have co:dp≠x:=fun e=>by rw[e,bp] at bg;cases bg
  have hl:∀{f:Str} {v:V} {fs:List (Str×V)} {n:Nat},fs.length<=n->(qI f v fs).length<=n+1:=fun h=>yi (jE _ _ _) (by lk);apply .inl ⟨x,cc 9,dx,_,rfl,bv,T.fcl,fa 1 (by decide),Yp (hl (n:=0) (yh _)) (by decide),?_⟩
  have c3:L2.Same (qf6 x H2) (upd H2 x (.ins (cc 9) dx (qI "partners" (.ref dp) (qI "board" (.ref b) [])))):=fun c o e=>by
   have hc:c≠x:=fun z=>by rw[z] at e;unfold qf6 at e;rw[yG rfl] at e;cases e
   rw[qab hc] at e;rw[qf hc];show e
  have ap:upd H2 x (.ins (cc 9) dx (qI "partners" (.ref dp) (qI "board" (.ref b) []))) x=some (.ins (cc 9) dx (qI "partners" (.ref dp) (qI "board" (.ref b) []))):=qb;obtain⟨H0,ac⟩:∃ H0,H0=qf6 x H2:=⟨_,rfl⟩;rw[<- ac] at c3;have D:H0 x=none:=by rw[ac];show yG rfl
  have l3:(qI "partners" (.ref dp) (qI "board" (.ref b) [])).length<=2:=hl (hl (n:=0) (yh _));generalize upd H2 x (.ins (cc 9) dx (qI "partners" (.ref dp) (qI "board" (.ref b) [])))=H3 at c3 ap ⊢;obtain⟨f3,bh⟩:∃ f3,f3=qI "partners" (.ref dp) (qI "board" (.ref b) []):=⟨_,rfl⟩;rw[<- bh] at ap l3;ext;intro m ao;have C:m≠x:=fun e=>by rw[e,ap] at ao;cases ao
  have cu:H0 m=none:=c3.free ao;have cj:upd H3 m (.dK []) x=some (.ins (cc 9) dx f3):=by rw[qf C.symm];show ap
  apply .inl ⟨x,cc 9,dx,_,rfl,cj,T.fcl,fa 2 (by decide),Yp l3 (by decide),?_⟩;have c4:L2.Same H0 (upd (upd H3 m (.dK [])) x (.ins (cc 9) dx (qI "rows" (.ref m) f3))):=qaC (qD c3 ao) D;have aq:(upd (upd H3 m (.dK [])) x (.ins (cc 9) dx (qI "rows" (.ref m) f3))) x=some (.ins (cc 9) dx (qI "rows" (.ref m) f3)):=qb;have l4:(qI "rows" (.ref m) f3).length<=3:=hl l3;have U:(upd (upd H3 m (.dK [])) x (.ins (cc 9) dx (qI "rows" (.ref m) f3))) m=some (.dK []):=by rw[qf C,qb]
  generalize upd (upd H3 m (.dK [])) x (.ins (cc 9) dx (qI "rows" (.ref m) f3))=H4 at c4 aq U ⊢;obtain⟨f4,bi⟩:∃ f,f=qI "rows" (.ref m) f3:=⟨_,rfl⟩;rw[<- bi] at aq l4;ext;intro l G;have I:l≠x:=fun e=>by rw[e,aq] at G;cases G
  have cs:H0 l=none:=c4.free G;have ad:l≠m:=fun e=>by rw[e,U] at G;cases G
  have ck:upd H4 l (.dK []) x=some (.ins (cc 9) dx f4):=by rw[qf I.symm];show aq
  apply .inl ⟨x,cc 9,dx,_,rfl,ck,T.fcl,fa 3 (by decide),Yp l4 (by decide),?_⟩;have c5:L2.Same H0 (upd (upd H4 l (.dK [])) x (.ins (cc 9) dx (qI "parents" (.ref l) f4))):=qaC (qD c4 G) D;have ar:(upd (upd H4 l (.dK [])) x (.ins (cc 9) dx (qI "parents" (.ref l) f4))) x=some (.ins (cc 9) dx (qI "parents" (.ref l) f4)):=qb;have l5:(qI "parents" (.ref l) f4).length<=4:=hl l4;have M:(upd (upd H4 l (.dK [])) x (.ins (cc 9) dx (qI "parents" (.ref l) f4))) l=some (.dK []):=by rw[qf I,qb]
  have W:(upd (upd H4 l (.dK [])) x (.ins (cc 9) dx (qI "parents" (.ref l) f4))) m=some (.dK []):=by rw[qf C,qf (Ym ad)];show U
  generalize upd (upd H4 l (.dK [])) x (.ins (cc 9) dx (qI "parents" (.ref l) f4))=H5 at c5 ar W M ⊢;obtain⟨f5,bj⟩:∃ f,f=qI "parents" (.ref l) f4:=⟨_,rfl⟩;rw[<- bj] at ar l5;ext;intro j A;have ah:j≠x:=fun e=>by rw[e,ar] at A;cases A
  have cv:H0 j=none:=c5.free A;have aj:j≠m:=fun e=>by rw[e,W] at A;cases A
  have ai:j≠l:=fun e=>by rw[e,M] at A;cases A
  have cl:upd H5 j (.dK []) x=some (.ins (cc 9) dx f5):=by rw[qf ah.symm];show ar
  apply .inl ⟨x,cc 9,dx,_,rfl,cl,T.fcl,fa 4 (by decide),Yp l5 (by decide),?_⟩;have c6:L2.Same H0 (upd (upd H5 j (.dK [])) x (.ins (cc 9) dx (qI "bases" (.ref j) f5))):=qaC (qD c5 A) D;have as:(upd (upd H5 j (.dK [])) x (.ins (cc 9) dx (qI "bases" (.ref j) f5))) x=some (.ins (cc 9) dx (qI "bases" (.ref j) f5)):=qb;have l6:(qI "bases" (.ref j) f5).length<=5:=hl l5;have Z:(upd (upd H5 j (.dK [])) x (.ins (cc 9) dx (qI "bases" (.ref j) f5))) j=some (.dK []):=by rw[qf ah,qb]
  have X:(upd (upd H5 j (.dK [])) x (.ins (cc 9) dx (qI "bases" (.ref j) f5))) m=some (.dK []):=by rw[qf C,qf (Ym aj)];show W
  have N:(upd (upd H5 j (.dK [])) x (.ins (cc 9) dx (qI "bases" (.ref j) f5))) l=some (.dK []):=by rw[qf I,qf (Ym ai)];show M
  generalize upd (upd H5 j (.dK [])) x (.ins (cc 9) dx (qI "bases" (.ref j) f5))=H6 at c6 as X N Z ⊢;obtain⟨f6,bm⟩:∃ f,f=qI "bases" (.ref j) f5:=⟨_,rfl⟩;rw[<- bm] at as l6;apply⟨wq9,fun g y=>?_⟩;have av:g≠x:=fun e=>by rw[e,as] at y;cases y
  have ct:H0 g=none:=c6.free y;have af:g≠m:=fun e=>by rw[e,X] at y;cases y
  have ae:g≠l:=fun e=>by rw[e,N] at y;cases y
  have ag:g≠j:=fun e=>by rw[e,Z] at y;cases y
  have cm:upd H6 g (.lst []) x=some (.ins (cc 9) dx f6):=by rw[qf av.symm];show as
  apply .inl ⟨x,cc 9,dx,_,rfl,cm,T.fcl,fa 5 (by decide),Yp l6 (by decide),?_⟩;have c7:L2.Same H0 (upd (upd H6 g (.lst [])) x (.ins (cc 9) dx (qI "rings" (.ref g) f6))):=qaC (qD c6 y) D;have au:(upd (upd H6 g (.lst [])) x (.ins (cc 9) dx (qI "rings" (.ref g) f6))) x=some (.ins (cc 9) dx (qI "rings" (.ref g) f6)):=qb;have l7:(qI "rings" (.ref g) f6).length<=6:=hl l6;have R:(upd (upd H6 g (.lst [])) x (.ins (cc 9) dx (qI "rings" (.ref g) f6))) g=some (.lst []):=by rw[qf av,qb]
  have Y:(upd (upd H6 g (.lst [])) x (.ins (cc 9) dx (qI "rings" (.ref g) f6))) m=some (.dK []):=by rw[qf C,qf (Ym af)];show X
  have O:(upd (upd H6 g (.lst [])) x (.ins (cc 9) dx (qI "rings" (.ref g) f6))) l=some (.dK []):=by rw[qf I,qf (Ym ae)];show N
  have aa:(upd (upd H6 g (.lst [])) x (.ins (cc 9) dx (qI "rings" (.ref g) f6))) j=some (.dK []):=by rw[qf ah,qf (Ym ag)];show Z
  generalize upd (upd H6 g (.lst [])) x (.ins (cc 9) dx (qI "rings" (.ref g) f6))=H7 at c7 au Y O aa R ⊢;obtain⟨L,bn⟩:∃ f,f=qI "rings" (.ref g) f6:=⟨_,rfl⟩;rw[<- bn] at au l7;apply⟨wq9,fun a p=>?_⟩;have br:a≠x:=fun e=>by rw[e,au] at p;cases p
  have cx:H0 a=none:=c7.free p;have am:a≠m:=fun e=>by rw[e,Y] at p;cases p
  have ak:a≠l:=fun e=>by rw[e,O] at p;cases p
  have an:a≠j:=fun e=>by rw[e,aa] at p;cases p
  have al:a≠g:=fun e=>by rw[e,R] at p;cases p
  have cn:upd H7 a (.lst []) x=some (.ins (cc 9) dx L):=by rw[qf br.symm];show au
  apply .inl ⟨x,cc 9,dx,_,rfl,cn,T.fcl,fa 6 (by decide),Yp l7 (by decide),?_⟩;have c8:L2.Same H0 (upd (upd H7 a (.lst [])) x (.ins (cc 9) dx (qI "waiting" (.ref a) L))):=qaC (qD c7 p) D;have bq:(upd (upd H7 a (.lst [])) x (.ins (cc 9) dx (qI "waiting" (.ref a) L))) x=some (.ins (cc 9) dx (qI "waiting" (.ref a) L)):=qb;have l8:(qI "waiting" (.ref a) L).length<=7:=hl l7;have be:(upd (upd H7 a (.lst [])) x (.ins (cc 9) dx (qI "waiting" (.ref a) L))) a=some (.lst []):=by rw[qf br,qb]
  have ba:(upd (upd H7 a (.lst [])) x (.ins (cc 9) dx (qI "waiting" (.ref a) L))) m=some (.dK []):=by rw[qf C,qf (Ym am)];show Y
  have aw:(upd (upd H7 a (.lst [])) x (.ins (cc 9) dx (qI "waiting" (.ref a) L))) l=some (.dK []):=by rw[qf I,qf (Ym ak)];show O
  have bc:(upd (upd H7 a (.lst [])) x (.ins (cc 9) dx (qI "waiting" (.ref a) L))) j=some (.dK []):=by rw[qf ah,qf (Ym an)];show aa
  have ay:(upd (upd H7 a (.lst [])) x (.ins (cc 9) dx (qI "waiting" (.ref a) L))) g=some (.lst []):=by rw[qf av,qf (Ym al)];show R
  generalize upd (upd H7 a (.lst [])) x (.ins (cc 9) dx (qI "waiting" (.ref a) L))=H8 at c8 bq ba aw bc ay be ⊢;obtain⟨f8,bo⟩:∃ f,f=qI "waiting" (.ref a) L:=⟨_,rfl⟩;rw[<- bo] at bq l8;apply .inl ⟨x,cc 9,dx,_,rfl,bq,T.fcl,fa 7 (by decide),Yp l8 (by decide),?_⟩;have c9:L2.Same H0 (upd H8 x (.ins (cc 9) dx (qI "longer" .non f8))):=qaC c8 D;have bx:(upd H8 x (.ins (cc 9) dx (qI "longer" .non f8))) x=some (.ins (cc 9) dx (qI "longer" .non f8)):=qb;have l9:(qI "longer" .non f8).length<=8:=hl l8;have bb:(upd H8 x (.ins (cc 9) dx (qI "longer" .non f8))) m=some (.dK []):=by rw[qf C];show ba
  have ax:(upd H8 x (.ins (cc 9) dx (qI "longer" .non f8))) l=some (.dK []):=by rw[qf I];show aw
  have bd:(upd H8 x (.ins (cc 9) dx (qI "longer" .non f8))) j=some (.dK []):=by rw[qf ah];show bc
  have az:(upd H8 x (.ins (cc 9) dx (qI "longer" .non f8))) g=some (.lst []):=by rw[qf av];show ay
  have bf:(upd H8 x (.ins (cc 9) dx (qI "longer" .non f8))) a=some (.lst []):=by rw[qf br];show be
  generalize upd H8 x (.ins (cc 9) dx (qI "longer" .non f8))=H9 at c9 bx bb ax bd az bf ⊢
  have hF:FoA (cc 9) cw H0 H9 ⟨x,b,dp,m,l,j,g,a,[]⟩ ss ns qs S0 [] [] [] .non:=by
   show⟨c9,?_,?_,fun c hc=>?_,?_,(fun c hc=>by cases hc),⟨dx,_,bx,Y1 l9,fun _=>l9,fun f v hf=>?_,fun f hf=>?_⟩,⟨[],bb,yh _,fun _=>rfl⟩,⟨[],ax,⟨[],yh _,.nil,(fun u hu=>by cases hu)⟩,fun _=>rfl⟩,⟨[],bd,yh _,(fun s hs=>by cases hs)⟩,⟨[],az,yh _⟩,bf,.nil,fun v=>⟨(fun k=>by cases k),fun k=>absurd rfl k⟩,(fun v hv=>by cases hv)⟩
   .rw [ac];show(keepW b2).out bv bz
   .rw [ac];show(qab co).trans cf
   .simp only[Fo.six,yx,Yb,YH] at hc;rcases hc with rfl | rfl | rfl | rfl | rfl | rfl<;>assumption
   .simp [ad.symm,aj.symm,af.symm,am.symm,ai.symm,ae.symm,ak.symm,ag.symm,an.symm,al.symm]
   .simp only[Fo.tab,yx,XS,Yb,YH] at hf;rw[bo,bn,bm,bj,bi,bh];rcases hf with⟨rfl,rfl⟩ | ⟨rfl,rfl⟩ | ⟨rfl,rfl⟩ | ⟨rfl,rfl⟩ | ⟨rfl,rfl⟩ | ⟨rfl,rfl⟩ | ⟨rfl,rfl⟩ | ⟨rfl,rfl⟩<;>rfl
   .rw [bo,bn,bm,bj,bi,bh];have no:∀ i,i<8->f≠fAtt.getD i "":=fun i hi e=>hf (by rw[e,Yk,yb (show i<fAtt.length from hi)];show xD _);show lkn (no 7 (by decide)) (lkn (no 6 (by decide)) (lkn (no 5 (by decide)) (lkn (no 4 (by decide)) (lkn (no 3 (by decide)) (lkn (no 2 (by decide)) (lkn (no 1 (by decide)) (lkn (no 0 (by decide)) rfl)))))))
  ext;obtain⟨ca,fs,bu,_,_,_,bw⟩:=id hF.obj;show⟨x,ca,fs,rfl,bu,bw _ (by room),?_⟩;apply⟨H0,_,ss,ns,qs,B,rfl,hF,bt,cg,ce,fun HA S dn wt lo hD cr=>?_⟩;show q H0 HA _ S dn wt lo rfl rfl hD fun c o e=>?_;have hc:c≠x:=fun z=>by rw[z] at e;unfold qf6 at e;rw[yG rfl] at e;cases e
  rw[qab hc] at e;rw[ac,qab hc];show b2 _ _ hc e
inductive spFr(cc:Nat->Addr)(cw:Addr)(vs:List V)(H:Hp)(Q:VK)(E:XK):Prop|mk (H0:Hp) (a:Fo) (ss:LS) (ns:LN) (qs:LP) (S:FS) (dn wt:LS) (lo:V) (A:Str->Str->Prop) (_:vs=[.ref a.x]) (_:FoD (cc 9) cw H0 H a ss ns qs S dn wt lo A) (_:(lo=.non->Q .non H)) (_:∀(t:Addr) (r:LS),lo=.ref t->H t=some (.lst (r.map V.str))->Aug A (pt qs) r->∀ l,H l=none->Q (.ref l) (upd H l (.lst (r.map V.str))))
inductive spFd2(cc:Nat->Addr)(cw:Addr)(vs:List V)(H:Hp)(Q:VK)(E:XK):Prop|mk (H0:Hp) (a:Fo) (ss:LS) (ns:LN) (qs:LP) (S:FS) (dn wt:LS) (lo:V) (A:Str->Str->Prop) (_:vs=[.ref a.x]) (_:FoD (cc 9) cw H0 H a ss ns qs S dn wt lo A) (_:ss.length<=14) (_:(lo≠.non->Q .non H)) (_:(lo=.non->∀(l:Addr) (H':Hp),L2.Same H H'->H l=none->H' l=some (.lst ((ss.filter fun s=>(S.rows s).isSome).map V.str))->Q (.ref l) H'))
theorem ok_fr(F:Fun K "row" "Forest.row" zH f fd)(T:Txt K mg cc cw):wq7 1 f fd wqh (spFr cc cw):=by
 show F.ok uS fun _ _ _ _ H vs Q E i h=>?_
 .obtain⟨H0,a,ss,ns,qs,S,dn,wt,lo,B,rfl,b,e,g⟩:=h;show⟨_,(qe (qo (qcg (qj qhh (qB (K:=K) rfl (pv 0) rfl) qag (qx _)) qag (qaO (qcl (K:=K) rfl rfl) rfl T.b_list Xu (qa (qB (K:=K) rfl (pv 0) rfl) qd))))),?_⟩;apply .inl (b.fo.obj.rd T 7 rfl ?_);ext;rcases b.en with⟨rfl,_⟩ | ⟨t,r,rfl,c,j,d,_⟩
  .show⟨_,rfl,qad ?_⟩;apply e rfl
  .show⟨_,rfl,qL (fun h=>by cases h) fun _=>?_⟩;apply .inl (b.fo.obj.rd T 7 rfl ?_);apply .inl ⟨t,_,rfl,.inl (.of c),g t r rfl c d⟩
theorem ok_fd2(F:Fun K "reached" "Forest.reached" jm f fd)(T:Txt K mg cc cw)(D:wq6 1 cw "places" wqh (spPls cw)):wq7 2 f fd wqh (spFd2 cc cw):=by
 show F.ok uv fun _ _ _ s H vs Q E x h=>?_
 .obtain⟨H0,a,ss,ns,qs,S,dn,wt,lo,B,rfl,v,G,N,O⟩:=h;have M:=jX x;show⟨_,(qc (qR (qj qdr (qB (K:=K) rfl (pv 0) rfl) qag (qx _)) (qe (qo qag)) qw)
 (qe (qo (q9 (sc:=qg jm) (XN:=wqh) ["place","self"] 1 [0] rfl rfl rfl (by room) rfl (by room)
  (qG (K:=K) rfl (jg D (hmR x) (qB (K:=K) rfl (pv 0) rfl))) (fun _ _ _ _=>(qm (i:=0) (show(["place","self"]:LS).Nodup by room) rfl (yH rfl))) qH
  (fun _ _ _ _=>(qK (qj (qae (K:=K) rfl M) (pv 0) (qB (K:=K) rfl (pv 1) rfl) (by with_unfolding_all rfl))))
  (fun _ _ _ _=>(pv 0)))))),?_⟩
  have h:=v.fo;apply .inl (h.obj.rd T 7 rfl ?_);ext;rcases v.en with⟨rfl,_⟩ | ⟨t,r,rfl,_⟩
  .show⟨rfl,_,rfl,qL (fun h=>by simp at h) fun _=>?_⟩;have g:=h.web.same h.sm;obtain⟨W,X,ol,Y,I,_⟩:=id g;apply .inl (h.obj.rd T 0 rfl ?_);show⟨a.b,W,_,rfl,I,j8 (by room),?_⟩;apply⟨a.b,ss,ns,rfl,g,fun pl u=>?_⟩;have n:=qD (Sr H) (o:=.lst (ss.map V.str)) u;have p:upd H pl (.lst (ss.map V.str)) pl=some (.lst (ss.map V.str)):=qb;generalize upd H pl (.lst (ss.map V.str))=H1 at n p;have h1:=h.same n;obtain⟨C,R,Z,U⟩:=h1.row;show .inl ⟨⟨_,.of p⟩,qF (xs:=ss.map V.str) (fun i ys J=>J=H1/\ys=((ss.take i).filter fun s=>(S.rows s).isSome).map V.str) ⟨rfl,rfl⟩ (fun i ys J _ m=>by rw[m.1];show .of p) (fun i y ys J A m=>?_) fun ys J m=>?_⟩
   .obtain⟨rfl,rfl⟩:=m;rw[yd] at A;obtain⟨z,hz,rfl⟩:=yn.mp A;have L:=(yc.mp hz).1;have j:=yF (fun s=>(S.rows s).isSome) (ss.take i);rw[yQ] at j
    have d:(ss.take (i+1)).filter (fun s=>(S.rows s).isSome)=(ss.take i).filter (fun s=>(S.rows s).isSome)++(if (S.rows z).isSome=true then [z] else []):=by
     rw[yK,hz,yW];show _++[z].filter _=_;rw[yL,Yr]
    apply .inl (h1.obj.rd T 2 rfl ?_);show .inr (.inl ⟨a.dr,_,rfl,DGet.k (k:=Sum.inr z) R,?_⟩);have c:=U z
    have q:(jZ C (.inr z:Key)).isSome=(S.rows z).isSome:=by
     cases e:S.rows z with
     | none=>rw[e] at c;rw[show jZ C (.inr z:Key)=none from c];rfl
     | some r=>rw[e] at c;obtain⟨t,k,_⟩:=c;rw[k];rfl
    rw[yB (by decide),q,d];show⟨_,rfl,?_⟩
    cases (S.rows z).isSome with
    | true =>
     show qad ?_;rw[yG rfl];apply⟨by rw[ya];show qi (by lk),rfl,by rw[yu];rfl⟩
    | false =>
     show yq ?_;rw[yB (by decide),Ye];show⟨rfl,rfl⟩
   .obtain⟨rfl,rfl⟩:=m;rw[show(ss.map V.str).length=ss.length from ya _,yP];have j:=yF (fun s=>(S.rows s).isSome) ss;show⟨by rw[ya];show yX (qi (by lk)),fun l hl=>?_⟩;show O rfl l _ (qD n hl) (n.free hl) qb
  .show⟨rfl,_,rfl,qad ?_⟩;apply N (fun e=>by cases e)
theorem um:FnScope wqK wqf (qg j9):=fS
theorem KG:FnScope ["web","thing","seen","place"] wqe (qg jj):=fS
theorem eqv_str(a b:Str):eqV (.str a) (.str b)=decide (a=b):=by
 unfold eqV;by_cases h:a=b<;>simp[h]
theorem vEqS{i j:Str}{Q:VK}(q:Q (.bl (decide (i=j))) H):qge K (.str i) (.str j) H Q:=.inl (.inl (.inl ⟨rfl,rfl,by rw[yB (by decide),eqv_str];show q⟩))
def qbW(a qs:LP):LP:=a.filter fun q=>decide (pt qs q.1=some q.2)
inductive spTp(cw:Addr)(vs:List V)(H:Hp)(Q:VK)(E:XK):Prop|mk (x l:Addr) (ss:LS) (ns:LN) (us:LQ) (tps qs:LP) (_:vs=[.ref x,.ref l]) (_:WebAt cw H x ss ns) (_:Adj ss ns tps) (_:PL H l us qs) (_:PGo ss tps qs) (_:∀(l:Addr) (ls:LQ) (H':Hp),L2.Same H H'->H l=none->H' l=some (.lst (ls.map V.ref))->ls.length<=196->All2 (PrAt H H' l) ls (qbW (qU ss ns ss.length) qs)->Q (.ref l) H')
def stp(rs:LS):LP:=rs.zip rs.tail
def prB(qs:LP)(ab:Str×Str):Bool:=decide (pt qs ab.1=some ab.2)
theorem stp_at:(stp rs)[j]?=some ab↔rs[j]?=some ab.1/\rs[j+1]?=some ab.2:=by
 unfold stp;rw[List.getElem?_zip_eq_some,Xo]
theorem qaI(rs:LS):(stp rs).length=rs.length-1:=by unfold stp;rw[List.length_zip,Xj];lk
structure RowG(ss:LS)(tps qs:LP)(rs:LS):Prop where
 nd:rs.Nodup
 two:2<=rs.length
 few:rs.length<=1000
 inn:∀ r∈rs,r∈ss
 tie:∀(j:Nat) ab,(stp rs)[j]?=some ab->(ab∈tps\/(ab.2,ab.1)∈tps)/\prB qs ab=decide (j % 2=1)
 hd:∀ s,rs[0]?=some s->pt qs s=none
 tl:∀ s,rs[rs.length-1]?=some s->pt qs s=none
structure Rw(cw:Addr)(H:Hp)(x l a:Addr)(ss:LS)(ns:LN)(us:LQ)(tps qs:LP)(rs:LS):Prop where
 web:WebAt cw H x ss ns
 adj:Adj ss ns tps
 prs:PL H l us qs
 pgo:PGo ss tps qs
 row:H a=some (.lst (rs.map V.str))
 rok:RowG ss tps qs rs
theorem Rw.same{a:Addr}(h:Rw cw H x l a ss ns us tps qs rs)(s:L2.Same H H'):Rw cw H' x l a ss ns us tps qs rs:=
 ⟨h.web.same s,h.adj,h.prs.same s,h.pgo,s _ _ h.row,h.rok⟩
inductive spUl(cw:Addr)(vs:List V)(H:Hp)(Q:VK)(E:XK):Prop|mk (x a:Addr) (ss:LS) (ns:LN) (rs:LS) (_:vs=[.ref x,.ref a]) (_:WebAt cw H x ss ns) (_:H a=some (.lst (rs.map V.str))) (_:rs.Nodup) (_:rs.length<=1000) (_:(∀ r∈rs,r∈ss)) (_:∀ H',L2.Same H H'->Q (.bl true) H')
inductive spGt(cw:Addr)(vs:List V)(H:Hp)(Q:VK)(E:XK):Prop|mk (x l d a:Addr) (ss:LS) (ns:LN) (us:LQ) (tps qs:LP) (rs:LS) (_:vs=[.ref x,.ref d,.ref a]) (_:Rw cw H x l a ss ns us tps qs rs) (_:H d=some (.dK (prK qs))) (_:∀ H',L2.Same H H'->Q (.bl true) H')
inductive spIr(cw:Addr)(vs:List V)(H:Hp)(Q:VK)(E:XK):Prop|mk (x l a:Addr) (ss:LS) (ns:LN) (us:LQ) (tps qs:LP) (rs:LS) (_:vs=[.ref x,.ref l,.ref a]) (_:Rw cw H x l a ss ns us tps qs rs) (_:∀ H',L2.Same H H'->Q (.bl true) H')
theorem qf7{Q:VK}(q:Q (.bl (decide (pt qs s=some t))) H):qge K (((pt qs s).map V.str).getD .non) (.str t) H Q:=by
 cases e:pt qs s with
 | none=>rw[e] at q;show .inl (.inl (.inl ⟨rfl,rfl,q⟩))
 | some u =>
  show vEqS ?_;rw[e] at q
  rwa[show decide (u=t)=decide (some u=some t) from Yq.mpr ⟨congrArg some,ym⟩]
theorem ok_tp(F:Fun K "told_pairs" "told_pairs" j9 f fd)(T:Txt K mg cc cw)(S:wq5 9 "partners_in" wqf (spPn cw))(R:wq6 7 cw "ties" wqh (spTs cw)):wq7 10 f fd wqf (spTp cw):=by
 show F.ok um fun _ _ _ _ H vs Q E J h=>?_
 .obtain⟨x,pl,ss,ns,ps,tps,qs,rfl,C,U,X,W,q⟩:=h;have A:=jX J;obtain⟨wx,dd,ol,nn,Y,_⟩:=id C;show⟨_,(qc (qk (i:=2) um.nd rfl (Y9 rfl) (qq S (hmR J) qA (qa (pv 0) (qa (pv 1) qd))))
 (qe (qo (q9 (sc:=qg j9) (XN:=wqK) ["tie","partners"] 1 [2] rfl rfl rfl (by room) rfl (by room)
  (qG (K:=K) rfl (jg R (hmR J) (pv 0))) (fun _ _ _ _=>(qm (i:=0) (show(["tie","partners"]:LS).Nodup by room) rfl (yH rfl))) qH
  (fun _ _ _ _=>(qK (qj (jx (K:=K) rfl A) (qaR (qft A) (pv 1) (qr (qt (K:=K) rfl A) (pv 0) qh (fun _ _=>rfl)) ⟨rfl,rfl,rfl,rfl⟩) (qr (qt (K:=K) rfl A) (pv 0) qh (fun _ _=>rfl)) (qx _))))
  (fun _ _ _ _=>(pv 0)))))),?_⟩
  apply⟨x,pl,ss,ns,ps,tps,qs,rfl,C,U,X,W,fun d H1 B aa Z=>?_⟩;apply⟨x,wx,_,rfl,B _ _ Y,j8 (by room),?_⟩;apply⟨x,ss,ns,rfl,C.same B,fun l ts H2 O ac hl D b=>?_⟩;have p:=O _ _ Z;have s:=B.trans O;show .inl ⟨⟨_,.of hl⟩,qF (xs:=ts.map V.ref) (fun i ys G=>G=H2/\∃ us:LQ,ys=us.map V.ref/\us.length<=i/\All2 (fun t ab=>H1 t=none/\H2 t=some (.tup [.str ab.1,.str ab.2])) us (qbW ((qU ss ns ss.length).take i) qs)) ⟨rfl,[],rfl,yh _,.nil⟩ (fun i ys G _ a=>by rw[a.1];show .of hl) (fun i y ys G N a=>?_) fun ys G a=>?_⟩
  .obtain⟨rfl,us,rfl,r,m⟩:=a;rw[yd] at N;obtain⟨t,M,rfl⟩:=yn.mp N;have hi:i<ts.length:=(yc.mp M).1;obtain⟨ab,n⟩:∃ ab,(qU ss ns ss.length)[i]?=some ab:=⟨_,yb (by rw[<- b.len];show hi)⟩;obtain⟨z1,z2,L⟩:=b.at_ i t ab M n
   have c:qbW ((qU ss ns ss.length).take (i+1)) qs=qbW ((qU ss ns ss.length).take i) qs++(if pt qs ab.1=some ab.2 then [ab] else []):=by
    unfold qbW;rw[yK,n,yW];show _++[ab].filter _=_;rw[yL];simp only[kJ,Yr]
   apply qc5 ?_;apply⟨d,rfl,.inl ⟨_,.inl p⟩,?_⟩;apply .inl (qaV L (v:=.str ab.1) (qv (j:=0) rfl) ?_);show⟨_,DGet.k (k:=Sum.inr ab.1) p,?_⟩;rw[jq];apply .inl (qaV L (v:=.str ab.2) (qv (j:=1) rfl) ?_);show qf7 ?_;ext;rw[c];show qL (fun I=>?_) (fun I=>?_)
   .rw [yG (yk I)];apply⟨by rw[ya];show qi (by lk),rfl,us++[t],by rw[yu];rfl,by rw[yt];simp;lk,m.snoc ⟨z1,L⟩⟩
   .rw [yB (fun e=>I (yD e)),Ye];show⟨rfl,us,rfl,by lk,m⟩
  .obtain⟨rfl,us,rfl,r,m⟩:=a;have e:(ts.map V.ref).length=(qU ss ns ss.length).length:=by rw[ya,b.len]
   rw[e,yP] at m;rw[ya] at r;show⟨by rw[ya];show yX (qi (by lk)),fun g u=>?_⟩;have s3:=qD s (o:=.lst (us.map V.ref)) u;show q g us _ s3 (s.free u) qb (by lk) (m.mono fun t ab z=>⟨B.free z.1,(fun e=>by rw[e,u] at z;cases z.2),by rw[qf (fun e=>by rw[e,u] at z;cases z.2)];show z.2⟩)
theorem ok_ul(F:Fun K "are_unlike_places" "are_unlike_places" jj f fd)(T:Txt K mg cc cw)(I:wq6 3 cw "has_place" wqp (spHas cw)):wq7 4 f fd wqe (spUl cw):=by
 show F.ok KG fun _ _ _ _ H vs Q E C h=>?_
 .obtain⟨x,a,ss,ns,rs,rfl,u,j,m,hl,l,q⟩:=h;have D:=jX C;show⟨_,(qc (qR (jk (jd (qp (qcd (K:=K) rfl) rfl T.b_isinstance Y4 (qa (pv 1) (qa (zd (v:=.ty "list") rfl T.b_list Xu rfl) qd))))) (qe (qo jS)) qw)
 (qc (qk (i:=2) KG.nd rfl (yH rfl) j0)
 (qc (qX yS rfl (qG (K:=K) rfl (pv 1)) (qm (i:=3) KG.nd rfl (yH rfl))
 (qc (qR (PW.pt (qbm (jk (jd (qE I (hmR C) (pv 0) (qa (pv 3) qd)))) (qah (qj (qae (K:=K) rfl D) (pv 3) (pv 2) (by with_unfolding_all rfl))))) (qe (qo jS)) qw)
 (qe (jI jS (jH (pv 2) (pv 3) (jJ D))))))
 (qe (qo jS))))),?_⟩
  apply qet (.inl (.lst j)) rfl (qbd K "list" (by simp) "list" (by simp)) ?_;apply yq ?_;ext;intro d A;have n:=qD (Sr H) (o:=.dK []) A;have s:upd H d (.dK []) d=some (.dK (qcq [])):=qb;generalize upd H d (.dK [])=H1 at n s;obtain⟨N,R,ol,S,L,_⟩:=id u;apply .inl ⟨⟨_,.of (n _ _ j)⟩,qQ (xs:=rs.map V.str) (fun i σ J=>L2.Same H J/\∃ r,σ=[some (.ref x),some (.ref a),some (.ref d),r]/\J d=some (.dK (qcq (rs.take i)))) ⟨n,_,rfl,s⟩ (fun i σ J _ c=>.of (c.1 _ _ j)) (fun i y σ J G c=>?_) fun σ J c=>?_⟩
  .obtain⟨g,r,rfl,b⟩:=c;rw[yd] at G;obtain⟨z,hz,rfl⟩:=yn.mp G;have M:i<rs.length:=(yc.mp hz).1;have e:rs.take (i+1)=rs.take i++[z]:=by rw[yK,hz];rfl
   have B:z∉rs.take i:=fun y=>by
    have t:(rs.take (i+1)).Nodup:=m.sublist (X0 _ _);rw[e] at t;show(Yi.mp t).2.2 _ y z (by simp) rfl
   apply⟨x,N,_,rfl,g _ _ L,j8 (by room),?_⟩;apply⟨x,ss,ns,z,rfl,u.same g,l z (ye hz),fun O p=>?_⟩;apply yq ?_;apply .inr (.inl ⟨d,_,rfl,DGet.k (k:=Sum.inr z) (p _ _ b),?_⟩);rw[yB (by decide),qal,yl B];apply yq ?_;apply .inr ⟨d,_,rfl,DPut.k (k:=Sum.inr z) (p _ _ b) (qi (by unfold qcq;rw[ya,yQ];lk)),?_⟩;show⟨qaC (g.trans p) A,_,rfl,?_⟩;rw[qb,qcr B,e]
  .obtain⟨g,r,rfl,b⟩:=c;apply q J g
theorem uO:FnScope ["web","pairs","thing","partners"] wqv (qg qbt):=fS
theorem KO:FnScope wqm wqT (qg qY):=fS
theorem K2:FnScope ["web","pairs","thing","partners","first","last"] wqv (qg qaw):=fS
theorem qbu(rs:List V):qcQ rs (some 1) none=rs.tail:=by
 have:=qbR rs 1
 rwa[List.drop_one] at this
theorem qgG:∀{bs:List Bool},(∀ b∈bs,b=true)->bs.all id=true:=fun h=>Yw.mpr h
theorem qe2{xs ys:LS}(Z:Zl H H' l ts (xs.map V.str) (ys.map V.str))(hl:qs.length=min xs.length ys.length)(h:∀(j:Nat) q,qs[j]?=some q->xs[j]?=some q.1/\ys[j]?=some q.2):All2 (fun t ab=>H' t=some (.tup [.str ab.1,.str ab.2])) ts qs:=by
 show⟨by rw[Z.len,ya,ya,hl],fun j t ab g c=>?_⟩;obtain⟨d,f⟩:=h j ab c;obtain⟨_,u,v,a,b,e⟩:=Z.tp j t g;rw[yd,d] at a;rw[yd,f] at b;cases a;cases b;show e
theorem atI_back{xs:List α}{v:α}(a:1<=j)(h1:j<=xs.length)(h:xs[xs.length-j]?=some v):atI xs (-(j:Int))=some v:=by
 have e:ixN xs.length (-(j:Int))=some (xs.length-j):=by
  unfold ixN;rw[yB (by lk),yG (by lk)]
  congr 1
  lk
 unfold atI;rw[e];show h
theorem ok_gt(F:Fun K "goes_by_turns" "goes_by_turns" qY f fd)(T:Txt K mg cc cw)(K5:wq6 7 cw "has_tie" wqp (spHt cw)):wq7 8 f fd wqT (spGt cw):=by
 show F.ok KO fun _ _ _ _ H vs Q E hr h=>?_
 .obtain⟨x,l,d,a,ss,ns,us,tps,qs,rs,rfl,R,hd,q⟩:=h;have hu:=jX hr;obtain⟨wx,dd,ol,nn,X,_⟩:=id R.web;have ha:=R.row;have M:=R.rok;have hl:=M.few;show⟨_,(qc (qk (i:=3) KO.nd rfl (yH rfl) (qdz (K:=K) rfl rfl rfl rfl T.b_list T.b_zip (qa (pv 2) (qa (jt (qes (K:=K) rfl) (pv 2) (jF qh) jV) qd))))
 (qc (qR (jk (jd (qp (qf4 (K:=K) rfl rfl) rfl T.b_all boot_all (qa (q9 (sc:=qg qY) (XN:=wqm) ["step","web"] 1 [0] rfl rfl rfl (by room) rfl (by room)
  (qG (K:=K) rfl (pv 3)) (fun _ _ _ _=>(qm (i:=0) (show(["step","web"]:LS).Nodup by room) rfl (yH rfl))) qH
  (fun _ _ _ _=>zy)
  (fun _ _ _ _=>(qE K5 (hmR hr) (pv 1) (qa (pv 0) qd)))) qd)))) (qe (qo jS)) qw)
 (qc (zJ (sc:=qg qY) (XN:=wqm) ["step","partners"] 1 [1] rfl rfl rfl (by room) rfl (by room) (i:=4) KO.nd rfl rfl
  (qG (K:=K) rfl (pv 3)) (fun _ _ _ _=>(qm (i:=0) (show(["step","partners"]:LS).Nodup by room) rfl (yH rfl))) qH
  (fun _ _ _ _=>zy)
  (fun _ _ _ _=>(ze (jx (K:=K) rfl hu) (qaR (qft hu) (pv 1) (qr (qt (K:=K) rfl hu) (pv 0) qh (fun _ _=>rfl)) ⟨rfl,rfl,rfl,rfl⟩) (qr (qt (K:=K) rfl hu) (pv 0) qh (fun _ _=>rfl)) (qx _))))
 (qe (qo (qp (qf4 (K:=K) rfl rfl) rfl T.b_all boot_all (qa (q9 (sc:=qg qY) (XN:=wqm) ["one","other"] 2 [] rfl rfl rfl (by room) rfl (by room)
  (pi_zip (K:=K) rfl rfl T.b_zip (qa (pv 4) (qa (jt (qes (K:=K) rfl) (pv 4) (jF qh) jV) qd))) (fun _ _ _ _=>(qb6 (n:=2) rfl (jC (qm (i:=0) (show(["one","other"]:LS).Nodup by room) rfl (yH rfl)) (jC (qm (i:=1) (show(["one","other"]:LS).Nodup by room) rfl (yH rfl)) qbb)))) gk_two
  (fun _ _ _ _=>zy)
  (fun _ _ _ _=>(ze (qaj (K:=K) rfl hu) (pv 0) (pv 1) (qx _)))) qd))))))),?_⟩
  apply vLZ ?_;apply .inl ⟨a,_,rfl,SqL.of ha,fun c hc=>?_⟩;rw[qbu,<- kN];have s1:=qD (Sr H) (o:=.lst (rs.tail.map V.str)) hc;have aa:upd H c (.lst (rs.tail.map V.str)) c=some (.lst (rs.tail.map V.str)):=qb;generalize upd H c (.lst (rs.tail.map V.str))=H1 at s1 aa;apply⟨a,c,_,_,rfl,SqL.of (s1 _ _ ha),SqL.of aa,by rw[ya];show hl,fun l ts H2 Z=>?_⟩;have L:=s1.trans Z.sm;have ak:(stp rs).length<=1000:=by rw[qaI];lk
  have W:=qe2 (qs:=stp rs) Z (by rw[qaI,Xj];lk) fun j q e=>by
   obtain⟨z1,z2⟩:=stp_at.mp e;show⟨z1,by rw[Xo];show z2⟩
  have tl:=W.len;have C:=Z.ls
  have ai:∀{i:Nat} {y:V},(ts.map V.ref)[i]?=some y->∃ t ab,y=.ref t/\(stp rs)[i]?=some ab/\H2 t=some (.tup [.str ab.1,.str ab.2]):=fun{i y} O=>by
   rw[yd] at O;obtain⟨t,ht,rfl⟩:=yn.mp O;obtain⟨ab,p⟩:∃ ab,(stp rs)[i]?=some ab:=⟨_,yb (by rw[<- tl];show(yc.mp ht).1)⟩;show⟨t,ab,rfl,p,W.at_ i t ab ht p⟩
  apply .inl ⟨⟨_,.of C⟩,qF (xs:=ts.map V.ref) (fun i ys G=>L2.Same H2 G/\ys=(((stp rs).take i).map fun _=>true).map V.bl) ⟨L2.Same.refl H2,rfl⟩ (fun i ys G _ m=>.of (m.1 _ _ C)) (fun i y ys G O m=>?_) fun ys G m=>?_⟩
  .obtain⟨S,rfl⟩:=m;obtain⟨t,ab,rfl,p,N⟩:=ai O;obtain⟨e1,U⟩:=stp_at.mp p;apply qad ?_;apply⟨x,wx,_,rfl,(L.trans S) _ _ X,j8 (by room),?_⟩;apply⟨x,t,ss,ns,tps,ab,rfl,R.web.same (L.trans S),R.adj,S _ _ N,(M.tie i ab p).1,M.inn _ (ye e1),M.inn _ (ye U),fun z=>?_,fun G2 am=>?_⟩
   .rw [<- z] at U;show absurd (qy M.nd e1 U) (by lk)
   .show⟨by rw[ya,ya,yQ];show qi (by lk),S.trans am,?_⟩;rw[yK,p,yu,yu];rfl
  .obtain⟨S,rfl⟩:=m;rw[show(ts.map V.ref).length=(stp rs).length by rw[ya,tl],yP];show⟨by rw[ya,ya];show yX (qi (by lk)),fun g hg=>?_⟩;have s3:=qD S (o:=.lst (((stp rs).map fun _=>true).map V.bl)) hg;have eg:upd G g (.lst (((stp rs).map fun _=>true).map V.bl)) g=some (.lst (((stp rs).map fun _=>true).map V.bl)):=qb;generalize upd G g (.lst (((stp rs).map fun _=>true).map V.bl))=G3 at s3 eg;apply⟨g,_,rfl,SqL.of eg,_,rfl,?_⟩;rw[qgG (fun b X=>by obtain⟨_,_,rfl⟩:=yI.mp X;rfl)];have ag:=L.trans s3;show yq ?_;have r:=s3 _ _ C;have ad:=ag _ _ hd;apply .inl ⟨⟨_,.of r⟩,qF (xs:=ts.map V.ref) (fun i ys G=>G=G3/\ys=(((stp rs).take i).map (prB qs)).map V.bl) ⟨rfl,rfl⟩ (fun i ys G _ m=>by rw[m.1];show .of r) (fun i y ys G O m=>?_) fun ys G m=>?_⟩
   .obtain⟨rfl,rfl⟩:=m;obtain⟨t,ab,rfl,p,N⟩:=ai O;have N:=s3 _ _ N;apply qad ?_;apply qc5 ?_;apply⟨d,rfl,.inl ⟨_,.inl ad⟩,?_⟩;apply .inl (qaV N (v:=.str ab.1) (qv (j:=0) rfl) ?_);show⟨_,DGet.k (k:=Sum.inr ab.1) ad,?_⟩;rw[jq];apply .inl (qaV N (v:=.str ab.2) (qv (j:=1) rfl) ?_);show qf7 ?_;show⟨by rw[ya,ya,yQ];show qi (by lk),rfl,?_⟩;rw[yK,p,yu,yu];rfl
   .obtain⟨rfl,rfl⟩:=m;rw[show(ts.map V.ref).length=(stp rs).length by rw[ya,tl],yP];show⟨by rw[ya,ya];show yX (qi (by lk)),fun b aj=>?_⟩;obtain⟨bs,B⟩:∃ bs,bs=(stp rs).map (prB qs):=⟨_,rfl⟩;rw[<- B];have an:bs.length<=1000:=by rw[B,ya];show ak
    have Y:∀(i:Nat) b,bs[i]?=some b->b=decide (i % 2=1):=fun i b e=>by
     rw[B,yd] at e;obtain⟨ab,p,rfl⟩:=yn.mp e;show(M.tie i ab p).2
    have s4:=qD ag (o:=.lst (bs.map V.bl)) aj;have eb:upd G b (.lst (bs.map V.bl)) b=some (.lst (bs.map V.bl)):=qb;generalize upd G b (.lst (bs.map V.bl))=G4 at s4 eb;apply vZip ?_;apply .inl ⟨b,_,rfl,SqL.of eb,fun c2 ac=>?_⟩;rw[qbu,<- kN];have s5:=qD s4 (o:=.lst (bs.tail.map V.bl)) ac;have s:=qD (Sr G4) (o:=.lst (bs.tail.map V.bl)) ac _ _ eb;have A:upd G4 c2 (.lst (bs.tail.map V.bl)) c2=some (.lst (bs.tail.map V.bl)):=qb;generalize upd G4 c2 (.lst (bs.tail.map V.bl))=G5 at s5 s A;apply⟨b,c2,_,_,rfl,SqL.of s,SqL.of A,comp_zip (xs:=bs.map V.bl) (ys:=bs.tail.map V.bl) (by simp) (fun i zs J=>L2.Same G5 J/\zs=(List.replicate i true).map V.bl) ⟨L2.Same.refl G5,rfl⟩ (fun i zs J _ m=>⟨SqL.of (m.1 _ _ s),SqL.of (m.1 _ _ A)⟩) (fun i u v t zs J D I ht m=>?_) fun zs J m=>?_⟩
    .obtain⟨sJ,rfl⟩:=m;rw[yd] at D I;obtain⟨u,ae,rfl⟩:=yn.mp D;obtain⟨v,af,rfl⟩:=yn.mp I;clear D I;have ao:=(yc.mp ae).1;rw[Xo] at af;have e1:=Y _ _ ae;have U:=Y _ _ af;have ah:=qD sJ (o:=.tup [.bl u,.bl v]) ht;show⟨t,_,rfl,.of qb,rfl,_,_,rfl,_,_,rfl,rfl,?_⟩;generalize upd J t (.tup [.bl u,.bl v])=J3 at ah;apply qad ?_;apply .inl ⟨rfl,rfl,?_⟩;show⟨by rw[ya,YL];show qi (by lk),ah,?_⟩
     have al:v=!u:=by
      rw[e1,U];rcases XB i with z | z
      .rw [z,yD (by lk)];rfl
      .rw [z,yl (by lk)];rfl
     rw[List.replicate_succ',yu,al];cases u<;>rfl
    .obtain⟨sJ,rfl⟩:=m;rw[show(bs.tail.map V.bl).length=bs.length-1 by rw[ya,Xj]];show⟨by rw[ya,YL];show yX (qi (by lk)),fun e he=>?_⟩;have s6:=qD (s5.trans sJ) (o:=.lst ((List.replicate (bs.length-1) true).map V.bl)) he;have ee:upd J e (.lst ((List.replicate (bs.length-1) true).map V.bl)) e=some (.lst ((List.replicate (bs.length-1) true).map V.bl)):=qb;generalize upd J e (.lst ((List.replicate (bs.length-1) true).map V.bl))=J6 at s6 ee;apply⟨e,_,rfl,SqL.of ee,?_⟩;rw[qgG (fun b X=>(List.mem_replicate.mp X).2)];show q J6 s6
theorem ok_ir(F:Fun K "is_row" "is_row" qbt f fd)(T:Txt K mg cc cw)(m:wq5 9 "partners_in" wqf (spPn cw))(n:wq5 4 "are_unlike_places" wqe (spUl cw))(s:wq5 8 "goes_by_turns" wqT (spGt cw)):wq7 10 f fd wqv (spIr cw):=by
 show F.ok uO fun _ _ _ _ H vs Q E c h=>?_
 .obtain⟨x,l,a,ss,ns,us,tps,qs,rs,rfl,R,q⟩:=h;have u:=jX c;have G:=R.rok;have t:=G.two;show⟨_,(qc (qk (i:=3) uO.nd rfl (yH rfl) (qq m (hmR c) qA (qa (pv 0) (qa (pv 1) qd))))
 (qc (qR (PW.pt (qbm (jk (jd (qq n (hmR c) qA (qa (pv 0) (qa (pv 2) qd))))) (qah (qj qeC (qp (jL (K:=K) rfl) rfl T.b_len YE (qa (pv 2) qd)) qh (qx _))))) (qe (qo jS)) qw)
 (qe (qo (qq s (hmR c) qA (qa (pv 0) (qa (pv 3) (qa (pv 2) qd)))))))),?_⟩
  apply⟨x,l,ss,ns,us,tps,qs,rfl,R.web,R.adj,R.prs,R.pgo,fun d H1 e p o=>?_⟩;apply⟨x,a,ss,ns,rs,rfl,R.web.same e,e _ _ R.row,G.nd,G.few,G.inn,fun H2 g=>?_⟩;have b:=e.trans g;apply yq ?_;apply .inl ⟨_,.inl (SqL.of (b _ _ R.row)),?_⟩;rw[ya];apply qL (fun h=>absurd (yk h) (by lk)) fun _=>?_;apply⟨x,l,d,a,ss,ns,us,tps,qs,rs,rfl,R.same b,g _ _ o,fun j r=>q j (b.trans r)⟩
theorem qfM{t:Addr}{n:Str}{Q:VK}(e:H t=some (.tup [.non,.str n]))(q:Q (.bl true) H):qey K false .non (.ref t) H Q:=
 .inl ⟨t,_,rfl,.inr (SqT.of e),rfl,rfl,q⟩
theorem ok_ct(F:Fun K "can_turn" "can_turn" qaw f fd)(T:Txt K mg cc cw)(I:wq5 9 "partners_in" wqf (spPn cw))(J:wq5 10 "is_row" wqv (spIr cw)):wq7 11 f fd wqv (spIr cw):=by
 show F.ok K2 fun _ _ _ _ H vs Q E u h=>?_
 .obtain⟨x,l,a,ss,ns,us,tps,qs,rs,rfl,R,q⟩:=h;have b:=jX u;have G:=R.rok;have W:=G.two;show⟨_,(qc (qR (jk (jd (qq J (hmR u) qA (qa (pv 0) (qa (pv 1) (qa (pv 2) qd)))))) (qe (qo jS)) qw)
 (qc (qk (i:=3) K2.nd rfl (yH rfl) (qq I (hmR u) qA (qa (pv 0) (qa (pv 1) qd))))
 (qc (qk (i:=4) K2.nd rfl (yH rfl) (qaR (qft b) (pv 3) (qr (qt (K:=K) rfl b) (pv 2) qh (fun _ _=>rfl)) ⟨rfl,rfl,rfl,rfl⟩))
 (qc (qk (i:=5) K2.nd rfl (yH rfl) (qaR (qft b) (pv 3) (qr (qt (K:=K) rfl b) (pv 2) (qaA qaN qh) (fun _ _=>rfl)) ⟨rfl,rfl,rfl,rfl⟩))
 (qe (qo (qcH (ze (qae (K:=K) rfl b) (pv 4) (jU (qa qag (qa (qr (qt (K:=K) rfl b) (pv 2) qh (fun _ _=>rfl)) qd))) (by with_unfolding_all rfl)) (qcG (ze (qae (K:=K) rfl b) (pv 5) (jU (qa qag (qa (qr (qt (K:=K) rfl b) (pv 2) (qaA qaN qh) (fun _ _=>rfl)) qd))) (by with_unfolding_all rfl)))))))))),?_⟩
  apply⟨x,l,a,ss,ns,us,tps,qs,rs,rfl,R,fun H1 z=>?_⟩;show⟨_,rfl,qL (fun h=>by cases h) fun _=>?_⟩;apply⟨x,l,ss,ns,us,tps,qs,rfl,R.web.same z,R.adj,R.prs.same z,R.pgo,fun d H2 S M p=>?_⟩;obtain⟨s,B⟩:∃ s,rs[0]?=some s:=⟨_,yb (by lk)⟩;obtain⟨g,L⟩:∃ g,rs[1]?=some g:=⟨_,yb (by lk)⟩;obtain⟨r,D⟩:∃ r,rs[rs.length-1]?=some r:=⟨_,yb (by lk)⟩;obtain⟨m1,O⟩:∃ m1,rs[rs.length-2]?=some m1:=⟨_,yb (by lk)⟩;have m:=z.trans S;have C:=R.row;have c:=m _ _ C;have at_:∀{j:Nat} {n:Str},rs[j]?=some n->(rs.map V.str)[j]?=some (.str n):=fun e=>by rw[yd,e];rfl
  have back:∀{j:Nat} {n:Str},1<=j->j<=rs.length->rs[rs.length-j]?=some n->atI (rs.map V.str) (-(j:Int))=some (.str n):=fun l1 l2 e=>atI_back l1 (by rw[ya];show l2) (by rw[ya];show at_ e);apply qc5 ?_;apply⟨d,rfl,.inl ⟨_,.inl p⟩,?_⟩;apply .inl (zN c (v:=.str s) (qv (j:=0) (at_ B)) ?_);show⟨_,DGet.k (k:=Sum.inr s) p,?_⟩;rw[jq,G.hd _ B];apply qc5 ?_;apply⟨d,rfl,.inl ⟨_,.inl p⟩,?_⟩;apply⟨1,rfl,?_⟩;show .inl (zN c (v:=.str r) (back (j:=1) (by decide) (by lk) D) ?_);show⟨_,DGet.k (k:=Sum.inr r) p,?_⟩;rw[jq,G.tl _ D];apply .inl (zN c (v:=.str g) (qv (j:=1) (at_ L)) ?_);apply⟨wqqb,fun t N=>qfM qb ?_⟩;have A:=qD m (o:=.tup [.non,.str g]) N;generalize upd H2 t (.tup [.non,.str g])=U at A;show⟨_,rfl,qad ?_⟩;apply⟨2,rfl,?_⟩;show .inl (zN (A _ _ C) (v:=.str m1) (back (j:=2) (by decide) (by lk) O) ?_);apply⟨wqqb,fun X y=>qfM qb (q _ (qD A y))⟩
theorem ur:FnScope wqS wq0 (qg qa2):=fS
def qe3(rs:LS):LP:=stp rs++(stp rs).map fun q=>(q.2,q.1)
def flT(a qs:LP)(rs:LS):LP:=a.filter fun q=>decide (pt qs q.1=some q.2) != decide (q∈qe3 rs)
inductive spTu(cw:Addr)(vs:List V)(H:Hp)(Q:VK)(E:XK):Prop|mk (x l a:Addr) (ss:LS) (ns:LN) (us:LQ) (tps qs:LP) (rs:LS) (_:vs=[.ref x,.ref l,.ref a]) (_:Rw cw H x l a ss ns us tps qs rs) (_:∀(l:Addr) (ls:LQ) (H':Hp),L2.Same H H'->H l=none->H' l=some (.lst (ls.map V.ref))->ls.length<=196->All2 (PrAt H H' l) ls (flT (qU ss ns ss.length) qs rs)->Q (.ref l) H')
theorem All2.app9{R:α->β->Prop}{l1 l2:List α}{m1 f:List β}(a:All2 R l1 m1)(b:All2 R l2 f):All2 R (l1++l2) (m1++f):=by
 show⟨by rw[yt,yt,a.len,b.len],fun k x y c d=>?_⟩;by_cases e:k<l1.length
 .rw [Yg e] at c;rw[Yg (by rw[<- a.len];show e)] at d;show a.at_ k x y c d
 .rw [yO (by lk)] at c;rw[yO (by rw[<- a.len];lk),<- a.len] at d;show b.at_ _ x y c d
theorem cat_W{a b:Addr}{Q:VK}(c:G a=some (.lst xs))(d:G b=some (.lst ys))(hl:xs.length+ys.length<=2000)(q:∀ p,G p=none->Q (.ref p) (upd G p (.lst (xs++ys)))):qdu K (.ref a) (.ref b) G Q:=.inl ⟨a,b,_,_,rfl,rfl,c,d,yi hl (by decide),q⟩
theorem ok_tu(F:Fun K "turned" "turned" qa2 f fd)(T:Txt K mg cc cw)(Kl:wq5 9 "partners_in" wqf (spPn cw))(KU:wq6 7 cw "ties" wqh (spTs cw))(Ud:wq5 11 "can_turn" wqv (spIr cw)):wq7 12 f fd wq0 (spTu cw):=by
 show F.ok ur fun _ _ _ _ H vs Q E hr h=>?_
 .obtain⟨x,pl,a,ss,ns,ps,tps,qs,rs,rfl,R,q⟩:=h;have u:=jX hr;obtain⟨wx,dd,ol,nn,hb,_⟩:=id R.web;have ha:=R.row;have ah:=R.rok.few;have h2:=R.rok.two;show⟨_,(qc (qR (jk (jd (qq Ud (hmR hr) qA (qa (pv 0) (qa (pv 1) (qa (pv 2) qd)))))) (qe jr) qw)
 (qc (qk (i:=3) ur.nd rfl (Y9 rfl) (qq Kl (hmR hr) qA (qa (pv 0) (qa (pv 1) qd))))
 (qc (qk (i:=4) ur.nd rfl (Y9 rfl) (qu (j6 (K:=K) rfl) (qdz (K:=K) rfl rfl rfl rfl T.b_list T.b_zip (qa (pv 2) (qa (jt (qes (K:=K) rfl) (pv 2) (jF qh) jV) qd))) (qdz (K:=K) rfl rfl rfl rfl T.b_list T.b_zip (qa (jt (qes (K:=K) rfl) (pv 2) (jF qh) jV) (qa (pv 2) qd)))))
 (qe (qo (q9 (sc:=qg qa2) (XN:=wqS) ["tie","steps","partners"] 1 [4,3] rfl rfl rfl (by room) rfl (by room)
  (qG (K:=K) rfl (jg KU (hmR hr) (pv 0))) (fun _ _ _ _=>(qm (i:=0) (show(["tie","steps","partners"]:LS).Nodup by room) rfl (yH rfl))) qH
  (fun _ _ _ _=>(qK (qj (qaj (K:=K) rfl u) (ze (jx (K:=K) rfl u) (qaR (qft u) (pv 2) (qr (qt (K:=K) rfl u) (pv 0) qh (fun _ _=>rfl)) ⟨rfl,rfl,rfl,rfl⟩) (qr (qt (K:=K) rfl u) (pv 0) qh (fun _ _=>rfl)) (qx _)) (ze (qae (K:=K) rfl u) (pv 0) (pv 1) (by with_unfolding_all rfl)) (qx _))))
  (fun _ _ _ _=>(pv 0)))))))),?_⟩
  apply⟨x,pl,a,ss,ns,ps,tps,qs,rs,rfl,R,fun H1 s1=>?_⟩;show⟨_,rfl,qL (fun h=>by cases h) fun _=>?_⟩;apply⟨x,pl,ss,ns,ps,tps,qs,rfl,R.web.same s1,R.adj,R.prs.same s1,R.pgo,fun d H2 s2 ai hd=>?_⟩;have N:=s1.trans s2;have n:=N _ _ ha;apply vLZ ?_;apply .inl ⟨a,_,rfl,SqL.of n,fun Z ac=>?_⟩;rw[qbu,<- kN];have t1:=qD (Sr H2) (o:=.lst (rs.tail.map V.str)) ac;have A:upd H2 Z (.lst (rs.tail.map V.str)) Z=some (.lst (rs.tail.map V.str)):=qb;generalize upd H2 Z (.lst (rs.tail.map V.str))=G1 at t1 A;apply⟨a,Z,_,_,rfl,SqL.of (t1 _ _ n),SqL.of A,by rw[ya];show ah,fun l1 b G2 Z1=>?_⟩;have t2:=t1.trans Z1.sm;apply vLZ ?_;apply .inl ⟨a,_,rfl,SqL.of (t2 _ _ n),fun c2 ad=>?_⟩;rw[qbu,<- kN];have t3:=qD (Sr G2) (o:=.lst (rs.tail.map V.str)) ad;have B:upd G2 c2 (.lst (rs.tail.map V.str)) c2=some (.lst (rs.tail.map V.str)):=qb;generalize upd G2 c2 (.lst (rs.tail.map V.str))=G3 at t3 B;have S:=t2.trans t3;apply⟨c2,a,_,_,rfl,SqL.of B,SqL.of (S _ _ n),by rw[ya,Xj];lk,fun l2 c G4 Y=>?_⟩;have t4:=S.trans Y.sm;have U:=t3.trans Y.sm
  have A1:=qe2 (qs:=stp rs) Z1 (by rw[qaI,Xj];lk) fun j q e=>by
   obtain⟨X,z2⟩:=stp_at.mp e;show⟨X,by rw[Xo];show z2⟩
  have A2:=qe2 (qs:=(stp rs).map fun q=>(q.2,q.1)) Y (by rw[ya,qaI,Xj];lk) fun j q e=>by
   rw[yd] at e;obtain⟨q',e',rfl⟩:=yn.mp e;obtain⟨X,z2⟩:=stp_at.mp e';show⟨by rw[Xo];show z2,X⟩
  have ak:b.length<=1000:=by rw[A1.len,qaI];lk
  have al:c.length<=1000:=by rw[A2.len,ya,qaI];lk
  show cat_W (U _ _ Z1.ls) Y.ls (by rw[ya,ya,A1.len,A2.len,ya,qaI];lk) fun st ag=>?_;have t5:=qD (Sr G4) (o:=.lst (b.map V.ref++c.map V.ref)) ag;have C:upd G4 st (.lst (b.map V.ref++c.map V.ref)) st=some (.lst (b.map V.ref++c.map V.ref)):=qb;generalize upd G4 st (.lst (b.map V.ref++c.map V.ref))=G5 at t5 C;have W:=t4.trans t5;have aa:PL G5 st (b++c) (qe3 rs):=⟨by rw[yu];show C,All2.app9 (A1.mono fun _ _ z=>(U.trans t5) _ _ z) (A2.mono fun _ _ z=>t5 _ _ z)⟩;have p:=N.trans W;have ae:=W _ _ hd;apply⟨x,wx,_,rfl,p _ _ hb,j8 (by room),?_⟩;apply⟨x,ss,ns,rfl,R.web.same p,fun l ts G6 s6 aj hl af r=>?_⟩;have O:=p.trans s6;have L:=s6 _ _ ae;have D:=aa.same s6;show .inl ⟨⟨_,.of hl⟩,qF (xs:=ts.map V.ref) (fun i ys G=>G=G6/\∃ us:LQ,ys=us.map V.ref/\us.length<=i/\All2 (fun t ab=>G5 t=none/\G6 t=some (.tup [.str ab.1,.str ab.2])) us (flT ((qU ss ns ss.length).take i) qs rs)) ⟨rfl,[],rfl,yh _,.nil⟩ (fun i ys G _ m=>by rw[m.1];show .of hl) (fun i y ys G hy m=>?_) fun ys G m=>?_⟩
  .obtain⟨rfl,us,rfl,M,I⟩:=m;rw[yd] at hy;obtain⟨t,ht,rfl⟩:=yn.mp hy;have hi:i<ts.length:=(yc.mp ht).1;obtain⟨ab,J⟩:∃ ab,(qU ss ns ss.length)[i]?=some ab:=⟨_,yb (by rw[<- r.len];show hi)⟩;obtain⟨X,z2,z3⟩:=r.at_ i t ab ht J
   have s:flT ((qU ss ns ss.length).take (i+1)) qs rs=flT ((qU ss ns ss.length).take i) qs rs++(if (decide (pt qs ab.1=some ab.2) != decide (ab∈qe3 rs))=true then [ab] else []):=by
    unfold flT;rw[yK,J,yW];show _++[ab].filter _=_;rw[yL,Yr]
   apply qc5 ?_;apply⟨d,rfl,.inl ⟨_,.inl L⟩,?_⟩;apply .inl (qaV z3 (v:=.str ab.1) (qv (j:=0) rfl) ?_);show⟨_,DGet.k (k:=Sum.inr ab.1) L,?_⟩;rw[jq];apply .inl (qaV z3 (v:=.str ab.2) (qv (j:=1) rfl) ?_);show qf7 ?_;apply pl_in D z3 ?_;show .inl ⟨rfl,rfl,?_⟩;have eb:eqV (.bl (decide (pt qs ab.1=some ab.2))) (.bl (decide ((ab.1,ab.2)∈qe3 rs)))=(decide (pt qs ab.1=some ab.2)==decide (ab∈qe3 rs)):=rfl;rw[yG rfl,eb,s];show⟨_,rfl,?_⟩;show if (decide (pt qs ab.1=some ab.2) != decide (ab∈qe3 rs))=true then _ else _
   cases am:(decide (pt qs ab.1=some ab.2) != decide (ab∈qe3 rs)) with
   | true =>
    show qad ?_;rw[yG rfl];apply⟨by rw[ya];show qi (by lk),rfl,us++[t],by rw[yu];rfl,by rw[yt];simp;lk,I.snoc ⟨X,z3⟩⟩
   | false =>
    show yq ?_;rw[yB (by decide),Ye];show⟨rfl,us,rfl,by lk,I⟩
  .obtain⟨rfl,us,rfl,M,I⟩:=m;have e:(ts.map V.ref).length=(qU ss ns ss.length).length:=by rw[ya,r.len]
   rw[e,yP] at I;rw[ya] at M;show⟨by rw[ya];show yX (qi (by lk)),fun g hg=>?_⟩;have s7:=qD O (o:=.lst (us.map V.ref)) hg;show q g us _ s7 (O.free hg) qb (by lk) (I.mono fun t ab z=>⟨p.free z.1,(fun e=>by rw[e,hg] at z;cases z.2),by rw[qf (fun e=>by rw[e,hg] at z;cases z.2)];show z.2⟩)
def adjR(rs:LS)(a b:Str):Prop:=∃ j:Nat,(rs[j]?=some a/\rs[j+1]?=some b)\/(rs[j]?=some b/\rs[j+1]?=some a)
theorem adjR.symm(h:adjR rs a b):adjR rs b a:=h.elim fun j z=>⟨j,z.symm⟩
theorem adjR.mem(h:adjR rs a b):a∈rs/\b∈rs:=h.elim fun j z=>z.elim (fun y=>⟨ye y.1,ye y.2⟩) fun y=>⟨ye y.2,ye y.1⟩
structure TurnR(f:Str->Option Str)(rs:LS):Prop where
 nd:rs.Nodup
 two:2<=rs.length
 sym:∀ a b,f a=some b->f b=some a
 alt:∀(j:Nat) r s t,rs[j]?=some r->rs[j+1]?=some s->rs[j+2]?=some t->(f s=some r↔¬ f s=some t)
 fst:∀ s t,rs[0]?=some s->rs[1]?=some t->f s=none\/f s=some t
 lst:∀ s t,rs[rs.length-1]?=some s->rs[rs.length-2]?=some t->f s=none\/f s=some t
theorem TurnR.near{f:Str->Option Str}(h:TurnR f rs)(n:a∈rs)(c:f a=some b):adjR rs a b:=by
 obtain⟨i,d⟩:=yf n;have o:i<rs.length:=(yc.mp d).1;have p:=h.two;by_cases m:i=0
 .subst m;obtain⟨t,e⟩:∃ t,rs[1]?=some t:=⟨_,yb (by lk)⟩;rcases h.fst a t d e with z | z
  .rw [z] at c;cases c
  .rw [c] at z;cases z;show⟨0,.inl ⟨d,e⟩⟩
 .by_cases hl:i=rs.length-1
  .obtain⟨t,e⟩:∃ t,rs[rs.length-2]?=some t:=⟨_,yb (by lk)⟩;rcases h.lst a t (by rw[<- hl];show d) e with z | z
   .rw [z] at c;cases c
   .rw [c] at z;cases z;show⟨rs.length-2,.inr ⟨e,by rw[show rs.length-2+1=i by lk];show d⟩⟩
  .obtain⟨r,l⟩:∃ r,rs[i-1]?=some r:=⟨_,yb (by lk)⟩;obtain⟨t,e⟩:∃ t,rs[i+1]?=some t:=⟨_,yb (by lk)⟩;have g:i-1+1=i:=by lk
   have j:i-1+2=i+1:=by lk
   have:=h.alt (i-1) r a t l (by rw[g];show d) (by rw[j];show e);by_cases z:f a=some t
   .rw [c] at z;cases z;show⟨i,.inl ⟨d,e⟩⟩
   .have z:=this.mpr z;rw[c] at z;cases z;show⟨i-1,.inr ⟨l,by rw[g];show d⟩⟩
def flipR(f:Str->Option Str)(rs:LS)(a b:Str):Prop:=(a∉rs/\f a=some b)\/(adjR rs a b/\f a≠some b)
theorem TurnR.xor{f:Str->Option Str}(h:TurnR f rs):flipR f rs a b↔¬ (f a=some b↔adjR rs a b):=by
 unfold flipR;constructor
 .rintro (⟨h1,c⟩ | ⟨h1,c⟩) e
  .show h1 (e.mp c).mem.1
  .show c (e.mpr h1)
 .intro e;by_cases h1:f a=some b
  .show .inl ⟨fun d=>e ⟨fun _=>h.near d h1,fun _=>h1⟩,h1⟩
  .by_cases c:adjR rs a b
   .show .inr ⟨c,h1⟩
   .show absurd ⟨fun z=>absurd z h1,fun z=>absurd z c⟩ e
theorem flipR.symm{f:Str->Option Str}(h:TurnR f rs)(e:flipR f rs a b):flipR f rs b a:=by
 rcases e with⟨h1,c⟩ | ⟨h1,c⟩
 .show .inl ⟨fun d=>?_,h.sym _ _ c⟩;show h1 (h.near d (h.sym _ _ c)).mem.2
 .show .inr ⟨h1.symm,fun z=>c (h.sym _ _ z)⟩
theorem adjR.at_(nd:rs.Nodup)(d:rs[i]?=some a)(h:adjR rs a b):rs[i+1]?=some b\/(1<=i/\rs[i-1]?=some b):=by
 obtain⟨j,⟨h1,c⟩ | ⟨h1,c⟩⟩:=h
 .have:=qy nd d h1;subst this;show .inl c
 .have:=qy nd d c;subst this;show .inr ⟨by lk,by simpa using h1⟩
theorem flipR.one{f:Str->Option Str}(h:TurnR f rs)(p:flipR f rs a b)(o:flipR f rs a c):b=c:=by
 rcases p with⟨h1,j⟩ | ⟨h1,j⟩
 .rcases o with⟨e,d⟩ | ⟨e,d⟩
  .rw [j] at d;show ym d
  .show absurd e.mem.1 h1
 .rcases o with⟨e,d⟩ | ⟨e,d⟩
  .show absurd h1.mem.1 e
  .obtain⟨i,l⟩:=yf h1.mem.1
   have g:∀{b c:Str},rs[i+1]?=some b->1<=i->rs[i-1]?=some c->f a≠some b->f a≠some c->False:=fun r q hc s t=>by
    have m:i-1+1=i:=by lk
    have n:i-1+2=i+1:=by lk
    show t ((h.alt (i-1) _ a _ hc (by rw[m];show l) (by rw[n];show r)).mpr s)
   rcases h1.at_ h.nd l with z1 | ⟨l1,z1⟩<;>rcases e.at_ h.nd l with z2 | ⟨l2,z2⟩
   .rw [z1] at z2;show ym z2
   .show(g z1 l2 z2 j d).elim
   .show(g z2 l1 z1 d j).elim
   .rw [z1] at z2;show ym z2
theorem TurnR.again{f:Str->Option Str}(h:TurnR f rs)(l:∀ a b,g a=some b↔flipR f rs a b):TurnR g rs:=by
 have on:∀{a b:Str},adjR rs a b->(g a=some b↔¬ f a=some b):=fun i=>by
  rw[l,h.xor];constructor
  .show fun e z=>e ⟨fun _=>i,fun _=>z⟩
  .show fun e z=>e (z.mpr i)
 have only:∀{a b:Str},a∈rs->g a=some b->adjR rs a b:=fun p e=>by
  rcases(l _ _).mp e with⟨h1,_⟩ | ⟨h1,_⟩
  .show absurd p h1
  .show h1
 show⟨h.nd,h.two,fun a b e=>(l _ _).mpr (((l _ _).mp e).symm h),fun j r s t m c d=>?_,fun s t c d=>?_,fun s t c d=>?_⟩
 .have n:adjR rs s r:=⟨j,.inr ⟨m,c⟩⟩;have o:adjR rs s t:=⟨j+1,.inl ⟨c,d⟩⟩;rw[on n,on o,h.alt j r s t m c d]
 .cases e:g s with
  | none=>show .inl rfl
  | some b =>
   have:=(only (ye c) e).at_ h.nd c;rcases this with z | ⟨z,_⟩
   .rw [d] at z;show .inr (by rw[<- e,e];show z.symm ▸ rfl)
   .omega
 .cases e:g s with
  | none=>show .inl rfl
  | some b =>
   have q:=h.two;have:=(only (ye c) e).at_ h.nd c;rcases this with z | ⟨_,z⟩
   .have:=(yc.mp z).1;lk
   .rw [show rs.length-1-1=rs.length-2 by lk,d] at z;show .inr (by rw[<- z])
theorem TurnR.inner{f:Str->Option Str}(h:TurnR f rs)(d:0<i)(h1:i+1<rs.length)(b:rs[i]?=some s):(f s).isSome=true:=by
 obtain⟨r,a⟩:∃ r,rs[i-1]?=some r:=⟨_,yb (by lk)⟩;obtain⟨t,c⟩:∃ t,rs[i+1]?=some t:=⟨_,yb h1⟩;have:=h.alt (i-1) r s t a (by rw[show i-1+1=i by lk];show b) (by rw[show i-1+2=i+1 by lk];show c)
 cases e:f s with
 | some _=>rfl
 | none =>
  rw[e] at this;have:=this.mpr (fun z=>by cases z);cases this
theorem qeb{f:Str->Option Str}(h:TurnR f rs)(e:∀ a b,g a=some b↔flipR f rs a b)(c:adjR rs a t)(i:f a=none\/f a=some t)(d:g a=none\/g a=some t):(g a).isSome=!(f a).isSome:=by
 rcases i with z | z
 .rw [(e a t).mpr (.inr ⟨c,by rw[z];show fun y=>by cases y⟩),z];rfl
 .rcases d with y | y
  .rw [y,z];rfl
  .show absurd ⟨fun _=>c,fun _=>z⟩ (h.xor.mp ((e a t).mp y))
theorem qe4{f:Str->Option Str}(h:TurnR f rs)(j:rs[0]?=some a)(g:rs[rs.length-1]?=some b):(rs.filter fun s=>(f s).isSome).length+2=rs.length+(if (f a).isSome then 1 else 0)+(if (f b).isSome then 1 else 0):=by
 have d:=h.two
 obtain⟨m,n⟩:∃ m,rs=a::(m++[b]):=by
  match rs,j,g,d with
  | x::r,j,g,d =>
   have u:x=a:=ym j;have q:r≠[]:=fun z=>by rw[z] at d;simp at d
   show⟨r.dropLast,?_⟩
   have e:r.getLast q=b:=by
    have hl:0<r.length:=List.length_pos_iff.mpr q;rw[show(x::r).length-1=r.length-1+1 by simp;lk,List.getElem?_cons_succ] at g;rw[List.getLast_eq_getElem];show(yc.mp g).2
   rw[u,<- e,xx]
 have o:rs.length=m.length+2:=by rw[n];simp
 have c:(m.filter fun s=>(f s).isSome)=m:=kz.mpr fun s t=>by
  obtain⟨i,p⟩:=yf t;have l:=(yc.mp p).1;show h.inner (i:=i+1) (by lk) (by lk) ?_;rw[n,List.getElem?_cons_succ,Yg l];show p
 rw[o,n,yL,yW,c,yL,Yr];cases (f a).isSome<;>cases (f b).isSome<;>simp<;>lk
theorem qde(f:ss.Nodup)(i:rs.Nodup)(c:∀ s∈rs,s∈ss)(p:Str->Bool):(ss.filter p).length=(rs.filter p).length+(ss.filter fun s=>p s&&!decide (s∈rs)).length:=by
 have e:(rs.filter p).length=(ss.filter fun s=>p s&&decide (s∈rs)).length:=xP
  (qcs (i.filter _) fun s d=>by
   obtain⟨a,b⟩:=yp.mp d;show yp.mpr ⟨c s a,by rw[b,yD a];rfl⟩)
  (qcs (f.filter _) fun s d=>by
   obtain⟨a,b⟩:=yp.mp d;obtain⟨g,h⟩:=(yY _ _).mp b;show yp.mpr ⟨yk h,g⟩)
 rw[e];clear e f c
 induction ss with
 | nil=>rfl
 | cons x r ih =>
  rw[yL,yL,yL];cases p x<;>cases decide (x∈rs)<;>simp<;>lk
theorem qce:∀{qs:LP},(∀ q∈qs,q.1≠q.2)->qs.Pairwise (fun q r=>q.1≠r.1/\q.1≠r.2/\q.2≠r.1/\q.2≠r.2)->(qz qs).Nodup
 | [],_,_=>Kh
 | q::r,h,hp=>by
  obtain⟨j,l⟩:=kF.mp hp;have i:=qce (fun x f=>h x (yC _ f)) l;show(q.1::q.2::qz r).Nodup
  have out:∀ n∈qz r,q.1≠n/\q.2≠n:=fun n g=>by
   obtain⟨x,f,e⟩:=xE.mp g;obtain⟨a,b,c,d⟩:=j x f;simp only[yx,Yb,YH] at e;rcases e with rfl | rfl
   .show⟨a,c⟩
   .show⟨b,d⟩
  show yo.mpr ⟨fun z=>?_,yo.mpr ⟨fun z=>(out _ z).2 rfl,i⟩⟩;rcases yx.mp z with z | z
  .show h q yU z
  .show(out _ z).1 rfl
theorem stpB_adj:(a,b)∈qe3 rs↔adjR rs a b:=by
 unfold qe3 adjR;rw[yA,yI];constructor
 .rintro (h | ⟨q,h,e⟩)
  .obtain⟨j,d⟩:=yf h;show⟨j,.inl (stp_at.mp d)⟩
  .obtain⟨j,d⟩:=yf h;cases e;show⟨j,.inr (stp_at.mp d)⟩
 .rintro ⟨j,⟨h1,c⟩ | ⟨h1,c⟩⟩
  .show .inl (ye (stp_at.mpr ⟨h1,c⟩))
  .show .inr ⟨(b,a),ye (stp_at.mpr ⟨h1,c⟩),rfl⟩
theorem flT_flip{d:LP}(h:TurnR (pt qs) rs):(a,b)∈flT d qs rs↔(a,b)∈d/\flipR (pt qs) rs a b:=by
 unfold flT;rw[yp,h.xor];show and_congr_right fun _=>?_;show(decide (pt qs a=some b) != decide ((a,b)∈qe3 rs))=true↔_;by_cases h1:pt qs a=some b<;>by_cases c:(a,b)∈qe3 rs
 .rw [yD h1,yD c];show⟨(fun z=>by cases z),fun z=>absurd ⟨fun _=>stpB_adj.mp c,fun _=>h1⟩ z⟩
 .rw [yD h1,yl c];show⟨fun _ z=>c (stpB_adj.mpr (z.mp h1)),fun _=>rfl⟩
 .rw [yl h1,yD c];show⟨fun _ z=>h1 (z.mpr (stpB_adj.mp c)),fun _=>rfl⟩
 .rw [yl h1,yl c];show⟨(fun z=>by cases z),fun z=>absurd ⟨fun y=>absurd y h1,fun y=>absurd (stpB_adj.mpr y) c⟩ z⟩
def tA(tps:LP)(a b:Str):Prop:=(a,b)∈tps\/(b,a)∈tps
theorem pt_some:s∈qz qs↔(pt qs s).isSome=true:=by
 cases e:pt qs s with
 | none=>show⟨fun z=>absurd z (pt_none.mp e),(fun z=>by cases z)⟩
 | some b=>show⟨fun _=>rfl,fun _=>Yh fun z=>by rw[pt_none.mpr z] at e;cases e⟩
structure PFn(ss:LS)(tps:LP)(f:Str->Option Str):Prop where
 sym:∀ a b,f a=some b->f b=some a
 tie:∀ a b,f a=some b->tA tps a b
def qaD(f:Str->Option Str)(ss:LS):Nat:=(ss.filter fun s=>(f s).isSome).length
section
variable{ss:LS}{ns:LN}{tps qs:LP}{f g:Str->Option Str}
theorem PGo.fn(h:PGo ss tps qs):PFn ss tps (pt qs):=⟨fun a b e=>(qeZ h.nd).mp e,fun a b e=>by
 rcases qd9 e with z | z
 .show(h.inn _ z).1
 .show(h.inn _ z).1.symm⟩
theorem PGo.cnt(h:PGo ss tps qs)(c:ss.Nodup):2*qs.length=qaD (pt qs) ss:=by
 rw[<- qaH];show xP (qcs h.nd fun s a=>yp.mpr ⟨?_,pt_some.mp a⟩) (qcs (c.filter _) fun s a=>pt_some.mpr (yp.mp a).2);obtain⟨q,b,a⟩:=xE.mp a;simp only[yx,Yb,YH] at a;rcases a with rfl | rfl
 .show(h.inn q b).2.1
 .show(h.inn q b).2.2.1
theorem qac:(snL f ss).length+qaD f ss=ss.length:=by
 unfold snL qaD
 induction ss with
 | nil=>rfl
 | cons x r ih =>
  rw[yL,yL];cases (f x).isSome
  .rw [yG (show(!false)=true from rfl),yB Yu,yJ,yJ];lk
  .rw [yB (show ¬ (!true)=true by decide),yG (show true=true from rfl),yJ,yJ];lk
theorem zr(hw:WOk ss ns)(p:Adj ss ns tps):(a,b)∈qU ss ns ss.length↔tA tps a b/\∃ i j:Nat,i<j/\ss[i]?=some a/\ss[j]?=some b:=by
 unfold qU;rw[xE];constructor
 .rintro ⟨i,f,h⟩;have f:=Yo.mp f;obtain⟨s,l⟩:∃ s,ss[i]?=some s:=⟨_,yb f⟩;have d:ss.getD i ""=s:=by rw[Yk,l];rfl
  unfold qf5 at h;rw[d] at h;obtain⟨o,u,e⟩:=yI.mp h;cases e;obtain⟨h1,c⟩:=yp.mp u;obtain⟨q,r⟩:=qeU hw.nd h1;have n:ss[ss.idxOf b]?=some b:=by rw[yb (Yt q),YN]
  show⟨(p i _ _ _ l n).mp r,i,_,yk c,l,n⟩
 .rintro ⟨h,i,j,g,h1,c⟩;show⟨i,Yo.mpr (yc.mp h1).1,?_⟩;have d:ss.getD i ""=a:=by rw[Yk,h1];rfl
  have m:ss.idxOf b=j:=by
   have t:=ye c;show qy hw.nd (by rw[yb (Yt t),YN]) c
  unfold qf5;rw[d];show yI.mpr ⟨b,yp.mpr ⟨?_,yD (by rw[m];show g)⟩,rfl⟩;rw[zQ hw.nd];show yp.mpr ⟨ye c,by rw[m];show(p i j a b h1 c).mpr h⟩
theorem qe5(hw:WOk ss ns):(qU ss ns ss.length).Nodup:=by
 show List.pairwise_flatMap.mpr ⟨fun i _=>?_,?_⟩
 .unfold qf5;show YM.mpr ?_;have nd:((inB ss 0 (ns.getD i 0)).filter fun o=>decide (i<ss.idxOf o)).Nodup:=by rw[zQ hw.nd];show(hw.nd.filter _).filter _
  show nd.imp fun c e=>c (Prod.mk.inj e).2
 .show xk (fun{i j} a b g q d r f e=>?_) (List.pairwise_lt_range (n:=ss.length));have a:=Yo.mp a;have b:=Yo.mp b;unfold qf5 at d f;obtain⟨_,_,rfl⟩:=yI.mp d;obtain⟨_,_,rfl⟩:=yI.mp f;have e:=(Prod.mk.inj e).1;rw[Yk,Yk,yb a,yb b] at e;have:=qy hw.nd (yb a) (by rw[yb b];show congrArg some e.symm);lk
theorem qfN(hw:WOk ss ns)(A:Adj ss ns tps)(t:∀ ab∈tps,ab.1∈ss/\ab.2∈ss/\ab.1≠ab.2)(h:PFn ss tps g){L:LP}(f:∀ a b,(a,b)∈L↔(a,b)∈qU ss ns ss.length/\g a=some b)(H:L.Sublist (qU ss ns ss.length)):PGo ss tps L/\pt L=g:=by
 have mem:∀ q∈L,g q.1=some q.2/\tA tps q.1 q.2/\∃ i j:Nat,i<j/\ss[i]?=some q.1/\ss[j]?=some q.2:=fun q c=>by
  obtain⟨h1,G⟩:=(f q.1 q.2).mp c;show⟨G,(zr hw A).mp h1⟩
 have inn:∀{a b:Str},tA tps a b->a∈ss/\b∈ss/\a≠b:=fun z=>z.elim (fun y=>t _ y) fun y=>⟨(t _ y).2.1,(t _ y).1,(t _ y).2.2.symm⟩
 have nd:(qz L).Nodup:=by
  show qce (fun q c=>(inn (mem q c).2.1).2.2) (xk (fun{q r} c I n=>?_) (H.nodup (qe5 hw)));obtain⟨d,_,i,j,l1,o,p⟩:=mem q c;obtain⟨x,_,K,M,l2,D,E⟩:=mem r I;have w:=h.sym _ _ d;have F:=h.sym _ _ x;show⟨fun z=>?_,fun z=>?_,fun z=>?_,fun z=>?_⟩
  .rw [z,x] at d;show n (Xd z (ym d).symm)
  .rw [z,F] at d;have e:=ym d;rw[z] at o;rw[<- e] at p;have:=qy hw.nd o E;have:=qy hw.nd p D;lk
  .rw [z,x] at w;have e:=ym w;rw[z] at p;rw[<- e] at o;have:=qy hw.nd o E;have:=qy hw.nd p D;lk
  .rw [z,F] at w;show n (Xd (ym w).symm z)
 have C:∀ q∈L,(q∈tps\/(q.2,q.1)∈tps)/\q.1∈ss/\q.2∈ss/\q.1≠q.2:=fun q c=>⟨(mem q c).2.1,inn (mem q c).2.1⟩
 have hl:L.length<=30:=by
  have:=qcs (l:=qz L) (m:=ss) nd fun s v=>by
   obtain⟨q,c,v⟩:=xE.mp v;simp only[yx,Yb,YH] at v;rcases v with rfl | rfl
   .show(C q c).2.1
   .show(C q c).2.2.1
  rw[qaH] at this;have:=hw.few;lk
 show⟨⟨C,nd,hl⟩,funext fun a=>qe0 fun b=>?_⟩;rw[qeY nd];constructor
 .rintro (z | z)
  .show((f _ _).mp z).2
  .show h.sym _ _ ((f _ _).mp z).2
 .intro e;obtain⟨m1,J,ne⟩:=inn (h.tie _ _ e);obtain⟨i,B⟩:=yf m1;obtain⟨j,u⟩:=yf J;rcases xv i j with l | l | l
  .show .inl ((f _ _).mpr ⟨(zr hw A).mpr ⟨h.tie _ _ e,i,j,l,B,u⟩,e⟩)
  .subst l;rw[B] at u;show absurd (ym u) ne
  .show .inr ((f _ _).mpr ⟨(zr hw A).mpr ⟨(h.tie _ _ e).symm,j,i,l,u,B⟩,h.sym _ _ e⟩)
theorem tps_ok(hw:WOk ss ns)(c:Adj ss ns tps)(d:∀ ab∈tps,ab.1∈ss/\ab.2∈ss/\ab.1≠ab.2)(h:PGo ss tps qs):PGo ss tps (qbW (qU ss ns ss.length) qs)/\pt (qbW (qU ss ns ss.length) qs)=pt qs:=
 qfN hw c d h.fn (fun a b=>by unfold qbW;rw[yp,yE]) kA
end
theorem qe6{f:Str->Option Str}(h:TurnR f rs):∃ g:Str->Option Str,∀ a b,g a=some b↔flipR f rs a b:=
 ⟨fun a=>@dite _ (∃ b,flipR f rs a b) (Classical.propDecidable _) (fun z=>some z.choose) fun _=>none,fun a b=>by
  dsimp only;split
  .rename_i z
   show⟨fun e=>by rw[<- ym e];show z.choose_spec,fun e=>congrArg some (z.choose_spec.one h e)⟩
  .rename_i z
   show⟨(fun e=>by cases e),fun e=>absurd ⟨b,e⟩ z⟩⟩
section
variable{ss:LS}{tps qs:LP}{f g:Str->Option Str}{rs:LS}
theorem qe7(h:TurnR f rs)(i:PFn ss tps f)(d:∀ a b,adjR rs a b->tA tps a b)(c:∀ a b,g a=some b↔flipR f rs a b):PFn ss tps g:=
 ⟨fun a b e=>(c _ _).mpr (((c _ _).mp e).symm h),fun a b e=>((c _ _).mp e).elim (fun z=>i.tie _ _ z.2) fun z=>d _ _ z.1⟩
theorem qec(h:TurnR f rs)(i:∀ a b,g a=some b↔flipR f rs a b)(q:ss.Nodup)(e:∀ s∈rs,s∈ss)(c:rs[0]?=some a)(d:rs[rs.length-1]?=some b):qaD g ss+2=qaD f ss+(if (f a).isSome then 0 else 2)+(if (f b).isSome then 0 else 2):=by
 have C:=h.two;have l:=h.again i;unfold qaD;rw[qde q h.nd e,qde (p:=fun s=>(f s).isSome) q h.nd e];have o:=qe4 h c d;have j:=qe4 l c d
 have B:(ss.filter fun s=>(g s).isSome&&!decide (s∈rs))=ss.filter fun s=>(f s).isSome&&!decide (s∈rs):=Yx fun s _=>by
  by_cases z:s∈rs
  .rw [yD z];simp
  .have:g s=f s:=qe0 fun b=>by
    rw[i];show⟨fun y=>y.elim (fun x=>x.2) fun x=>absurd x.1.mem.1 z,fun y=>.inl ⟨z,y⟩⟩
   rw[this]
 rw[B];obtain⟨t,m⟩:∃ t,rs[1]?=some t:=⟨_,yb (by lk)⟩;obtain⟨u,n⟩:∃ u,rs[rs.length-2]?=some u:=⟨_,yb (by lk)⟩;have r:=qeb h i ⟨0,.inl ⟨c,m⟩⟩ (h.fst a t c m) (l.fst a t c m);have v:=qeb h i (a:=b) (t:=u) ⟨rs.length-2,.inr ⟨n,by rw[show rs.length-2+1=rs.length-1 by lk];show d⟩⟩ (h.lst b u d n) (l.lst b u d n);rw[r,v] at j;generalize (rs.filter fun s=>(g s).isSome).length=D at j ⊢;generalize (rs.filter fun s=>(f s).isSome).length=E at o ⊢;cases w:(f a).isSome<;>cases A:(f b).isSome<;>rw[w,A] at o j<;>simp at o j ⊢<;>lk
theorem qcf(c:∀ a b,f a=some b->f b=some a)(nd:rs.Nodup)(d:2<=rs.length)(st:Turns A f rs)(h:∀ s,rs[0]?=some s->f s=none)(tl:∀ s t,rs[rs.length-1]?=some s->rs[rs.length-2]?=some t->f s=none\/f s=some t):TurnR f rs:=by
 show⟨nd,d,c,fun j r s t i h1 l=>?_,fun s t h1 _=>.inl (h s h1),tl⟩;have e:=(st j r s i h1).2;have g:=(st (j+1) s t h1 l).2;have:f s=some r↔f r=some s:=⟨fun z=>c _ _ z,fun z=>c _ _ z⟩;rw[this,e,g];lk
theorem qdf(st:Turns (tA tps) f rs):∀ a b,adjR rs a b->tA tps a b:=fun a b h=>by
 obtain⟨j,⟨h1,c⟩ | ⟨h1,c⟩⟩:=h
 .show(st j _ _ h1 c).1
 .show(st j _ _ h1 c).1.symm
theorem Aug.row(h:Aug (tA tps) (pt qs) rs)(hl:rs.length<=1000)(c:∀ ab∈tps,ab.1∈ss/\ab.2∈ss/\ab.1≠ab.2):RowG ss tps qs rs:=by
 show⟨h.nd,h.two,hl,fun r n=>?_,fun j ab e=>?_,h.hd,h.tl⟩
 .obtain⟨i,d⟩:=yf n;have m:=(yc.mp d).1;have q:=h.two;have inn:∀{a b:Str},tA tps a b->a∈ss/\b∈ss:=fun z=>z.elim (fun y=>⟨(c _ y).1,(c _ y).2.1⟩) fun y=>⟨(c _ y).2.1,(c _ y).1⟩;by_cases l:i+1<rs.length
  .show(inn (h.st i r _ d (yb l)).1).1
  .show(inn (h.st (i-1) _ r (yb (by lk)) (by rw[show i-1+1=i by lk];show d)).1).2
 .obtain⟨f,g⟩:=stp_at.mp e;obtain⟨o,p⟩:=h.st j _ _ f g;show⟨o,Yq.mpr p⟩
theorem Aug.turn(h:Aug (tA tps) (pt qs) rs)(c:∀ a b,pt qs a=some b->pt qs b=some a):TurnR (pt qs) rs:=
 qcf c h.nd h.two h.st h.hd fun s t e _=>.inl (h.tl s e)
theorem qe8(hw:WOk ss ns)(n:Adj ss ns tps)(f:∀ ab∈tps,ab.1∈ss/\ab.2∈ss/\ab.1≠ab.2)(e:PGo ss tps qs)(h:Aug (tA tps) (pt qs) rs)(hl:rs.length<=1000):PGo ss tps (flT (qU ss ns ss.length) qs rs)/\(flT (qU ss ns ss.length) qs rs).length=qs.length+1:=by
 have c:=h.turn e.fn.sym;obtain⟨g,d⟩:=qe6 c;obtain⟨l,o⟩:=qfN hw n f (qe7 c e.fn (qdf h.st) d) (L:=flT (qU ss ns ss.length) qs rs) (fun a b=>by rw[flT_flip c,d]) kA;show⟨l,?_⟩;have p:=e.cnt hw.nd;have m:=l.cnt hw.nd;rw[o] at m;have q:=h.two;obtain⟨a,i⟩:∃ t,rs[0]?=some t:=⟨_,yb (by lk)⟩;obtain⟨b,j⟩:∃ t,rs[rs.length-1]?=some t:=⟨_,yb (by lk)⟩;have:=qec c d hw.nd (h.row hl f).inn i j;rw[h.hd a i,h.tl b j] at this;simp at this;lk
end
theorem Kt:FnScope ["web","pairs","now","rows","row"] wqf (qg jP):=fS
def MxF(ss:LS)(tps qs:LP):Prop:=∃ S:FS,Fn (tA tps) (pt qs) S ss
structure Wt(cw:Addr)(H:Hp)(x:Addr)(ss:LS)(ns:LN)(tps:LP):Prop where
 web:WebAt cw H x ss ns
 adj:Adj ss ns tps
 ok:∀ ab∈tps,ab.1∈ss/\ab.2∈ss/\ab.1≠ab.2
theorem Wt.same(h:Wt cw H x ss ns tps)(s:L2.Same H H'):Wt cw H' x ss ns tps:=⟨h.web.same s,h.adj,h.ok⟩
theorem Wt.wok(h:Wt cw H x ss ns tps):WOk ss ns:=by obtain⟨_,_,_,_,_,_,_,_,z⟩:=h.web;show z
theorem Wt.wb(h:Wt cw H x ss ns tps)(g:PGo ss tps qs):Wb (tA tps) ss qs:=by
 show⟨⟨fun z=>Or.symm z,fun z e=>?_,fun{a b} e=>g.fn.sym a b e,fun{a b} e=>g.fn.tie a b e⟩,fun a b z=>z.elim (fun y=>(h.ok _ y).1) fun y=>(h.ok _ y).2.1,g.nd,h.wok.few,h.wok.nd⟩;rcases z with z | z
 .show(h.ok _ z).2.2 e
 .show(h.ok _ z).2.2 e.symm
theorem Wt.bes(h:Wt cw H x ss ns tps):∀(j:Nat) z u,ss[j]?=some z->(u∈inB ss 0 (ns.getD j 0)↔tA tps z u):=fun j z u e=>by
 rw[zQ h.wok.nd,yp];constructor
 .rintro ⟨h1,b⟩;show(h.adj j _ z u e (by rw[yb (Yt h1),YN])).mp b
 .intro t;have a:u∈ss:=t.elim (fun y=>(h.ok _ y).2.1) fun y=>(h.ok _ y).1;show⟨a,(h.adj j _ z u e (by rw[yb (Yt a),YN])).mpr t⟩
theorem qgH{c:Addr}{a:Fo}(h:FoD c cw H0 H a ss ns qs S dn wt .non (tA tps))(W:Wb (tA tps) ss qs):Fn (tA tps) (pt qs) S ss:=by
 rcases h.en with⟨_,rfl,I,C,sg⟩ | ⟨t,r,e,_⟩
 .have b:∀ v,v∈dn↔S.rows v≠none:=fun v=>by have:=h.fo.evi v;rwa[Ye] at this
  show⟨I,W.gr,W.inn,W.nd,fun v u hv d=>(C.cl v u ((b v).mpr hv) d).imp id fun z=>⟨z.1,Yh fun y=>z.2 ((b u).mpr y)⟩,sg,fun v hv=>h.fo.evs v ((h.fo.evi v).mpr hv)⟩
 .cases e
def FRow(ss:LS)(tps qs:LP)(H:Hp)(v:V)(H':Hp):Prop:=L2.Same H H'/\((v=.non/\MxF ss tps qs)\/∃(r:Addr) (rs:LS),v=.ref r/\H r=none/\H' r=some (.lst (rs.map V.str))/\rs.length<=1000/\Aug (tA tps) (pt qs) rs)
inductive spGf(cw:Addr)(vs:List V)(H:Hp)(Q:VK)(E:XK):Prop|mk (x l:Addr) (ss:LS) (ns:LN) (us:LQ) (tps qs:LP) (_:vs=[.ref x,.ref l]) (_:Wt cw H x ss ns tps) (_:PL H l us qs) (_:PGo ss tps qs) (_:∀(t l2 r2:Addr) (ls:LQ) (ws:List V) (rs:LP) (H':Hp),L2.Same H H'->H' t=some (.tup [.ref l2,.ref r2])->PL H' l2 ls rs->H' r2=some (.lst ws)->rs.length=qs.length+ws.length->PGo ss tps rs->MxF ss tps rs->Q (.ref t) H')
theorem qf8{y:Addr}{Q:VK}(W:Wt cw G x ss ns tps)(n:PL G l us qs)(b:PGo ss tps qs)(f:G y=none)(i:G dx=none)(d:dx≠y)
  (h:∀ H0 H2 a S dn wt lo,a.x=y->FoD (cc 9) cw H0 H2 a ss ns qs S dn wt lo (tA tps)->L2.Same G H2->Q .non H2):spFi cc cw [.ref y,.ref x,.ref l] (upd (upd G dx (.own y)) y (.ins (cc 9) dx [])) Q E:=by
 have j:=qD (qD (Sr G) (o:=.own y) i) (o:=.ins (cc 9) dx []) (show upd G dx (.own y) y=none by rw[qf (Ym d)];show f);show⟨y,dx,x,l,ss,ns,us,tps,qs,tA tps,rfl,qb,W.web.same j,W.adj,W.wb b,W.wok.nm,W.bes,n.same j,b.few,b.inn,fun H0 H' a S dn wt lo m _ g p=>h H0 H' a S dn wt lo m g fun c o e=>?_⟩;show g.fo.sm c o (p c o ?_);rw[qab (fun z=>by rw[z,f] at e;cases e),qf (fun z=>by rw[z,f] at e;cases e),qf (fun z=>by rw[z,i] at e;cases e)];show e
theorem qhq{a:Fo}{Q:VK}(d:FoD (cc 9) cw H0 H2 a ss ns qs S dn wt lo (tA tps))(i:Wb (tA tps) ss qs)(h:∀ v H',FRow ss tps qs H2 v H'->Q v H'):spFr cc cw [.ref a.x] H2 Q E:=by
 show⟨H0,a,ss,ns,qs,S,dn,wt,lo,_,rfl,d,fun e=>?_,fun t r e f g l hl=>?_⟩
 .subst e;show h _ _ ⟨L2.Same.refl _,.inl ⟨rfl,S,qgH d i⟩⟩
 .show h _ _ ⟨qD (Sr _) hl,.inr ⟨l,r,rfl,hl,qb,?_,g⟩⟩;rcases d.en with⟨b,_⟩ | ⟨t',m,b,c,_,_,j⟩
  .rw [e] at b;cases b
  .rw [e] at b;cases b;rw[f] at c;have:=congrArg List.length (show r.map V.str=m.map V.str by injection (ym c));rw[ya,ya] at this;lk
theorem ok_gf(F:Fun K "greatest_from" "greatest_from" jP f fd)(T:Txt K mg cc cw)(uY:wq5 10 "told_pairs" wqf (spTp cw))(uk:wq8 10 (cc 9) "Forest" wqA (spFi cc cw))(uu:wq6 1 (cc 9) "row" wqh (spFr cc cw))(Ux:wq5 12 "turned" wq0 (spTu cw)):wq7 13 f fd wqf (spGf cw):=by
 show F.ok Kt fun _ _ _ _ H vs Q E L h=>?_
 .obtain⟨x,l,ss,ns,us,tps,qs,rfl,W,hP,hG,q⟩:=h;have hu:=jX L;show⟨_,(qc (qk (i:=2) Kt.nd rfl (yH rfl) (qq uY (hmR L) qA (qa (pv 0) (qa (pv 1) qd))))
 (qc (qk (i:=3) Kt.nd rfl (yH rfl) (qS qd))
 (qc (qk (i:=4) Kt.nd rfl (yH rfl) (jg uu (hmR L) (qaW uk (hmR L) (qa (pv 0) (qa (pv 2) qd)))))
 (qc (qao yS (qj qdr (pv 4) qag (qx _))
 (qc (qP (qbl (K:=K) rfl yM Yc Yd qN (pv 3) (qa (pv 4) qd)))
 (qc (qk (i:=2) Kt.nd rfl (yH rfl) (qq Ux (hmR L) qA (qa (pv 0) (qa (pv 2) (qa (pv 4) qd)))))
 (qe (qk (i:=4) Kt.nd rfl (yH rfl) (jg uu (hmR L) (qaW uk (hmR L) (qa (pv 0) (qa (pv 2) qd)))))))))
 (qe (qo (jU (qa (pv 2) (qa (pv 3) qd))))))))),?_⟩
  apply⟨x,l,ss,ns,us,tps,qs,rfl,W.web,W.adj,hP,hG,fun l1 ae H1 s1 aw D _ hA1=>?_⟩;apply⟨by decide,fun c M=>?_⟩;have s2:=qD (Sr H1) (o:=.lst []) M;have d:upd H1 c (.lst []) c=some (.lst []):=qb;have W2:=W.same (s1.trans s2);have s:=tps_ok W.wok W.adj W.ok hG
  have ac:(qbW (qU ss ns ss.length) qs).length=qs.length+0:=by
   have c1:=hG.cnt W.wok.nd;have c2:=s.1.cnt W.wok.nd;rw[s.2] at c2;lk
  have j:PL (upd H1 c (.lst [])) l1 ae (qbW (qU ss ns ss.length) qs):=⟨s2 _ _ D,hA1.mono fun _ _ z=>s2 _ _ z.2.2⟩;have ah:=s1.trans s2;generalize upd H1 c (.lst [])=G at ah d W2 j;generalize qbW (qU ss ns ss.length) qs=ps at j s ac;replace s:=s.1;apply fun y dx hy C I=>qf8 W2 j s hy C I fun H0 H3 a S dn wt lo ea hD s3=>?_;subst ea;obtain⟨fx,ff,aj,_,_,_,ak⟩:=id hD.fo.obj;show⟨rfl,a.x,fx,ff,rfl,aj,ak _ (by room),?_⟩;apply qhq hD (W2.wb s) fun v H4 hv=>?_;have aq:=ah.trans s3;have ad:H c=none:=s1.free M;have ag:l1≠c:=fun e=>by rw[e,M] at D;cases D
  ext;obtain⟨Wv,B⟩:∃ Wv:Nat->L2.St->Hp->Prop,Wv=fun m σ J=>∃(p:Addr) (us:LQ) (ps:LP) (g:List V) (v:V),σ=[some (.ref x),some (.ref l),some (.ref p),some (.ref c),some v]/\L2.Same H J/\PL J p us ps/\p≠c/\PGo ss tps ps/\J c=some (.lst g)/\ps.length=qs.length+g.length/\m=8-ps.length /\
   ((v=.non/\MxF ss tps ps)\/∃(r:Addr) (rs:LS),v=.ref r/\r≠c/\J r=some (.lst (rs.map V.str))/\rs.length<=1000/\Aug (tA tps) (pt ps) rs):=⟨_,rfl⟩
  show⟨Wv,⟨_,by
   rw[B];show⟨l1,ae,ps,[],v,rfl,aq.trans hv.1,j.same (s3.trans hv.1),ag,s,hv.1 _ _ (s3 _ _ d),ac,rfl,hv.2.imp id ?_⟩;rintro⟨r,rs,e1,N,e3,e4,e5⟩;show⟨r,rs,e1,(fun z=>by rw[z,s3 _ _ d] at N;cases N),e3,e4,e5⟩⟩,fun m σ J aa=>?_⟩
  rw[B] at aa;obtain⟨p,us,ps,g,v,rfl,sJ,A,ao,gJ,d,hc,hm,hv⟩:=aa;ext
  have as:2*ps.length<=14:=by
   have:=gJ.cnt W.wok.nd;have h2:qaD (pt ps) ss<=ss.length:=yF _ _;have:=W.wok.few;lk
  rcases hv with⟨rfl,mx⟩ | ⟨r,rs,rfl,nr,er,hl,au⟩
  .show⟨rfl,_,rfl,qL (fun h=>by simp at h) fun _=>?_⟩;apply⟨wqqb,fun t ht=>?_⟩;have s9:=qD (Sr J) (o:=.tup [.ref p,.ref c]) ht;show q t p c us g ps _ (sJ.trans s9) qb (A.same s9) (s9 _ _ d) hc gJ mx
  .show⟨rfl,_,rfl,qad ⟨fun ar H'=>∃ m',m'<m/\Wv m' ar H',fun _ _ z=>z,?_⟩⟩;apply⟨.inl ⟨rfl,_,SqL.of d⟩,?_⟩;apply⟨c,_,_,rfl,rfl,d,qi (by lk),?_⟩;have sU:=qaC sJ (o:=.lst (g++[.ref r])) ad;have Z:PL (upd J c (.lst (g++[.ref r]))) p us ps:=⟨by rw[qf ao];show A.1,A.2.mono fun t ab z=>by rw[qf (qaL z d (fun e=>by cases e))];show z⟩;have R:upd J c (.lst (g++[.ref r])) r=some (.lst (rs.map V.str)):=by rw[qf nr];show er
   have u:upd J c (.lst (g++[.ref r])) c=some (.lst (g++[.ref r])):=qb;generalize upd J c (.lst (g++[.ref r]))=G1 at sU Z R u ⊢;have WU:=W.same sU;apply⟨x,p,r,ss,ns,us,tps,ps,rs,rfl,⟨WU.web,WU.adj,Z,gJ,R,au.row hl W.ok⟩,fun l3 af H5 s5 n an _ U=>?_⟩;obtain⟨g3,c3⟩:=qe8 W.wok W.adj W.ok gJ au hl;generalize flT (qU ss ns ss.length) ps rs=p3 at U g3 c3;have n3:l3≠c:=fun e=>by rw[e,u] at n;cases n
   have Y:PL H5 l3 af p3:=⟨an,U.mono fun _ _ z=>z.2.2⟩;have ai:=sU.trans s5;have W5:=W.same ai;have O:=s5 _ _ u;apply fun y dx hy C I=>qf8 W5 Y g3 hy C I fun H6 H7 b S5 av ay ax eb X s7=>?_;subst eb;obtain⟨fy,fg,al,_,_,_,am⟩:=id X.fo.obj;show⟨rfl,b.x,fy,fg,rfl,al,am _ (by room),?_⟩;apply qhq X (W5.wb g3) fun v H8 hv=>?_;apply⟨8-p3.length,by lk,?_⟩;rw[B];show⟨l3,af,p3,g++[.ref r],v,rfl,(ai.trans s7).trans hv.1,Y.same (s7.trans hv.1),n3,g3,hv.1 _ _ (s7 _ _ O),by rw[c3,hc,yt];rfl,rfl,hv.2.imp id ?_⟩;rintro⟨r',ap,e1,N,e3,e4,e5⟩;show⟨r',ap,e1,(fun z=>by rw[z,s7 _ _ O] at N;cases N),e3,e4,e5⟩
theorem u7:FnScope wqB wqB (qg qax):=fS
theorem u8:FnScope wqB wqB (qg qay):=fS
inductive spGr(cw:Addr)(vs:List V)(H:Hp)(Q:VK)(E:XK):Prop|mk (x:Addr) (ss:LS) (ns:LN) (tps:LP) (_:vs=[.ref x]) (_:Wt cw H x ss ns tps) (_:∀(l:Addr) (ls:LQ) (rs:LP) (H':Hp),L2.Same H H'->PL H' l ls rs->PGo ss tps rs->MxF ss tps rs->Q (.ref l) H')
inductive spCo(cw:Addr)(vs:List V)(H:Hp)(Q:VK)(E:XK):Prop|mk (x:Addr) (ss:LS) (ns:LN) (tps:LP) (_:vs=[.ref x]) (_:Wt cw H x ss ns tps) (_:∀(rs:LP) (H':Hp),L2.Same H H'->PGo ss tps rs->MxF ss tps rs->Q (.int rs.length) H')
theorem ok_gr(F:Fun K "greatest" "greatest" qax f fd)(T:Txt K mg cc cw)(p:wq5 13 "greatest_from" wqf (spGf cw)):wq7 14 f fd wqB (spGr cw):=by
 show F.ok u7 fun _ _ _ _ H vs Q E a h=>?_
 .obtain⟨x,ss,ns,tps,rfl,W,q⟩:=h;have i:=jX a;show⟨_,(qe (qo (qr (qt (K:=K) rfl i) (qq p (hmR a) qA (qa (pv 0) (qa (qS qd) qd))) qh (fun _ _=>rfl)))),?_⟩;apply⟨by decide,fun l hl=>?_⟩;have b:=qD (Sr H) (o:=.lst []) hl;apply⟨x,l,ss,ns,[],tps,[],rfl,W.same b,⟨qb,.nil⟩,⟨(fun q h=>by cases h),Kh,by decide⟩,fun t l2 r m s rs H' n c g _ _ d e=>?_⟩;show .inl (qaV c (v:=.ref l2) (qv (j:=0) rfl) (q l2 m rs H' (b.trans n) g d e))
theorem ok_co(F:Fun K "count_of" "count_of" qay f fd)(T:Txt K mg cc cw)(c:wq5 14 "greatest" wqB (spGr cw)):wq7 15 f fd wqB (spCo cw):=by
 show F.ok u8 fun _ _ _ _ H vs Q E b h=>?_
 .obtain⟨x,ss,ns,tps,rfl,W,q⟩:=h;have i:=jX b;show⟨_,(qe (qo (qp (jL (K:=K) rfl) rfl T.b_len YE (qa (qq c (hmR b) qA (qa (pv 0) qd)) qd)))),?_⟩;apply⟨x,ss,ns,tps,rfl,W,fun l j rs H' g a d e=>?_⟩;show zq a.1 ?_;rw[ya,a.2.len];show q rs H' g d e
def tB(tps:LP)(a b:Str):Bool:=decide ((a,b)∈tps)||decide ((b,a)∈tps)
theorem tB_iff:tB tps a b=true↔tA tps a b:=by
 unfold tB tA;rw[YJ,yE,yE]
def del(l:LS)(y:Str):LS:=l.filter fun a=>!decide (a=y)
def mo(tps:LP):Nat->LS->Nat
 | 0,_=>0
 | _,[]=>0
 | n+1,x::r=>(r.filter (tB tps x)).foldl (fun m y=>max m (1+mo tps n (del r y))) (mo tps n r)
theorem qbv(h:α->Nat):∀(L:List α) (i:Nat),i<=L.foldl (fun m y=>max m (h y)) i/\(∀ y∈L,h y<=L.foldl (fun m y=>max m (h y)) i)/\(L.foldl (fun m y=>max m (h y)) i=i\/∃ y∈L,L.foldl (fun m y=>max m (h y)) i=h y)
 | [],i=>⟨yh _,(fun y hy=>by cases hy),.inl rfl⟩
 | a::r,i=>by
  obtain⟨h1,b,c⟩:=qbv h r (max i (h a));rw[List.foldl_cons];show⟨yi (Kc _ _) h1,fun y hy=>?_,?_⟩
  .rcases yx.mp hy with rfl | hy
   .show yi (Nat.le_max_right _ _) h1
   .show b y hy
  .rcases c with z | ⟨y,hy,z⟩
   .rw [z];rcases Nat.le_total i (h a) with k | k
    .show .inr ⟨a,yU,Nat.max_eq_right k⟩
    .show .inl (Nat.max_eq_left k)
   .show .inr ⟨y,yC _ hy,z⟩
structure Mt(tps:LP)(l:LS)(f:Str->Option Str):Prop where
 sym:∀ a b,f a=some b->f b=some a
 tie:∀ a b,f a=some b->tA tps a b
 inn:∀ a b,f a=some b->a∈l
theorem qaz{f:Str->Option Str}{x:Str}{r:LS}:qaD f (x::r)=qaD f r+(if (f x).isSome=true then 1 else 0):=by
 unfold qaD;rw[yL];split
 .rw [yJ]
 .rfl
theorem qbX{f:Str->Option Str}{l:LS}(h:∀ s∈l,(f s).isSome=(g s).isSome):qaD f l=qaD g l:=by
 unfold qaD;rw[Yx h]
theorem mem_del{l:LS}:a∈del l y↔a∈l/\a≠y:=by
 unfold del;rw[yp,xU,Xi]
theorem zK{f:Str->Option Str}:∀{r:LS},r.Nodup->y∈r->qaD f r=qaD f (del r y)+(if (f y).isSome=true then 1 else 0)
 | [],_,h=>by cases h
 | x::r,hn,h=>by
  obtain⟨d,g⟩:=yo.mp hn;by_cases e:x=y
  .subst e
   have:del (x::r) x=r:=by
    unfold del;rw[yL,yB (by rw[yD rfl];decide)];show kz.mpr fun a b=>by rw[yl (fun z=>d (by rw[<- z];show b))];rfl
   rw[this,qaz]
  .have c:=(yx.mp h).resolve_left (Ym e);have:del (x::r) y=x::del r y:=by unfold del;rw[yL,yG (by rw[yl e];rfl)]
   rw[this,qaz,qaz,zK g c];lk
theorem qbY(l:LS)(y:Str):(del l y).length<=l.length:=yF _ _
section
variable{tps:LP}
theorem qb3(i:∀ a b,tA tps a b->a≠b):∀(n:Nat) {l:LS} {f:Str->Option Str},l.length<=n->l.Nodup->Mt tps l f->qaD f l<=2*mo tps n l
 | n,[],f,_,_,_=>YS _
 | 0,x::r,f,h,_,_=>by simp at h
 | n+1,x::r,f,h,hn,hf=>by
  obtain⟨A,o⟩:=yo.mp hn;have hl:r.length<=n:=by simpa using h
  obtain⟨B,v,_⟩:=qbv (fun y=>1+mo tps n (del r y)) (r.filter (tB tps x)) (mo tps n r);rw[qaz];show _<=2*(r.filter (tB tps x)).foldl (fun m y=>max m (1+mo tps n (del r y))) (mo tps n r)
  cases e:f x with
  | none =>
   have:=qb3 i n hl o (f:=f) ⟨hf.sym,hf.tie,fun a b z=>(yx.mp (hf.inn a b z)).resolve_left fun y=>by rw[y,e] at z;cases z⟩;simp only[kG,YX,Xw];lk
  | some y =>
   have j:=i _ _ (hf.tie _ _ e);have d:=hf.sym _ _ e;have p:=(yx.mp (hf.inn y x d)).resolve_left (Ym j);have t:=v y (yp.mpr ⟨p,tB_iff.mpr (hf.tie _ _ e)⟩);have:=qb3 i n (l:=del r y) (f:=fun a=>if a=x\/a=y then none else f a) (yi (qbY r y) hl) (o.filter _) ⟨fun a b z=>?_,fun a b z=>?_,fun a b z=>?_⟩
   .rw [zK o p,d,qbX (g:=fun a=>if a=x\/a=y then none else f a) fun s u=>?_]
    .simp only[XW,XD]
     (try dsimp only at t)
     lk
    .obtain⟨h1,q⟩:=mem_del.mp u;rw[yB (fun z=>z.elim (fun z=>A (by rw[<- z];show h1)) q)]
   ·(try dsimp only at z ⊢)
    split at z
    .cases z
    .rename_i hne
     have c:=hf.sym _ _ z;rw[yB (fun w=>?_)]
     .show c
     .rcases w with w | w
      .rw [w,e] at c;show hne (.inr (ym c).symm)
      .rw [w,d] at c;show hne (.inl (ym c).symm)
   ·(try dsimp only at z)
    split at z
    .cases z
    .show hf.tie _ _ z
   ·(try dsimp only at z)
    split at z
    .cases z
    .rename_i hne
     have:=(yx.mp (hf.inn a b z)).resolve_left fun w=>hne (.inl w);show mem_del.mpr ⟨this,fun w=>hne (.inr w)⟩
theorem qb4(p:∀ a b,tA tps a b->a≠b):∀(n:Nat) {l:LS},l.length<=n->l.Nodup->∃ f,Mt tps l f/\qaD f l=2*mo tps n l
 | n,[],_,_=>⟨fun _=>none,⟨(fun a b z=>by cases z),(fun a b z=>by cases z),(fun a b z=>by cases z)⟩,by cases n<;>rfl⟩
 | 0,x::r,h,_=>by simp at h
 | n+1,x::r,h,hn=>by
  obtain⟨q,t⟩:=yo.mp hn;have hl:r.length<=n:=by simpa using h
  obtain⟨_,_,B⟩:=qbv (fun y=>1+mo tps n (del r y)) (r.filter (tB tps x)) (mo tps n r);show ∃ f,_/\_=2*(r.filter (tB tps x)).foldl (fun m y=>max m (1+mo tps n (del r y))) (mo tps n r);rcases B with z | ⟨y,j,z⟩
  .obtain⟨f,d,c⟩:=qb4 p n hl t;show⟨f,⟨d.sym,d.tie,fun a b e=>yC _ (d.inn a b e)⟩,?_⟩
   have A:f x=none:=by
    cases e:f x with
    | none=>rfl
    | some b=>show absurd (d.inn _ _ e) q
   rw[qaz,A,z,c];rfl
  .obtain⟨j,ty⟩:=yp.mp j;have ty:=tB_iff.mp ty;have i:=p _ _ ty;obtain⟨f,d,c⟩:=qb4 p n (l:=del r y) (yi (qbY r y) hl) (t.filter _)
   have out:∀{a b:Str},f a=some b->a≠x/\a≠y:=fun e=>by
    obtain⟨h1,o⟩:=mem_del.mp (d.inn _ _ e);show⟨fun w=>q (by rw[<- w];show h1),o⟩
   show⟨fun a=>if a=x then some y else if a=y then some x else f a,⟨fun a b e=>?_,fun a b e=>?_,fun a b e=>?_⟩,?_⟩
   ·(try dsimp only at e ⊢)
    split at e
    .cases e;rename_i w;rw[yB (Ym i),yG rfl,w]
    .split at e
     .cases e;rename_i w;rw[yG rfl,w]
     .have u:=d.sym _ _ e;obtain⟨C,D⟩:=out u;rw[yB C,yB D];show u
   ·(try dsimp only at e)
    split at e
    .cases e;rename_i w;rw[w];show ty
    .split at e
     .cases e;rename_i w;rw[w];show Or.symm ty
     .show d.tie _ _ e
   ·(try dsimp only at e)
    split at e
    .rename_i w;rw[w];show yU
    .split at e
     .rename_i w;rw[w];show yC _ j
     .show yC _ (mem_del.mp (d.inn _ _ e)).1
   .rw [qaz,zK t j,yG rfl,yB (Ym i),yG rfl,qbX (g:=f) fun s v=>?_]
    .simp only[XW,XD];rw[c,z];lk
    .obtain⟨h1,o⟩:=mem_del.mp v;rw[yB (fun w=>q (by rw[<- w];show h1)),yB o]
theorem qfx(e:∀ a b,tA tps a b->a≠b){l:LS}(h1:l.length<=n)(i:l.length<=m)(h:l.Nodup):mo tps n l=mo tps m l:=by
 obtain⟨f,j,c⟩:=qb4 e n h1 h;obtain⟨g,o,d⟩:=qb4 e m i h;have:=qb3 e m i h j;have:=qb3 e n h1 h o;lk
variable{ss:LS}{qs:LP}{S:FS}
theorem Mt.gr{f:Str->Option Str}(c:∀ a b,tA tps a b->a≠b)(h:Mt tps ss f):Gr (tA tps) f:=⟨fun z=>Or.symm z,fun z=>c _ _ z,fun{a b} e=>h.sym a b e,fun{a b} e=>h.tie a b e⟩
theorem PGo.mt(g:PGo ss tps qs):Mt tps ss (pt qs):=⟨g.fn.sym,g.fn.tie,fun a b e=>by
 rcases qd9 e with z | z
 .show(g.inn _ z).2.1
 .show(g.inn _ z).2.2.1⟩
theorem qdg(h:∀ a b,tA tps a b->a≠b)(e:ss.Nodup)(g:PGo ss tps qs)(m:MxF ss tps qs):qs.length=mo tps ss.length ss:=by
 obtain⟨S,F⟩:=m;have c:=g.cnt e;have:=qb3 h _ (yh _) e g.mt;obtain⟨f,j,d⟩:=qb4 h _ (yh _) e;have k:=F.most (j.gr h)
 have p:(ss.filter fun u=>!(f u).isSome&&(S.rows u).isSome).length<=(snL f ss).length:=qcs (e.filter _) fun u l=>by
  obtain⟨h1,i⟩:=yp.mp l;show yp.mpr ⟨h1,((yY _ _).mp i).1⟩
 have n:=qac (f:=f) (ss:=ss);have o:=qac (f:=pt qs) (ss:=ss);lk
theorem mo_del_le(i:∀ a b,tA tps a b->a≠b)(j:ss.Nodup)(hv:v∈ss):mo tps (del ss v).length (del ss v)<=mo tps ss.length ss/\mo tps ss.length ss<=mo tps (del ss v).length (del ss v)+1:=by
 constructor
 .obtain⟨f,d,c⟩:=qb4 i _ (yh _) (j.filter (fun a=>!decide (a=v)))
  have n:f v=none:=by
   cases e:f v with
   | none=>rfl
   | some b=>show absurd rfl (mem_del.mp (d.inn _ _ e)).2
  have:=qb3 i _ (yh _) j (f:=f) ⟨d.sym,d.tie,fun a b e=>(mem_del.mp (d.inn a b e)).1⟩;rw[zK j hv,n] at this;simp only[kG,YX,Xw] at this;have t:qaD f (del ss v)=2*mo tps (del ss v).length (del ss v):=c;lk
 .obtain⟨f,d,c⟩:=qb4 i _ (yh _) j;have h:(del ss v).Nodup:=j.filter _;rw[zK j hv] at c
  cases e:f v with
  | none =>
   have:=qb3 i _ (yh _) h (f:=f) ⟨d.sym,d.tie,fun a b z=>mem_del.mpr ⟨d.inn a b z,fun w=>by rw[w,e] at z;cases z⟩⟩;rw[e] at c;simp at c;lk
  | some y =>
   have m:=d.sym _ _ e;have o:=i _ _ (d.tie _ _ e);have p:y∈del ss v:=mem_del.mpr ⟨d.inn _ _ m,Ym o⟩;have:=qb3 i _ (yh _) h (f:=fun a=>if a=v\/a=y then none else f a) ⟨fun a b z=>?_,fun a b z=>?_,fun a b z=>?_⟩
   .rw [zK h p,yG (show y=v\/y=y from .inr rfl)] at this;rw[zK h p,e,m,qbX (g:=fun a=>if a=v\/a=y then none else f a) fun s r=>?_] at c
    .simp at c this;lk
    .obtain⟨h1,q⟩:=mem_del.mp r;rw[yB (fun z=>z.elim (fun z=>(mem_del.mp h1).2 z) q)]
   ·(try dsimp only at z ⊢)
    split at z
    .cases z
    .rename_i hne
     have l:=d.sym _ _ z;rw[yB (fun w=>?_)]
     .show l
     .rcases w with w | w
      .rw [w,e] at l;show hne (.inr (ym l).symm)
      .rw [w,m] at l;show hne (.inl (ym l).symm)
   ·(try dsimp only at z)
    split at z
    .cases z
    .show d.tie _ _ z
   ·(try dsimp only at z)
    split at z
    .cases z
    .rename_i hne
     show mem_del.mpr ⟨d.inn a b z,fun w=>hne (.inl w)⟩
theorem qed(x:∀ a b,tA tps a b->a≠b)(o:ss.Nodup)(g:PGo ss tps qs)(F:Fn (tA tps) (pt qs) S ss)(hv:v∈ss):mo tps (del ss v).length (del ss v)=mo tps ss.length ss↔S.rows v≠none:=by
 have cm:=qdg x o g ⟨S,F⟩;have c:=g.cnt o;have y:(del ss v).Nodup:=o.filter _;constructor
 .intro e J;obtain⟨f,l,d⟩:=qb4 x _ (yh _) y
  have q:f v=none:=by
   cases e:f v with
   | none=>rfl
   | some b=>show absurd rfl (mem_del.mp (l.inn _ _ e)).2
  have U:Mt tps ss f:=⟨l.sym,l.tie,fun a b e=>(mem_del.mp (l.inn a b e)).1⟩;have k:=F.most (U.gr x);have Z:qaD f ss=qaD f (del ss v):=by rw[zK o hv,q];rfl
  have e1:=qac (f:=f) (ss:=ss);have e2:=qac (f:=pt qs) (ss:=ss);have B:v∈snL f ss:=mem_sn.mpr ⟨hv,q⟩
  have W:(ss.filter fun u=>!(f u).isSome&&(S.rows u).isSome).length<=((snL f ss).erase v).length:=qcs (o.filter _) fun u I=>by
   obtain⟨h1,D⟩:=yp.mp I;obtain⟨P,L⟩:=(yY _ _).mp D;show(Xz (fun z=>by rw[z,J] at L;cases L)).mpr (yp.mpr ⟨h1,P⟩)
  rw[YV B] at W;have:=Y2 B;lk
 .intro G;obtain⟨r,G⟩:=some_of G;have m:=F.fi.alt v r G;show xP (mo_del_le x o hv).1 ?_
  suffices h:∃ f,Mt tps ss f/\f v=none/\qaD f ss=qaD (pt qs) ss by
   obtain⟨f,l,C,K⟩:=h;have:=qb3 x _ (yh _) y (f:=f) ⟨l.sym,l.tie,fun a b e=>mem_del.mpr ⟨l.inn a b e,fun w=>by rw[w,C] at e;cases e⟩⟩;rw[zK o hv,C] at K;simp only[kG,YX,Xw] at K;lk
  obtain⟨r0,N⟩:=m.tl;have j:r[r.length-1]?=some v:=by rw[N,yt];simp
  have ho:=m.odd;by_cases h1:r.length=1
  .rw [h1] at j;show⟨pt qs,g.mt,m.hd v j,rfl⟩
  .have D:2<=r.length:=by lk
   have lst:∀ s t,r[r.length-1]?=some s->r[r.length-2]?=some t->pt qs s=some t:=fun s t A H=>by
    have:=(m.st (r.length-2) t s H (by rw[show r.length-2+1=r.length-1 by lk];show A)).2.mpr (by lk);show g.fn.sym _ _ this
   have T:=qcf g.fn.sym m.nd D m.st m.hd fun s t A H=>.inr (lst s t A H);obtain⟨f,l⟩:=qe6 T;have p:=qe7 (ss:=ss) T g.fn (qdf m.st) l;have inn:∀{a b:Str},tA tps a b->a∈ss:=fun z=>F.inn _ _ z
   have E:∀ s∈r,s∈ss:=fun s A=>by
    obtain⟨i,n⟩:=yf A;have R:=(yc.mp n).1;by_cases O:i+1<r.length
    .show inn (m.st i s _ n (yb O)).1
    .rw [show i=r.length-1 by lk,j] at n;rw[<- ym n];show hv
   obtain⟨u,I⟩:∃ u,r[r.length-2]?=some u:=⟨_,yb (by lk)⟩;obtain⟨a,M⟩:∃ a,r[0]?=some a:=⟨_,yb (by lk)⟩
   have C:f v=none:=by
    cases e:f v with
    | none=>rfl
    | some b =>
     rcases(l v b).mp e with⟨z,_⟩ | ⟨X,Y⟩
     .show absurd (ye j) z
     .rcases X.at_ m.nd j with w | ⟨_,w⟩
      .have:=(yc.mp w).1;lk
      .rw [show r.length-1-1=r.length-2 by lk] at w;show absurd (lst v b j w) Y
   show⟨f,⟨p.sym,p.tie,fun a b e=>inn (p.tie a b e)⟩,C,?_⟩;have:=qec T l o E M j;rw[m.hd a M,lst v u j I] at this;simp at this;show this
end
theorem Ul:FnScope wqM wqM (qg qbw):=fS
theorem Ue:FnScope wqW wqW (qg qa3):=fS
theorem K3:FnScope ["_law_purse_here","_law_many_here","_law_digit","_law_number"] wqa (qg qbx):=fS
theorem Um:FnScope wqC wqC (qg qby):=fS
inductive spCe(K:W.Frag)(vs:List V)(H:Hp)(Q:VK)(E:XK):Prop|mk (a:Addr) (ns:LX) (k:Nat) (_:vs=[.ref a,.int (k:Int)]) (_:SqL K H a (ns.map V.int)) (_:k<1000) (_:∀ i:Int,Q (.int i) H)
def Pu(H:Hp)(p:Addr):Prop:=∃ a b c:Int,H p=some (.lst [.int a,.int b,.int c])/\0<=a/\0<=b/\b<2147483629/\0<=c
inductive spPu(vs:List V)(H:Hp)(Q:VK)(E:XK):Prop|mk (c:Int) (_:vs=[.int c]) (_:∀(p:Addr) (H':Hp),L2.Same H H'->H p=none->Pu H' p->Q (.ref p) H')
inductive spTkP(vs:List V)(H:Hp)(Q:VK)(E:XK):Prop|mk (p:Addr) (m:Nat) (_:vs=[.ref p,.int (m:Int)]) (_:Pu H p) (_:0<m) (_:m<1000) (_:∀(d:Nat) (H':Hp),d<m->But p H H'->Pu H' p->Q (.int (d:Int)) H')
inductive spMyP(vs:List V)(H:Hp)(Q:VK)(E:XK):Prop|mk (p:Addr) (m:Nat) (_:vs=[.ref p,.int (m:Int)]) (_:Pu H p) (_:m<=14) (_:∀(d:Nat) (H':Hp),d<=max 8 m->But p H H'->Pu H' p->Q (.int (d:Int)) H')
theorem But.trans7(a:But p H H1)(b:But p H1 H2):But p H H2:=fun c o n e=>b c o n (a c o n e)
theorem But.new7(a:But p H H1)(hl:H1 l=none):But p H (upd H1 l o):=fun c u n e=>by
 have:=a c u n e;have ne:c≠l:=fun z=>by rw[z,hl] at this;cases this
 rw[qf ne];show this
theorem But.free7(a:But p H H1)(b:l≠p)(hl:H1 l=none):H l=none:=by
 cases e:H l with
 | none=>rfl
 | some o=>rw[a l o b e] at hl;cases hl
abbrev iV(k:Nat):V:=.int (k:Int)
theorem ok_ce(F:Fun K "_law_cell" "_law_cell" qbw f fd)(T:Txt K mg cc cw):wq7 1 f fd wqM (spCe K):=by
 show F.ok Ul fun _ _ _ _ H vs Q E d h=>?_
 .obtain⟨a,ns,k,rfl,b,h1,q⟩:=h;have e:=jX d;show⟨_,(qc (qR (qj qeC (pv 1) (qp (jL (K:=K) rfl) rfl T.b_len YE (qa (pv 0) qd)) (qx _)) (qe (qo (qr (qt (K:=K) rfl e) (pv 0) (pv 1) (fun _ _=>rfl)))) qw)
 (qe (qo (qu (j6 (K:=K) rfl) (qu qcZ qh (pv 1)) qh)))),?_⟩
  apply vLenLs b ?_;rw[ya];ext;by_cases c:k<ns.length
  .rw [yD (show(k:Int)<(ns.length:Int) by lk)];show qad ?_;apply .inl (vIxLs b (v:=.int ns[k]) (qv (by rw[yd,yb c];rfl)) ?_);show q _
  .rw [yl (show ¬ (k:Int)<(ns.length:Int) by lk)];show yq ?_;apply qc0 (.inl ⟨by decide,by decide⟩) ?_;apply q _
theorem ok_pu(F:Fun K "_law_purse" "_law_purse" qa3 f fd)(T:Txt K mg cc cw):wq7 1 f fd wqW spPu:=by
 show F.ok Ue fun _ _ _ _ H vs Q E d h=>?_
 .obtain⟨c,rfl,q⟩:=h;show⟨_,(qe (qo (qS (qa (qp (qbI rfl) rfl T.b_max boot_max (qa qh (qa (qu qb7 (pv 0) (qu op_pow qh qh)) qd))) (qa (qu zu (pv 0) qh) (qa qh qd)))))),?_⟩;apply vI ⟨by decide,by decide,by decide⟩ ?_;apply⟨_,_,rfl,?_⟩;apply vI (by decide) ?_;apply⟨by show 3<=sizeLine;decide,fun p a=>?_⟩;have h1:=XU c (show(2147483629:Int)≠0 by decide);have b:=Xp c (show(0:Int)<2147483629 by decide);show q p _ (qD (Sr H) a) a ⟨_,_,_,qb,by split<;>lk,h1,b,by decide⟩
theorem ok_tkp(F:Fun K "_law_take" "_law_take" qbx f fd)(T:Txt K mg cc cw):wq7 1 f fd wqa spTkP:=by
 show F.ok K3 fun _ _ _ _ H vs Q E S h=>?_
 .obtain⟨p,m,rfl,⟨a,b,c,J,A,B,j,hc⟩,W,h1,q⟩:=h;have g:=jX S;have l:(0:Int)<(m:Int):=by lk
  show⟨_,(qc (jI (qu (j6 (K:=K) rfl) (qr (qt (K:=K) rfl g) (pv 0) qh (fun _ _=>rfl)) qh) (jH (pv 0) qh (jJ g)))
 (qc (qR (qj qfq (qr (qt (K:=K) rfl g) (pv 0) qh (fun _ _=>rfl)) qh (qx _)) (qc (qk (i:=2) K3.nd rfl (yH rfl) (qu zu (qr (qt (K:=K) rfl g) (pv 0) qh (fun _ _=>rfl)) (pv 1)))
 (qc (jI (qu qeB (qr (qt (K:=K) rfl g) (pv 0) qh (fun _ _=>rfl)) (pv 1)) (jH (pv 0) qh (jJ g)))
 (qe (qo (pv 2))))) qw)
 (qc (qk (i:=3) K3.nd rfl (yH rfl) (qu zu (qu (j6 (K:=K) rfl) (qu (j6 (K:=K) rfl) (qu qcZ (qr (qt (K:=K) rfl g) (pv 0) qh (fun _ _=>rfl)) qh) (qu qcZ qh (qr (qt (K:=K) rfl g) (pv 0) qh (fun _ _=>rfl)))) qh) qh))
 (qc (qk (i:=3) K3.nd rfl (yH rfl) (qu zu (qu qcZ (pv 3) (pv 3)) qh))
 (qc (qk (i:=3) K3.nd rfl (yH rfl) (qu zu (qu qcZ (qu (j6 (K:=K) rfl) (pv 3) (qu qcZ qh (qr (qt (K:=K) rfl g) (pv 0) qh (fun _ _=>rfl)))) qh) qh))
 (qe (qo (qu zu (qu qeB (qu zu (qu qcZ (pv 3) (pv 3)) qh) qh) (pv 1))))))))),?_⟩
  apply .inl (zN J rfl ?_);apply .inl (qer J rfl ?_);have y:But p H (upd H p (.lst [.int a,.int b,.int (c+1)])):=fun x o n e=>by rw[qf n];show e
  have d:upd H p (.lst [.int a,.int b,.int (c+1)]) p=some (.lst [.int a,.int b,.int (c+1)]):=qb;have N:upd H p (.lst (([V.int a,.int b,.int c]).set (2:Int).toNat (.int (c+1))))=upd H p (.lst [.int a,.int b,.int (c+1)]):=rfl;ext;rw[N];generalize upd H p (.lst [.int a,.int b,.int (c+1)])=H1 at y d;show .inl (zN d rfl ?_);apply qL (fun O=>?_) (fun O=>?_)
  .ext;show .inl (zN d rfl ?_);apply vI l ?_;apply .inl (zN d rfl ?_);apply vI ⟨l,by lk⟩ ?_;apply .inl (qer d rfl ?_);ext;have L:=XU a (show(m:Int)≠0 by lk);have M:=Xp a l;have z:a % (m:Int)=(((a % (m:Int)).toNat:Nat):Int):=by lk
   rw[z];show q _ _ (by lk) (fun x o n e=>by rw[qf n];show y x o n e) ⟨_,_,_,qb,Int.ediv_nonneg A (by lk),B,j,by lk⟩
  .ext;show .inl (zN d rfl ?_);apply qc0 (.inr ⟨by decide,by decide⟩) ?_;apply .inl (zN d rfl ?_);apply qc0 (.inl ⟨by decide,by decide⟩) ?_;apply vI (by decide) ?_;ext;generalize r:(b*48271+7919*(c+1)+11) % 2147483647=t;have C:0<=t:=by rw[<- r];show XU _ (by decide)
   have D:t<2147483647:=by rw[<- r];show Xp _ (by decide)
   show qc0 (.inl ⟨by lk,by lk⟩) ?_;apply vI (by decide) ?_;ext;generalize R:t*t % 2147483629=U;show .inl (zN d rfl ?_);apply qc0 (.inl ⟨by decide,by decide⟩) ?_;apply qc0 (.inr ⟨by decide,by decide⟩) ?_;apply vI (by decide) ?_;ext;generalize s:(U+31*(c+1))*69621 % 2147483587=u;have G:0<=u:=by rw[<- s];show XU _ (by decide)
   have I:u<2147483587:=by rw[<- s];show Xp _ (by decide)
   show qc0 (.inl ⟨by lk,by lk⟩) ?_;apply vI (by decide) ?_;apply vI ⟨by decide,by decide⟩ ?_;apply vI l ?_;generalize u*u % 2147483579 / 8=v;have L:=XU v (show(m:Int)≠0 by lk);have M:=Xp v l;have z:v % (m:Int)=(((v % (m:Int)).toNat:Nat):Int):=by lk
   rw[z];show q _ _ (by lk) y ⟨_,_,_,d,A,B,j,by lk⟩
theorem ok_my(F:Fun K "_law_many" "_law_many" qby f fd)(T:Txt K mg cc cw)(A:wq5 1 "_law_take" wqa spTkP):wq7 2 f fd wqC spMyP:=by
 show F.ok Um fun _ _ _ _ H vs Q E s h=>?_
 .obtain⟨p,m,rfl,N,W,q⟩:=h;have R:=jX s;show⟨_,(qe (qo (qq A (hmR s) qA (qa (pv 0) (qa (qr (qt (K:=K) rfl R) (qS (qa qh (qa qh (qa qh (qa qh (qa qh (qa qh (qa qh (qa (qu (j6 (K:=K) rfl) (pv 1) qh) qd))))))))) (qq A (hmR s) qA (qa (pv 0) (qa qh qd))) (fun _ _=>rfl)) qd))))),?_⟩;ext;obtain⟨a,b,c,G,t⟩:=id N;show⟨by show 8<=sizeLine;decide,fun e g=>?_⟩;have j:p≠e:=fun z=>by rw[<- z,G] at g;cases g
  obtain⟨xs,i⟩:∃ xs:LN,xs=[3,5,7,8,8,9,9,m+1]:=⟨_,rfl⟩;have B:But p H (upd H e (.lst (xs.map iV))):=But.new7 (fun x o _ z=>z) g;have D:upd H e (.lst (xs.map iV)) e=some (.lst (xs.map iV)):=qb;have hB1:Pu (upd H e (.lst (xs.map iV))) p:=⟨a,b,c,by rw[qf j];show G,t⟩;have M:upd H e (.lst [V.int 3,.int 5,.int 7,.int 8,.int 8,.int 9,.int 9,.int ((m:Int)+1)])=upd H e (.lst (xs.map iV)):=by rw[i];rfl
  have u:∀ x∈xs,0<x/\x<=max 8 m+1:=fun x l=>by
   rw[i] at l;simp only[yx,Yb,YH] at l;lk
  have S:xs.length=8:=by rw[i];rfl
  rw[M];generalize upd H e (.lst (xs.map iV))=H1 at B D hB1;apply⟨p,8,rfl,hB1,by decide,by decide,fun d H2 U C n=>?_⟩;obtain⟨x,l⟩:∃ x,xs[d]?=some x:=⟨_,yb (by lk)⟩;have y:=u x (ye l);show .inl (zN (C _ _ j.symm D) (v:=iV x) (qv (by rw[yd,l];rfl)) ?_);apply⟨p,x,rfl,n,y.1,by lk,fun L I O J r=>q L I (by lk) ((B.trans7 C).trans7 J) r⟩
theorem Kx:FnScope wqd wqa (qg qam):=fS
theorem qbZ{X:L2.Cx}{st:List PySem.Stmt}{t:L2.TS}(t':L2.TS)(h:L2.PSs X st t)(k:∀ D σ H,t' D σ H->t D σ H):L2.PSs X st t':=fun a s σ H D I q=>h a s σ H D I (k D σ H q)
def stepsJ:LN:=[1,3,5,7,9,11]
def cJ(first step j:Nat):Nat:=97+(first+step*j) % 26
theorem cJ_sg(first step j:Nat):sg (cJ first step j)=true:=by unfold cJ;show qgE (by lk) (by lk)
theorem qfO{step:Nat}(a:step∈stepsJ){k:Nat}(b:j<14)(c:k<14)(e:cJ first step j=cJ first step k):j=k:=by
 unfold cJ at e;simp only[stepsJ,yx,Yb,YH] at a;rcases a with rfl | rfl | rfl | rfl | rfl | rfl<;>lk
def NmJ(a first step j:Nat)(s:Str):Prop:=zX s=true/\if a=2 then s.cps.toList.head?=some (cJ first step j) else s.cps.toList.getLast?=some (cJ first step j)
theorem NmJ.inj{a step:Nat}(f:step∈stepsJ){k:Nat}(d:j<14)(e:k<14)(h:NmJ a first step j s)(g:NmJ a first step k s):j=k:=by
 have c:=h.2;have b:=g.2;by_cases hw:a=2
 .rw [yG hw] at c b;rw[c] at b;show qfO f d e (ym b)
 .rw [yB hw] at c b;rw[c] at b;show qfO f d e (ym b)
theorem zk(a b:Int):(if false=true then !eqV (V.int a) (V.int b) else eqV (V.int a) (V.int b))=decide (a=b):=by
 rw[yB (by decide)];unfold eqV;by_cases h:a=b<;>simp[h]
inductive spNmJ(vs:List V)(H:Hp)(Q:VK)(E:XK):Prop|mk (p:Addr) (m:Nat) (_:vs=[.ref p,.int (m:Int)]) (_:Pu H p) (_:m<=14) (_:∀(l:Addr) (ss:LS) (H':Hp),But p H H'->Pu H' p->H l=none->l≠p->H' l=some (.lst (ss.map V.str))->NOk ss->ss.length=m->Q (.ref l) H')
theorem Pu.new(h:Pu H p)(hl:H l=none):Pu (upd H l o) p:=by
 obtain⟨a,b,c,e,r⟩:=h;have ne:p≠l:=fun z=>by rw[<- z,e] at hl;cases hl
 show⟨a,b,c,by rw[qf ne];show e,r⟩
theorem Pu.apart(h:Pu H p)(hl:H l=none):l≠p:=fun z=>by obtain⟨a,b,c,e,r⟩:=h;rw[z,e] at hl;cases hl
theorem ok_nmJ(F:Fun K "_law_names" "_law_names" qam f fd)(T:Txt K mg cc cw)(Km:wq5 1 "_law_take" wqa spTkP):wq7 2 f fd wqa spNmJ:=by
 show F.ok Kx fun _ _ _ s H vs Q E hr h=>?_
 .obtain⟨p,m,rfl,hB,hm,q⟩:=h;have hu:=jX hr;obtain⟨TC5,U⟩:∃ t:TS,t=fun D σ H'=>(∀ u H',Q u H'->D.rt u H')/\∃(x7 W X:Option V) (b first step:Nat) (a:Str),σ=[some (.ref p),some (.int (m:Int)),some (.str L26),some (.int (first:Int)),some (.int (step:Int)),some (.int (b:Int)),some (.str a),x7,W,X]/\But p H H'/\Pu H' p/\step∈stepsJ/\a.length=5/\a.cps.toList.all sg=true:=⟨_,rfl⟩;show⟨_,(qc (qk (i:=2) Kx.nd rfl (Y9 rfl) jo)
 (qc (qk (i:=3) Kx.nd rfl (yH rfl) (qq Km (hmR hr) qA (qa (pv 0) (qa qh qd))))
 (qc (qk (i:=4) Kx.nd rfl (yH rfl) (qr (qt (K:=K) rfl hu) (qS (qa qh (qa qh (qa qh (qa qh (qa qh (qa qh qd))))))) (qq Km (hmR hr) qA (qa (pv 0) (qa qh qd))) (fun _ _=>rfl)))
 (qc (qk (i:=5) Kx.nd rfl (yH rfl) (qq Km (hmR hr) qA (qa (pv 0) (qa qh qd))))
 (qc (qk (i:=6) Kx.nd rfl (yH rfl) (qbl (K:=K) rfl PySem.F.plainAttrs_str PySem.F.slot_str_join PySem.F.type_str_join (k_join (K:=K) rfl) jo (qa (q9 (sc:=qg qam) (XN:=wqd) wqP 1 [2,0] rfl rfl rfl (by room) rfl (by room)
  (jl rfl T.b_range (qa qh qd)) (fun _ _ _ _=>(qm (i:=0) (show(wqP:LS).Nodup by room) rfl (yH rfl))) qH
  (fun _ _ _ _=>zy)
  (fun _ _ _ _=>(qr (qt (K:=K) rfl hu) (pv 1) (qq Km (hmR hr) qA (qa (pv 2) (qa qh qd))) (fun _ _=>rfl)))) qd)))
 (qbZ TC5 (qc (qk (i:=7) Kx.nd rfl (yH rfl) (qS qd))
 (qc (qX yS rfl (jl rfl T.b_range (qa (pv 1) qd)) (qm (i:=8) Kx.nd rfl (yH rfl))
 (qc (qk (i:=9) Kx.nd rfl (yH rfl) (qr (qt (K:=K) rfl hu) (pv 2) (qu zu (qu (j6 (K:=K) rfl) (pv 3) (qu qcZ (pv 4) (pv 8))) qh) (fun _ _=>rfl)))
 (qe (qR (qj (jx (K:=K) rfl hu) (pv 5) qh (qx _)) (qe (qP (qbl (K:=K) rfl yM Yc Yd qN (pv 7) (qa (pv 9) qd)))) (qe (qR (qj (jx (K:=K) rfl hu) (pv 5) qh (qx _)) (qe (qP (qbl (K:=K) rfl yM Yc Yd qN (pv 7) (qa (qu (j6 (K:=K) rfl) (jt (qes (K:=K) rfl) (pv 6) jV (jF qh)) (pv 9)) qd)))) (qe (qR (qj (jx (K:=K) rfl hu) (pv 5) qh (qx _)) (qe (qP (qbl (K:=K) rfl yM Yc Yd qN (pv 7) (qa (qu (j6 (K:=K) rfl) (pv 9) (jt (qes (K:=K) rfl) (pv 6) jV (jF (qu zu (pv 8) qh)))) qd)))) (qe (qP (qbl (K:=K) rfl yM Yc Yd qN (pv 7) (qa (qu (j6 (K:=K) rfl) (jt (qes (K:=K) rfl) (pv 6) jV (jF (qu zu (pv 8) qh))) (pv 9)) qd))))))))))))
 (qe (qo (pv 7))))) ?cut5)))))),?_⟩
  case cut5 =>
   intro D σ H1 h;rw[U] at h;obtain⟨hD,x7,W,X,b,first,step,a,rfl,b1,hB1,M,g,y⟩:=h;have lS:a.cps.toList.length=5:=by rw[<- g];simp[Str.length]
   have ac:∀ k,(a.cps.toList.take k).all sg=true:=fun k=>Yw.mpr fun c hc=>Yw.mp y c (List.mem_of_mem_take hc)
   have af:∀ k:Nat,(Txt.slice a none (some (k:Int))).length=min k 5:=fun k=>by
    have:(Txt.slice a none (some (k:Int))).length=(Txt.slice a none (some (k:Int))).cps.toList.length:=by simp[Str.length]
    rw[this,qbg,yQ,lS]
   have as:0<step/\step<=11:=by
    have h:=M;simp only[stepsJ,yx,Yb,YH] at h;lk
   apply⟨wq9,fun l hl=>?_⟩;have ae:=hB1.apart hl;apply⟨(m:Int),rfl,by lk,by lk,?_⟩;rw[y0];show j5 (lo:=0) (n:=m) (fun i σ H'=>∃(ss:LS) (W X:Option V),σ=[some (.ref p),some (.int (m:Int)),some (.str L26),some (.int (first:Int)),some (.int (step:Int)),some (.int (b:Int)),some (.str a),some (.ref l),W,X]/\H'=upd H1 l (.lst (ss.map V.str))/\ss.length=i/\∀(j:Nat) s,ss[j]?=some s->NmJ b first step j s) ⟨[],_,_,rfl,rfl,rfl,fun j s h=>by simp at h⟩ (fun i σ H' hi hp=>?_) fun σ H' hp=>?_
   .obtain⟨ss,W,X,rfl,rfl,I,L⟩:=hp;have A:upd H1 l (.lst (ss.map V.str)) l=some (.lst (ss.map V.str)):=qb;rw[xB];apply qc0 (.inl ⟨by lk,by lk⟩) ?_;apply vI (by decide) ?_;have ec:((first:Int)+(step:Int)*(i:Int)) % 26=(((first+step*i) % 26:Nat):Int):=by lk
    rw[ec];show .inl (qhi (by room) (qfK (by lk) (by lk)) ?_);rw[y0];have ak:97+(first+step*i) % 26=cJ first step i:=rfl;rw[ak];have N:=cJ_sg first step i;generalize R:cJ first step i=B at N
    have O:∀(s:Str),NmJ b first step i s->∃(aa:LS) (W X:Option V),[some (V.ref p),some (.int (m:Int)),some (.str L26),some (.int (first:Int)),some (.int (step:Int)),some (.int (b:Int)),some (.str a),some (.ref l),some (.int (i:Int)),some (V.str ⟨#[B]⟩)]=[some (.ref p),some (.int (m:Int)),some (.str L26),some (.int (first:Int)),some (.int (step:Int)),some (.int (b:Int)),some (.str a),some (.ref l),W,X]/\upd (upd H1 l (.lst (ss.map V.str))) l (.lst (ss.map V.str++[.str s]))=upd H1 l (.lst (aa.map V.str))/\aa.length=i+1/\∀(j:Nat) s,aa[j]?=some s->NmJ b first step j s:=fun s hs=>by
     show⟨ss++[s],_,_,rfl,?_,by rw[yt,I];rfl,fun j s' G=>?_⟩
     .rw [yu];funext c;by_cases hc:c=l
      .subst hc;rw[qb,qb];rfl
      .rw [qf hc,qf hc,qf hc]
     .by_cases al:j<ss.length
      .rw [Yg al] at G;show L j s' G
      .rw [yO (by lk)] at G
       have e0:j-ss.length=0:=by
        have:=(yc.mp G).1;simp only[yJ,YW] at this;lk
       rw[e0] at G;cases G;have:j=i:=by lk
       rw[this];show hs
    have C:(ss.map V.str).length<sizeLine:=by rw[ya];show qi (by lk)
    apply .inl (.inl (.inl ⟨rfl,rfl,?_⟩));rw[zk];apply qL (fun h=>?_) (fun h=>?_)
    .have hw:(b:Int)=0:=yk h;apply⟨.inl ⟨rfl,_,.of A⟩,?_⟩;apply⟨l,_,_,rfl,rfl,A,C,?_⟩;show O _ ⟨qbs rfl (by simp) (by simp) (by simp[N]),?_⟩;rw[yB (by lk),R];rfl
    .have au:(b:Int)≠0:=fun e=>h (yD e);apply .inl (.inl (.inl ⟨rfl,rfl,?_⟩));rw[zk];apply qL (fun h=>?_) (fun h=>?_)
     .have hw:(b:Int)=1:=yk h;apply⟨.inl ⟨rfl,_,.of A⟩,?_⟩;apply qg2 (yi (kB g) (by decide)) ?_;have h2:=af 2;have t2:=qbg a 2;rw[show((2:Nat):Int)=2 from rfl] at h2 t2;apply qf3 (by rw[h2];show _+1<=sizeLine;show yX (qi (by lk))) ?_;apply⟨l,_,_,rfl,rfl,A,C,?_⟩;have S:(Txt.slice a none (some 2)++(⟨#[B]⟩:Str)).cps.toList=a.cps.toList.take 2++[B]:=by rw[qa1,t2]
      show O _ ⟨qbs S (by simp) (by simp[lS]) (by rw[kq,ac];simp[N]),?_⟩;rw[yB (by lk),R,S,XA];rfl
     .have av:(b:Int)≠1:=fun e=>h (yD e);apply .inl (.inl (.inl ⟨rfl,rfl,?_⟩));rw[zk];ext;have e6:(i:Int) % 6=((i % 6:Nat):Int):=by lk
      have h6:=af (i % 6);have t6:=qbg a (i % 6);show qL (fun h=>?_) (fun h=>?_)
      .have hw:(b:Int)=2:=yk h;apply⟨.inl ⟨rfl,_,.of A⟩,?_⟩;apply vI (by decide) ?_;apply qg2 (yi (kB g) (by decide)) ?_;rw[e6];show qf3 (by rw[h6];show 1+_<=sizeLine;show yX (qi (by lk))) ?_;apply⟨l,_,_,rfl,rfl,A,C,?_⟩;have S:((⟨#[B]⟩:Str)++Txt.slice a none (some ((i % 6:Nat):Int))).cps.toList=B::a.cps.toList.take (i % 6):=by rw[qa1,t6];rfl
       show O _ ⟨qbs S (by simp) (by simp[lS];lk) (by rw[ke,ac,N];rfl),?_⟩;rw[yG (by lk),R,S];rfl
      .have aw:(b:Int)≠2:=fun e=>h (yD e);apply⟨.inl ⟨rfl,_,.of A⟩,?_⟩;apply vI (by decide) ?_;apply qg2 (yi (kB g) (by decide)) ?_;rw[e6];apply qf3 (by rw[h6];show _+1<=sizeLine;show yX (qi (by lk))) ?_;apply⟨l,_,_,rfl,rfl,A,C,?_⟩;have S:(Txt.slice a none (some ((i % 6:Nat):Int))++(⟨#[B]⟩:Str)).cps.toList=a.cps.toList.take (i % 6)++[B]:=by rw[qa1,t6]
       show O _ ⟨qbs S (by simp) (by simp[lS];lk) (by rw[kq,ac];simp[N]),?_⟩;rw[yB (by lk),R,S,XA];rfl
   .obtain⟨ss,W,X,rfl,rfl,I,L⟩:=hp;apply hD _ _ (q l ss _ (b1.new7 hl) (hB1.new hl) (b1.free7 ae hl) ae qb ⟨by lk,nodup_key fun j k s G hk=>?_,fun s hs=>?_⟩ I)
    .have ap:j<ss.length:=(yc.mp G).1;have aq:k<ss.length:=(yc.mp hk).1;show NmJ.inj M (by lk) (by lk) (L j s G) (L k s hk)
    .obtain⟨j,G⟩:=yf hs;show(L j s G).1
  apply⟨p,26,rfl,hB,by decide,by decide,fun first H1 hf b1 hB1=>?_⟩;apply⟨by show 6<=sizeLine;decide,fun m2 Z=>?_⟩;have am:=hB1.apart Z;have b2:=b1.new7 (o:=.lst (stepsJ.map iV)) Z;have em:upd H1 m2 (.lst (stepsJ.map iV)) m2=some (.lst (stepsJ.map iV)):=qb;have ad:Pu (upd H1 m2 (.lst (stepsJ.map iV))) p:=hB1.new Z;have eu:upd H1 m2 (.lst [V.int 1,V.int 3,V.int 5,V.int 7,V.int 9,V.int 11])=upd H1 m2 (.lst (stepsJ.map iV)):=rfl;rw[eu];generalize upd H1 m2 (.lst (stepsJ.map iV))=H2 at b2 em ad;apply⟨p,6,rfl,ad,by decide,by decide,fun d H3 hd b3 ah=>?_⟩;obtain⟨st,M⟩:∃ st,stepsJ[d]?=some st:=⟨_,yb hd⟩;show .inl (zN (b3 _ _ am em) (v:=iV st) (qv (by rw[yd,M];rfl)) ?_);apply⟨p,4,rfl,ah,by decide,by decide,fun b H4 hw b4 ai=>?_⟩;have ag:=(b2.trans7 b3).trans7 b4;apply⟨rfl,?_⟩;apply⟨5,rfl,by decide,by decide,jW (lo:=0) (n:=5) (fun i ys J=>But p H J/\Pu J p/\∃ xs:LS,ys=xs.map V.str/\xs.length=i/\∀ x∈xs,x.length=1/\x.cps.toList.all sg=true) ⟨ag,ai,[],rfl,rfl,fun _ h=>by cases h⟩ (fun i ys J hi hs=>?_) fun ys J hs=>?_⟩
  .obtain⟨bJ,Y,xs,rfl,ao,an⟩:=hs;apply qad ?_;apply⟨p,26,rfl,Y,by decide,by decide,fun r J2 ar b5 aj=>?_⟩;show .inl (qhi (by room) (qfK (by lk) (by lk)) ?_);show⟨by rw[ya];show qi (by lk),bJ.trans7 b5,aj,xs++[_],by rw[yu];rfl,by rw[yt,ao];rfl,fun x hx=>?_⟩;rcases yA.mp hx with z | z
   .show an x z
   .rw [yy.mp z];show⟨rfl,?_⟩;have:=qgE (c:=97+r) (by lk) (by lk);simp[this]
  .obtain⟨bJ,Y,zs,rfl,hn,h1⟩:=hs;show⟨by rw[ya,hn];decide,fun l5 h5=>?_⟩;apply⟨_,l5,zs,rfl,rfl,SqL.of qb,by rw[sum_ones fun x hx=>(h1 x hx).1,show("":Str).length=0 by room];lk,?_⟩;have g:(Txt.join "" zs).length=5:=by rw[join_len fun x hx=>(h1 x hx).1];lk
   have y:(Txt.join "" zs).cps.toList.all sg=true:=by
    have e:Txt.join "" zs=Str.join "" zs:=Yy.mp (join_plain_closes "" zs);rw[e];show qd8 fun x hx=>(h1 x hx).2
   generalize Txt.join "" zs=a at g y ⊢;ext;rw[U];show⟨fun _ _ z=>z,_,_,_,b,first,st,a,rfl,bJ.new7 h5,Y.new h5,ye M,g,y⟩
theorem KF:FnScope ["_law_purse_here","_law_many_here","_law_way","_law_thin","_law_found","_law_d","_law_k","_law_pair"] wqa (qg qbz):=fS
abbrev iT(q:Nat×Nat):HO:=.tup [.int (q.1:Int),.int (q.2:Int)]
def IPL(H:Hp)(l:Addr)(ts:LQ)(TI:List (Nat×Nat)):Prop:=H l=some (.lst (ts.map V.ref))/\All2 (fun t q=>H t=some (iT q)) ts TI
theorem IPL.same{TI:List (Nat×Nat)}(h:IPL H l ts TI)(s:L2.Same H H'):IPL H' l ts TI:=⟨s _ _ h.1,h.2.mono fun _ _ z=>s _ _ z⟩
theorem qf9{a:TA}{R:It->Hp->Prop}(h:a σ H fun vs H1=>∃ i j:Int,vs=[.int i,.int j]/\(-(2 ^ 62)<=i/\i<2 ^ 62/\-(2 ^ 62)<=j/\j<2 ^ 62)/\R (Itr i (j-i).toNat) H1):qgo a σ H R:=h
theorem qa4{i j:Int}{Q:VK}(q:Q (.bl (decide (i=j))) H):qge K (.int i) (.int j) H Q:=.inl (.inl (.inl ⟨rfl,rfl,by rw[zk];show q⟩))
theorem qe9(h:some (iT q')=some (iT q)):q'=q:=by
 injection h with h
 injection h with h
 injection h with h1 h2
 injection h1 with h1
 injection h2 with h2 _
 injection h2 with h2
 show Xd (by lk) (by lk)
theorem ipair_eqD{a b:Addr}(g:H b=some (iT q'))(f:H a=some (iT q)):EqD K H 1 (.ref b) (.ref a) (decide (q'=q)):=by
 by_cases e:b=a
 .subst e;rw[g] at f;have:q'=q:=qe9 f;rw[yD this];show .self
 .have z:=EqT.tup (K:=K) (H:=H) (n:=0) (e:=fun j=>if j=0 then eqV (iV q'.1) (iV q.1) else eqV (iV q'.2) (iV q.2)) (SqT.of g) (SqT.of f) fun j x y c d=>by
   match j,c,d with
   | 0,c,d=>cases c;cases d;show .flat rfl rfl
   | 1,c,d=>cases c;cases d;show .flat rfl rfl
   | n+2,c,d=>simp at c
  have m:((List.range (min [iV q'.1,iV q'.2].length [iV q.1,iV q.2].length)).all (fun j=>if j=0 then eqV (iV q'.1) (iV q.1) else eqV (iV q'.2) (iV q.2))&&[iV q'.1,iV q'.2].length==[iV q.1,iV q.2].length)=decide (q'=q):=by
   have i:eqV (iV q'.1) (iV q.1)=decide (q'.1=q.1):=by
    have:=zk (q'.1:Int) (q.1:Int);rw[yB (by decide)] at this;rw[this];show Yq.mpr (by lk)
   have l:eqV (iV q'.2) (iV q.2)=decide (q'.2=q.2):=by
    have:=zk (q'.2:Int) (q.2:Int);rw[yB (by decide)] at this;rw[this];show Yq.mpr (by lk)
   show((if (0:Nat)=0 then eqV (iV q'.1) (iV q.1) else eqV (iV q'.2) (iV q.2))&&((if (1:Nat)=0 then eqV (iV q'.1) (iV q.1) else eqV (iV q'.2) (iV q.2))&&true)&&true)=_;rw[yG rfl,yB (by decide),i,l,Bool.and_true,Bool.and_true];rw[Yn,yY,yE,yE,yE];show⟨fun h=>Xd h.1 h.2,fun h=>by rw[h];show⟨rfl,rfl⟩⟩
  rw[m] at z;show .deep z e
theorem ipl_nin{a:Addr}{TI:List (Nat×Nat)}{c:Nat×Nat}{Q:VK}(h:IPL H l ts TI)(n:H a=some (iT c))(q:Q (.bl (!decide (c∈TI))) H):qey K true (.ref a) (.ref l) H Q:=by
 classical
 show .inr (.inr ⟨l,ts.map V.ref,fun z=>decide (∃ t,z=.ref t/\H t=some (iT c)),1,rfl,SqL.of h.1,by decide,fun z hz=>?_,?_⟩)
 .obtain⟨b,o,rfl⟩:=yI.mp hz;obtain⟨q',_,r⟩:=h.2.mem o;have e:=ipair_eqD (K:=K) r n
  have m:decide (∃ t,V.ref b=.ref t/\H t=some (iT c))=decide (q'=c):=by
   apply Yq.mpr;constructor
   .rintro ⟨t,g,d⟩;cases g;rw[r] at d;show qe9 d
   .rintro rfl;show⟨b,rfl,r⟩
  show EqD K H 1 (.ref b) (.ref a) (decide (∃ t,V.ref b=.ref t/\H t=some (iT c)));rw[m];show e
 .have e:((ts.map V.ref).any fun z=>decide (∃ t,z=.ref t/\H t=some (iT c)))=decide (c∈TI):=by
   rw[Yn,YK,yE];constructor
   .rintro ⟨z,hz,e⟩;obtain⟨t,s,rfl⟩:=yI.mp hz;obtain⟨q',i,r⟩:=h.2.mem s;obtain⟨t',g,d⟩:=yk e;cases g;rw[r] at d;have:q'=c:=qe9 d;rw[<- this];show i
   .intro p;obtain⟨k,j,e⟩:=xZ p;have f:k<ts.length:=by rw[h.2.len];show j
    have r:=h.2.at_ k ts[k] TI[k] (yb f) (yb j);show⟨.ref ts[k],yI.mpr ⟨_,xD f,rfl⟩,yD ⟨ts[k],rfl,by rw[r,e]⟩⟩
  rw[yG rfl,e];show q
def TJ(m:Nat)(TI:List (Nat×Nat)):Prop:=TI.length<=30/\(∀ q∈TI,q.1<q.2/\q.2<m)/\TI.Nodup
inductive spTsJ(vs:List V)(H:Hp)(Q:VK)(E:XK):Prop|mk (p:Addr) (m:Nat) (_:vs=[.ref p,.int (m:Int)]) (_:Pu H p) (_:m<=14) (_:∀(l:Addr) (ts:LQ) (TI:List (Nat×Nat)) (H':Hp),But p H H'->Pu H' p->H l=none->l≠p->IPL H' l ts TI->TJ m TI->Q (.ref l) H')
theorem IPL.butJ{TI:List (Nat×Nat)}(h:IPL H l ts TI)(b:But p H H')(d:Pu H p)(hl:l≠p):IPL H' l ts TI:=
 ⟨b _ _ hl h.1,h.2.mono fun t q z=>b _ _ (fun e=>by obtain⟨x,y,c,a,_⟩:=d;rw[e,a] at z;cases z) z⟩
theorem ok_tsJ(F:Fun K "_law_ties" "_law_ties" qbz f fd)(T:Txt K mg cc cw)(Km:wq5 1 "_law_take" wqa spTkP):wq7 2 f fd wqa spTsJ:=by
 show F.ok KF fun _ _ _ _ H vs Q E hr h=>?_
 .obtain⟨p,m,rfl,hB,hm,q⟩:=h;have hu:=jX hr;obtain⟨TC102,hTC102⟩:∃ t0:TS,t0=fun D σ J=>∃(l t:Addr) (B j:Nat) (vd vk:Int) (ts:LQ) (TI:List (Nat×Nat)) (M:Nat×Nat),σ=[some (.ref p),some (.int (m:Int)),some (.int (B:Int)),some (.int (j:Int)),some (.ref l),some (.int vd),some (.int vk),some (.ref t)]/\But p H J/\Pu J p/\H l=none/\l≠p/\IPL J l ts TI/\TJ m TI/\J t=some (iT M)/\M.2<m/\0<j/\j<=4 /\
   ∀(J':Hp) (W:LQ) (L:List (Nat×Nat)),But p H J'->Pu J' p->IPL J' l W L->TJ m L->D.nx [some (.ref p),some (.int (m:Int)),some (.int (B:Int)),some (.int (j:Int)),some (.ref l),some (.int vd),some (.int vk),some (.ref t)] J':=⟨_,rfl⟩
  show⟨_,(qc (qk (i:=2) KF.nd rfl (yH rfl) (qq Km (hmR hr) qA (qa (pv 0) (qa qh qd))))
 (qc (qk (i:=3) KF.nd rfl (yH rfl) (qr (qt (K:=K) rfl hu) (qS (qa qh (qa qh (qa qh (qa qh (qa qh (qa qh qd))))))) (qq Km (hmR hr) qA (qa (pv 0) (qa qh qd))) (fun _ _=>rfl)))
 (qc (qk (i:=4) KF.nd rfl (yH rfl) (qS qd))
 (qc (qX yS rfl (qbF rfl T.b_range (qa qh (qa (pv 1) qd))) (qm (i:=5) KF.nd rfl (yH rfl))
 (qe (qX yS rfl (jl rfl T.b_range (qa (qu qb7 (pv 1) (pv 5)) qd)) (qm (i:=6) KF.nd rfl (yH rfl))
 (qc (qk (i:=7) KF.nd rfl (yH rfl) (qr (qt (K:=K) rfl hu) (qS (qa (jU (qa (pv 6) (qa (qu (j6 (K:=K) rfl) (pv 6) (pv 5)) qd))) (qa (jU (qa (qu qb7 (pv 5) qh) (qa (qu (j6 (K:=K) rfl) (pv 5) (pv 6)) qd))) (qa (jU (qa (qu zu (pv 5) qh) (qa (qu (j6 (K:=K) rfl) (pv 6) (pv 5)) qd))) (qa (jU (qa (pv 6) (qa (qu (j6 (K:=K) rfl) (pv 6) (pv 5)) qd))) qd))))) (pv 2) (fun _ _=>rfl)))
 (qc (qR (qj (jx (K:=K) rfl hu) (pv 2) qh (qx _)) (qe (qk (i:=7) KF.nd rfl (yH rfl) (jU (qa (qq Km (hmR hr) qA (qa (pv 0) (qa (pv 5) qd))) (qa (pv 5) qd))))) qw)
 (qbZ TC102 (qe (qR (PW.pt (qbi (qj qeC (qr (qt (K:=K) rfl hu) (pv 7) qh (fun _ _=>rfl)) (qr (qt (K:=K) rfl hu) (pv 7) qh (fun _ _=>rfl)) (qx _)) (qbi (qj (zz (K:=K) rfl hu) (pv 7) (pv 4) (by with_unfolding_all rfl)) (qbi (qj qeC (qp (jL (K:=K) rfl) rfl T.b_len YE (qa (pv 4) qd)) qh (qx _)) (qba (qj (jx (K:=K) rfl hu) (qq Km (hmR hr) qA (qa (pv 0) (qa (pv 3) qd))) qh (qx _))))))) (qe (qP (qbl (K:=K) rfl yM Yc Yd qN (pv 4) (qa (pv 7) qd)))) qw)) ?cut102))))))
 (qe (qo (pv 4))))))),?_⟩
  case cut102 =>
   intro D σ J h;rw[hTC102] at h;obtain⟨l,t,B,j,vd,vk,ts,TI,M,rfl,N,A,U,C,G,s,ht,hq,bj,bo,nx⟩:=h;apply .inl (.inr (.inl ⟨t,_,_,_,rfl,rfl,SqT.of ht,rfl,?_⟩));apply .inl (.inr (.inl ⟨t,_,_,_,rfl,rfl,SqT.of ht,rfl,?_⟩));apply qL (fun h1=>?_) (fun h1=>?_)
   .have aw:M.1<M.2:=by have:=yk h1;lk
    apply ipl_nin G ht ?_;apply qL (fun h2=>?_) (fun h2=>?_)
    .have ax:M∉TI:=by simpa using h2
     apply zq G.1 ?_;rw[ya,G.2.len];apply qL (fun h3=>?_) (fun h3=>?_)
     .have bm:TI.length<30:=by have:=yk h3;lk
      apply⟨p,j,rfl,A,bj,by lk,fun X J2 ba b2 O=>?_⟩;have S:=G.butJ b2 A C;have Y:J2 t=some (iT M):=b2 _ _ (fun e=>by obtain⟨x,y,c,e2,_⟩:=A;rw[e,e2] at ht;cases ht) ht;have b3:=N.trans7 b2;apply qa4 ?_;apply qL (fun h4=>?_) (fun h4=>?_)
      .ext;show⟨.inl ⟨rfl,_,.of S.1⟩,?_⟩;apply⟨l,_,_,rfl,rfl,S.1,by rw[ya,G.2.len];show qi (by lk),?_⟩;have as:∀{c:Addr} {o:HO},J2 c=some o->(∀ xs,o≠.lst xs)->c≠l:=fun e bd z=>by rw[z,S.1] at e;cases e;show bd _ rfl
       apply nx _ (ts++[t]) (TI++[M]) (fun c u n e=>by rw[qf (fun z=>by rw[z,U] at e;cases e)];show b3 c u n e) (by obtain⟨x,y,c,e2,r⟩:=O;show⟨x,y,c,by rw[qf (Ym C)];show e2,r⟩) ⟨by rw[qb,yu];rfl,All2.snoc (S.2.mono fun t' q z=>?_) ?_⟩ ⟨by rw[yt];show TI.length+1<=30;lk,fun q hq=>?_,?_⟩
       .rw [qf (as z fun xs e=>by cases e)];show z
       .rw [qf (as Y fun xs e=>by cases e)];show Y
       .rcases yA.mp hq with z | z
        .show s.2.1 q z
        .rw [yy.mp z];show⟨aw,by assumption⟩
       .show Yi.mpr ⟨s.2.2,xu _ _,fun a ha b hb e=>by rw[yy.mp hb] at e;show ax (e ▸ ha)⟩
      .ext;show nx _ ts TI b3 O S s
     .ext;show nx _ ts TI N A G s
    .ext;show nx _ ts TI N A G s
   .ext;show nx _ ts TI N A G s
  apply⟨p,4,rfl,hB,by decide,by decide,fun B H1 hw b1 hB1=>?_⟩;apply⟨by show 6<=sizeLine;decide,fun m2 aa=>?_⟩;have bc:=hB1.apart aa;obtain⟨xs,ad⟩:∃ xs:LN,xs=[1,1,2,2,3,4]:=⟨_,rfl⟩
  have bi:∀ x∈xs,0<x/\x<=4:=fun x hx=>by
   rw[ad] at hx;simp only[yx,Yb,YH] at hx;lk
  have bn:xs.length=6:=by rw[ad];rfl
  have b2:=b1.new7 (o:=.lst (xs.map iV)) aa;have em:upd H1 m2 (.lst (xs.map iV)) m2=some (.lst (xs.map iV)):=qb;have O:Pu (upd H1 m2 (.lst (xs.map iV))) p:=hB1.new aa;have eu:upd H1 m2 (.lst [V.int 1,V.int 1,V.int 2,V.int 2,V.int 3,V.int 4])=upd H1 m2 (.lst (xs.map iV)):=by rw[ad];rfl
  rw[eu];generalize upd H1 m2 (.lst (xs.map iV))=H2 at b2 em O;apply⟨p,6,rfl,O,by decide,by decide,fun d H3 hd b3 an=>?_⟩;obtain⟨j,au⟩:∃ st,xs[d]?=some st:=⟨_,yb (by lk)⟩;have I:=bi j (ye au);show .inl (zN (b3 _ _ bc em) (v:=iV j) (qv (by rw[yd,au];rfl)) ?_);have af:=b2.trans7 b3;apply⟨wq9,fun l hl=>?_⟩;have C:=an.apart hl;have U:=af.free7 C hl;have b4:=af.new7 (o:=.lst []) hl;have ao:Pu (upd H3 l (.lst [])) p:=an.new hl;have aq:IPL (upd H3 l (.lst [])) l [] []:=⟨qb,.nil⟩;generalize upd H3 l (.lst [])=H4 at b4 ao aq;apply qf9 ?_;apply⟨_,_,rfl,⟨by decide,by decide,by lk,by lk⟩,?_⟩;rw[show((m:Int)-1).toNat=m-1 by lk];show j5 (lo:=1) (n:=m-1) (fun i σ J=>But p H J/\Pu J p/\∃(ts:LQ) (TI:List (Nat×Nat)) (y5 y6 y7:Option V),σ=[some (.ref p),some (.int (m:Int)),some (.int (B:Int)),some (.int (j:Int)),some (.ref l),y5,y6,y7]/\IPL J l ts TI/\TJ m TI) ⟨b4,ao,[],[],_,_,_,rfl,aq,by decide,fun q hq=>(by cases hq),.nil⟩ (fun i σ J hi hp=>?_) fun σ J hp=>?_
  .obtain⟨N,A,ts,TI,y5,y6,y7,rfl,G,s⟩:=hp;apply⟨_,rfl,by lk,by lk,?_⟩;rw[show((m:Int)-(1+(i:Int))).toNat=m-(1+i) by lk];show j5 (lo:=0) (n:=m-(1+i)) (fun k σ J=>But p H J/\Pu J p/\∃(ts:LQ) (TI:List (Nat×Nat)) (y6 y7:Option V),σ=[some (.ref p),some (.int (m:Int)),some (.int (B:Int)),some (.int (j:Int)),some (.ref l),some (.int (1+(i:Int))),y6,y7]/\IPL J l ts TI/\TJ m TI) ⟨N,A,ts,TI,_,_,rfl,G,s⟩ (fun k σ J hk hp=>?_) fun σ J hp=>?_
   .obtain⟨N,A,ts,TI,y6,y7,rfl,G,s⟩:=hp;rw[xB];apply⟨wqqb,fun Z bf=>?_⟩;have s1:=qD (Sr J) (o:=.tup [.int ((k:Int)),.int ((k:Int)+(1+(i:Int)))]) bf
    have ai:upd J Z (.tup [.int ((k:Int)),.int ((k:Int)+(1+(i:Int)))]) Z=some (iT (k,k+(1+i))):=by
     rw[qb];show _=some (HO.tup [V.int ((k:Nat):Int),V.int ((k+(1+i):Nat):Int)]);rw[show((k:Nat):Int)=(k:Int) by lk,show((k+(1+i):Nat):Int)=(k:Int)+(1+(i:Int)) by lk]
    generalize upd J Z (.tup [.int ((k:Int)),.int ((k:Int)+(1+(i:Int)))])=J1 at s1 ai;apply⟨wqqb,fun t2 Y=>?_⟩;have s2:=qD (Sr J1) (o:=.tup [.int (1+(i:Int)-1),.int (1+(i:Int)+(k:Int))]) Y
    have aj:upd J1 t2 (.tup [.int (1+(i:Int)-1),.int (1+(i:Int)+(k:Int))]) t2=some (iT (1+i-1,1+i+k)):=by
     rw[qb];show _=some (HO.tup [V.int ((1+i-1:Nat):Int),V.int ((1+i+k:Nat):Int)]);rw[show((1+i-1:Nat):Int)=1+(i:Int)-1 by lk,show((1+i+k:Nat):Int)=1+(i:Int)+(k:Int) by lk]
    generalize upd J1 t2 (.tup [.int (1+(i:Int)-1),.int (1+(i:Int)+(k:Int))])=J2 at s2 aj;apply vI (by decide) ?_;apply⟨wqqb,fun t3 bg=>?_⟩;have s3:=qD (Sr J2) (o:=.tup [.int ((1+(i:Int)) % 3),.int ((k:Int)+(1+(i:Int)))]) bg
    have ak:upd J2 t3 (.tup [.int ((1+(i:Int)) % 3),.int ((k:Int)+(1+(i:Int)))]) t3=some (iT ((1+i) % 3,k+(1+i))):=by
     rw[qb];show _=some (HO.tup [V.int (((1+i) % 3:Nat):Int),V.int ((k+(1+i):Nat):Int)]);rw[show(((1+i) % 3:Nat):Int)=(1+(i:Int)) % 3 by lk,show((k+(1+i):Nat):Int)=(k:Int)+(1+(i:Int)) by lk]
    generalize upd J2 t3 (.tup [.int ((1+(i:Int)) % 3),.int ((k:Int)+(1+(i:Int)))])=J3 at s3 ak;apply⟨wqqb,fun t4 bh=>?_⟩;have s4:=qD (Sr J3) (o:=.tup [.int ((k:Int)),.int ((k:Int)+(1+(i:Int)))]) bh
    have al:upd J3 t4 (.tup [.int ((k:Int)),.int ((k:Int)+(1+(i:Int)))]) t4=some (iT (k,k+(1+i))):=by
     rw[qb];show _=some (HO.tup [V.int ((k:Nat):Int),V.int ((k+(1+i):Nat):Int)]);rw[show((k:Nat):Int)=(k:Int) by lk,show((k+(1+i):Nat):Int)=(k:Int)+(1+(i:Int)) by lk]
    generalize upd J3 t4 (.tup [.int ((k:Int)),.int ((k:Int)+(1+(i:Int)))])=J4 at s4 al;apply⟨by show 4<=sizeLine;decide,fun g hg=>?_⟩;have s5:=qD (Sr J4) (o:=.lst [.ref Z,.ref t2,.ref t3,.ref t4]) hg;have eg:upd J4 g (.lst [.ref Z,.ref t2,.ref t3,.ref t4]) g=some (.lst [.ref Z,.ref t2,.ref t3,.ref t4]):=qb;generalize upd J4 g (.lst [.ref Z,.ref t2,.ref t3,.ref t4])=J5 at s5 eg;have ae:=(((s1.trans s2).trans s3).trans s4).trans s5
    obtain⟨t,M,bb,ht,be⟩:∃(t:Addr) (M:Nat×Nat),[V.ref Z,V.ref t2,V.ref t3,V.ref t4][B]?=some (.ref t)/\J5 t=some (iT M)/\M.2<m:=by
     have e1:=s5 _ _ (s4 _ _ (s3 _ _ (s2 _ _ ai)));have e2:=s5 _ _ (s4 _ _ (s3 _ _ aj));have e3:=s5 _ _ (s4 _ _ ak);have e4:=s5 _ _ al
     match B,hw with
     | 0,_=>show⟨Z,_,rfl,e1,by show k+(1+i)<m;lk⟩
     | 1,_=>show⟨t2,_,rfl,e2,by show 1+i+k<m;lk⟩
     | 2,_=>show⟨t3,_,rfl,e3,by show k+(1+i)<m;lk⟩
     | 3,_=>show⟨t4,_,rfl,e4,by show k+(1+i)<m;lk⟩
    apply .inl (zN eg (qv bb) ?_);have ah:=fun(c:Addr) (o:HO) (n:c≠p) (e:H c=some o)=>ae _ _ (N c o n e);have R:Pu J5 p:=by obtain⟨x,y,c,e2,r⟩:=A;show⟨x,y,c,ae _ _ e2,r⟩
    have ar:=G.same ae;apply qa4 ?_;apply qL (fun h3=>?_) (fun h3=>?_)
    .ext;show⟨p,1+i,?_,R,by lk,by lk,fun X J6 ba b6 ay=>?_⟩
     .show [V.ref p,V.int (1+(i:Int))]=_;rw[show((1+i:Nat):Int)=1+(i:Int) by lk]
     have az:=ar.butJ b6 R C;apply⟨wqqb,fun t6 ac=>?_⟩;have av:=qD (Sr J6) (o:=.tup [.int (X:Int),.int (1+(i:Int))]) ac
     have am:upd J6 t6 (.tup [.int (X:Int),.int (1+(i:Int))]) t6=some (iT (X,1+i)):=by
      rw[qb];show _=some (HO.tup [V.int (X:Int),V.int ((1+i:Nat):Int)]);rw[show((1+i:Nat):Int)=1+(i:Int) by lk]
     have ag:But p H (upd J6 t6 (.tup [.int (X:Int),.int (1+(i:Int))])):=(But.trans7 ah b6).new7 ac;have ap:Pu (upd J6 t6 (.tup [.int (X:Int),.int (1+(i:Int))])) p:=ay.new ac;generalize upd J6 t6 (.tup [.int (X:Int),.int (1+(i:Int))])=J7 at av am ag ap;ext;rw[hTC102];show⟨l,t6,B,j,_,_,ts,TI,(X,1+i),rfl,ag,ap,U,C,az.same av,s,am,by show 1+i<m;lk,I.1,I.2,fun J' W L h1 h2 h3 h4=>⟨h1,h2,W,L,_,_,rfl,h3,h4⟩⟩
    .ext;rw[hTC102];show⟨l,t,B,j,_,_,ts,TI,M,rfl,ah,R,U,C,ar,s,ht,be,I.1,I.2,fun J' W L h1 h2 h3 h4=>⟨h1,h2,W,L,_,_,rfl,h3,h4⟩⟩
   .obtain⟨N,A,ts,TI,y6,y7,rfl,G,s⟩:=hp;apply⟨N,A,ts,TI,_,_,_,rfl,G,s⟩
  .obtain⟨N,A,ts,TI,y5,y6,y7,rfl,G,s⟩:=hp;apply q l ts TI J N A U C G s
theorem uc:FnScope ["_law_names_here","_law_ties_here","_law_handed","_law_one","_law_other"] wqH (qg qbA):=fS
theorem Wt.ir(W:Wt cw H x ss ns tps):∀ a b,tA tps a b->a≠b:=fun a b z e=>by
 rcases z with z | z
 .show(W.ok _ z).2.2 e
 .show(W.ok _ z).2.2 e.symm
def tn(ss:LS)(i:Nat):Str:=ss.getD i ""
def nmP(ss:LS)(p:Nat×Nat):Str×Str:=(tn ss p.1,tn ss p.2)
theorem qaE(h:i<ss.length):ss[i]?=some (tn ss i):=by unfold tn;rw[Yk,yb h];rfl
theorem qdh(h:i<ss.length):tn ss i∈ss:=ye (qaE h)
theorem zS(c:ss.Nodup)(a:i<ss.length)(b:j<ss.length)(e:tn ss i=tn ss j):i=j:=qy c (qaE a) (by rw[e];show qaE b)
theorem qb5{n:Addr}{Q:VK}(h:H n=some (.lst (ss.map V.str)))(a:i<ss.length)(q:Q (.str (tn ss i)) H):qgd K (.ref n) (.int (i:Int)) H Q:=
 .inl (zN h (v:=.str (tn ss i)) (qv (by rw[yd,qaE a];rfl)) q)
theorem qee:∀{l m:LP},l.Nodup->(∀ x∈l,x∈m)->l.length<=m.length
 | [],_,_,_=>YS _
 | x::r,m,hn,h=>by
  obtain⟨h1,c⟩:=yo.mp hn;have a:=h x yU;have d:=qee (l:=r) (m:=m.erase x) c fun y b=>(Xz (fun e=>h1 (by rw[<- e];show b))).mpr (h y (yC _ b));rw[YV a] at d;have:0<m.length:=Y2 a;simp only[yJ];lk
def hdP(ss:LS)(q:Nat×Nat):Str×Str:=if (q.1+q.2) % 2=0 then nmP ss q else((nmP ss q).2,(nmP ss q).1)
theorem qfa(ss:LS)(q:Nat×Nat):hdP ss q=nmP ss q\/hdP ss q=((nmP ss q).2,(nmP ss q).1):=by
 unfold hdP;split
 .show .inl rfl
 .show .inr rfl
theorem nm_one(a:ss.Nodup){p:Nat×Nat}(b:p.1<p.2/\p.2<ss.length)(c:q.1<q.2/\q.2<ss.length)(e:nmP ss p=nmP ss q\/nmP ss p=((nmP ss q).2,(nmP ss q).1)):p=q:=by
 rcases e with e | e
 .show Xd (zS a (by lk) (by lk) (congrArg Prod.fst e)) (zS a b.2 c.2 (congrArg Prod.snd e))
 .have h1:p.1=q.2:=zS a (by lk) (by lk) (congrArg Prod.fst e);have d:p.2=q.1:=zS a (by lk) (by lk) (congrArg Prod.snd e);lk
theorem qev(b:ss.Nodup){TI:List (Nat×Nat)}(h:TJ ss.length TI):∀ ab∈TI.map (nmP ss),ab.1∈ss/\ab.2∈ss/\ab.1≠ab.2:=fun ab a=>by
 obtain⟨q,c,rfl⟩:=yI.mp a;have:=h.2.1 q c;show⟨qdh (by lk),qdh this.2,fun e=>by have:=zS b (by lk) this.2 e;lk⟩
theorem hd_tgo(i:ss.Nodup){TI:List (Nat×Nat)}(h:TJ ss.length TI):TGo ss (TI.map (hdP ss)):=by
 show⟨by rw[ya];show h.1,fun ab b=>?_,?_⟩
 .obtain⟨q,d,rfl⟩:=yI.mp b;obtain⟨h1,f,g⟩:=qev i h _ (Xa d);rcases qfa ss q with e | e<;>rw[e]
  .show⟨h1,f,g⟩
  .show⟨f,h1,g.symm⟩
 .show YM.mpr (h.2.2.imp_of_mem fun{p q} j d c=>?_);have k:¬ (nmP ss p=nmP ss q\/nmP ss p=((nmP ss q).2,(nmP ss q).1)):=fun e=>c (nm_one i (h.2.1 p j) (h.2.1 q d) e);have a:∀{x y:Str×Str},(x.2,x.1)=y->x=(y.2,y.1):=fun{x y} e=>by rw[<- e]
  rcases qfa ss p with e | e<;>rcases qfa ss q with e' | e'<;>show⟨fun z=>k ?_,fun z=>k ?_⟩<;>rw[e,e'] at z
  .show .inl z
  .show .inr z
  .show .inr z
  .show .inl z
  .show .inr (a z)
  .show .inl (a z)
  .show .inl (a z)
  .show .inr (a z)
theorem hd_tA{TI:List (Nat×Nat)}:tA (TI.map (hdP ss)) a b↔tA (TI.map (nmP ss)) a b:=by
 have k:∀{a b:Str},(a,b)∈TI.map (hdP ss)->tA (TI.map (nmP ss)) a b:=fun{a b} h=>by
  obtain⟨q,c,e⟩:=yI.mp h;have m:nmP ss q∈TI.map (nmP ss):=Xa c;rcases qfa ss q with z | z<;>rw[z] at e
  .rw [e] at m;show .inl m
  .have:nmP ss q=(b,a):=Xd (congrArg Prod.snd e) (congrArg Prod.fst e);rw[this] at m;show .inr m
 have k':∀{a b:Str},(a,b)∈TI.map (nmP ss)->tA (TI.map (hdP ss)) a b:=fun{a b} h=>by
  obtain⟨q,c,e⟩:=yI.mp h;have m:hdP ss q∈TI.map (hdP ss):=Xa c;rcases qfa ss q with z | z<;>rw[z,e] at m
  .show .inl m
  .show .inr m
 show⟨fun h=>h.elim k fun z=>(k z).symm,fun h=>h.elim k' fun z=>(k' z).symm⟩
theorem qfP{TI:List (Nat×Nat)}(hw:WOk ss ns)(l:Adj ss ns (TI.map (nmP ss)))(d:TJ ss.length TI):(qU ss ns ss.length).length<=30:=by
 show yi (qee (m:=TI.map (nmP ss)) (qe5 hw) fun ab h=>?_) (by rw[ya];show d.1);obtain⟨z,i,j,o,n,p⟩:=(zr hw l (a:=ab.1) (b:=ab.2)).mp h;rcases z with z | z
 .show z
 .obtain⟨q,r,e⟩:=yI.mp z;have c:=d.2.1 q r;have f:tn ss q.1=ab.2:=congrArg Prod.fst e;have g:tn ss q.2=ab.1:=congrArg Prod.snd e;have:=qy hw.nd (by rw[<- f];show qaE (by lk)) p;have:=qy hw.nd (by rw[<- g];show qaE c.2) n;lk
theorem wt_new{y:Addr}(h:WebN H0 cw H y ss ns)(e:qbU ss ns kps)(g:TGo ss kps):Wt cw H y ss ns kps:=
 ⟨h.web,fun a b s t d c=>by rw[e.2.2 a b s t d c,yE],g.inn⟩
theorem Wt.to{y:Addr}(h:Wt cw H y ss ns kps)(ok:∀ ab∈tps,ab.1∈ss/\ab.2∈ss/\ab.1≠ab.2)(e:∀ a b,a∈ss->b∈ss->(tA kps a b↔tA tps a b)):Wt cw H y ss ns tps:=
 ⟨h.web,fun a b s t c d=>(h.adj a b s t c d).trans (e s t (ye c) (ye d)),ok⟩
theorem WebN.older(h:WebN H1 cw H x ss ns)(s:L2.Same H0 H1):WebN H0 cw H x ss ns:=by
 obtain⟨j,d,ol,n,h1,a,b,c,e,f,g,i⟩:=h;show⟨j,d,ol,n,h1,a,b,c,e,s.free f,s.free g,s.free i⟩
inductive spMdJ(cw:Addr)(vs:List V)(H:Hp)(Q:VK)(E:XK):Prop|mk (n l:Addr) (ss:LS) (ts:LQ) (TI:List (Nat×Nat)) (_:vs=[.ref n,.ref l]) (_:H n=some (.lst (ss.map V.str))) (_:NOk ss) (_:IPL H l ts TI) (_:TJ ss.length TI) (_:∀(b:Addr) (ns:LN) (H':Hp),L2.Same H H'->H b=none->WebN H cw H' b ss ns->Wt cw H' b ss ns (TI.map (nmP ss))->Q (.ref b) H')
def qbn(ns:LN)(a b:Nat):Bool:=(ns.getD a 0).testBit b
def BtJ(n:Nat)(TI:List (Nat×Nat))(bs:LN):Prop:=bs.length=n/\(∀ a,bs.getD a 0<2 ^ n)/\∀ a b,qbn bs a b=true↔((a,b)∈TI\/(b,a)∈TI)
inductive spBtJ(vs:List V)(H:Hp)(Q:VK)(E:XK):Prop|mk (l:Addr) (n:Nat) (ts:LQ) (TI:List (Nat×Nat)) (_:vs=[.int (n:Int),.ref l]) (_:n<=14) (_:IPL H l ts TI) (_:TJ n TI) (_:∀(b:Addr) (bs:LN) (H':Hp),L2.Same H H'->H b=none->H' b=some (.lst (zC bs))->BtJ n TI bs->Q (.ref b) H')
theorem qct{m:Addr}{l:LS}{Q:VK}(e:H m=some (.lst (l.map V.str)))(q:Q (.bl (decide (s∈l))) H):qey K false (.str s) (.ref m) H Q:=
 .inl ⟨m,_,rfl,.inl (SqL.of e),rfl,flat_strs l,by rw[yB (by decide),qco];show q⟩
theorem qgI{m y:Addr}{Q:VK}(F:G m=some (.lst (ss.map V.str)))(g:ss.length<=14)(nd:ss.Nodup)(H:∀ s∈ss,zX s=true)(C:PL G l us kps)(j:TGo ss kps)(p:G y=none)(D:G dx=none)(i:dx≠y)
  (h:∀ ns H2,L2.Same G H2->WebN G cw H2 y ss ns->Wt cw H2 y ss ns kps->Q .non H2):spWeb cw [.ref y,.ref m,.ref l] (upd (upd G dx (.own y)) y (.ins cw dx [])) Q E:=by
 have f:=qD (qD (Sr G) (o:=.own y) D) (o:=.ins cw dx []) (show upd G dx (.own y) y=none by rw[qf (Ym i)];show p);show⟨y,dx,m,l,ss,us,kps,rfl,qb,f _ _ F,g,nd,H,C.same f,j,fun ns H' b B A=>?_⟩
 have a:WebN G cw H' y ss ns:=by
  obtain⟨I,d,ol,n,h1,q,r,t,u,v,w,x⟩:=B
  have k:∀ c,upd (upd G dx (.own y)) y (.ins cw dx []) c=none->G c=none:=fun c z=>by
   cases e:G c with
   | none=>rfl
   | some o=>rw[f _ _ e] at z;cases z
  show⟨I,d,ol,n,h1,q,r,t,u,k _ v,k _ w,k _ x⟩
 show h ns H' (fun c o e=>b c o (fun z=>by rw[z,p] at e;cases e) (f _ _ e)) a (wt_new a A j)
theorem ok_mdJ(F:Fun K "_law_made" "_law_made" qbA f fd)(T:Txt K mg cc cw)(Uf:wq8 5 cw "Web" wqu (spWeb cw)):wq7 7 f fd wqH (spMdJ cw):=by
 show F.ok uc fun _ _ _ _ H vs Q E hr h=>?_
 .obtain⟨n,l,ss,ts,TI,rfl,hn,I,G,Z,q⟩:=h;have R:=jX hr;show⟨_,(qc (qk (i:=2) uc.nd rfl (yH rfl) (qS qd))
 (qc (qX yS rfl (qd3 (K:=K) rfl (pv 1)) (qb6 rfl (jC (qm (i:=3) uc.nd rfl (yH rfl)) (jC (qm (i:=4) uc.nd rfl (yH rfl)) qbb)))
 (qe (qP (qbl (K:=K) rfl yM Yc Yd qN (pv 2) (qa (qr (qt (K:=K) rfl R) (qS (qa (jU (qa (qr (qt (K:=K) rfl R) (pv 0) (pv 3) (fun _ _=>rfl)) (qa (qr (qt (K:=K) rfl R) (pv 0) (pv 4) (fun _ _=>rfl)) qd))) (qa (jU (qa (qr (qt (K:=K) rfl R) (pv 0) (pv 4) (fun _ _=>rfl)) (qa (qr (qt (K:=K) rfl R) (pv 0) (pv 3) (fun _ _=>rfl)) qd))) qd))) (qu zu (qu (j6 (K:=K) rfl) (pv 3) (pv 4)) qh) (fun _ _=>rfl)) qd)))))
 (qe (qo (qaW Uf (hmR hr) (qa (qaO (qcl (K:=K) rfl rfl) rfl T.b_list Xu (qa (pv 0) qd)) (qa (pv 2) qd))))))),?_⟩
  apply⟨wq9,fun h M=>?_⟩;have s1:=qD (Sr H) (o:=.lst []) M;have eh:upd H h (.lst []) h=some (.lst []):=qb;generalize upd H h (.lst [])=H1 at s1 eh;apply qfu ?_;ext;have hh:H h=none:=M;show⟨l,_,rfl,.of (s1 _ _ G.1),qQ (xs:=ts.map V.ref) (fun i σ J=>L2.Same H J/\∃(us:LQ) (y3 y4:Option V),σ=[some (.ref n),some (.ref l),some (.ref h),y3,y4]/\J h=some (.lst (us.map V.ref))/\All2 (fun t ab=>J t=some (.tup [.str ab.1,.str ab.2])) us ((TI.take i).map (hdP ss))) ⟨s1,[],_,_,rfl,eh,.nil⟩ (fun i σ J _ O=>.of (O.1 _ _ G.1)) (fun i x σ J hx O=>?_) fun σ J O=>?_⟩
  .obtain⟨v,us,y3,y4,rfl,Y,D⟩:=O;rw[yd] at hx;obtain⟨u,S,rfl⟩:=yn.mp hx;have hi:i<TI.length:=by rw[<- G.2.len];show(yc.mp S).1
   obtain⟨d,A⟩:∃ d,TI[i]?=some d:=⟨_,yb hi⟩;have ah:=v _ _ (G.2.at_ i u d S A);have hq:=Z.2.1 d (ye A);have m:=v _ _ hn;have ak:=Z.1;show⟨u,_,rfl,.of ah,rfl,_,_,rfl,_,_,rfl,rfl,?_⟩;apply⟨.inl ⟨rfl,_,.of Y⟩,?_⟩;apply qb5 m (by lk) ?_;apply qb5 m hq.2 ?_;apply⟨wqqb,fun r af=>?_⟩;have j:=qD (Sr J) (o:=.tup [.str (tn ss d.1),.str (tn ss d.2)]) af;have B:upd J r (.tup [.str (tn ss d.1),.str (tn ss d.2)]) r=some (.tup [.str (tn ss d.1),.str (tn ss d.2)]):=qb;generalize upd J r (.tup [.str (tn ss d.1),.str (tn ss d.2)])=X at j B;apply qb5 (j _ _ m) hq.2 ?_;apply qb5 (j _ _ m) (by lk) ?_;apply⟨wqqb,fun s ag=>?_⟩;have W:=qD (Sr X) (o:=.tup [.str (tn ss d.2),.str (tn ss d.1)]) ag;have C:upd X s (.tup [.str (tn ss d.2),.str (tn ss d.1)]) s=some (.tup [.str (tn ss d.2),.str (tn ss d.1)]):=qb;generalize upd X s (.tup [.str (tn ss d.2),.str (tn ss d.1)])=J3 at W C;apply⟨wqqb,fun g hg=>?_⟩;have s4:=qD (Sr J3) (o:=.lst [.ref r,.ref s]) hg;have eg:upd J3 g (.lst [.ref r,.ref s]) g=some (.lst [.ref r,.ref s]):=qb;generalize upd J3 g (.lst [.ref r,.ref s])=J4 at s4 eg;apply vI (by decide) ?_
   obtain⟨t,ae,ht⟩:∃ t,atI [V.ref r,V.ref s] (((d.1:Int)+(d.2:Int)) % 2)=some (.ref t)/\J4 t=some (.tup [.str (hdP ss d).1,.str (hdP ss d).2]):=by
    by_cases h0:(d.1+d.2) % 2=0
    .rw [show((d.1:Int)+(d.2:Int)) % 2=((0:Nat):Int) by lk];show⟨r,qv rfl,?_⟩;unfold hdP;rw[yG h0];show s4 _ _ (W _ _ B)
    .rw [show((d.1:Int)+(d.2:Int)) % 2=((1:Nat):Int) by lk];show⟨s,qv rfl,?_⟩;unfold hdP;rw[yB h0];show s4 _ _ C
   show .inl (zN eg ae ?_);have p:=(j.trans W).trans s4;have e4:=p _ _ Y;ext;have ai:us.length<=30:=by rw[D.len,ya,yQ];lk
   show⟨h,_,_,rfl,rfl,e4,by rw[ya];show qi (by lk),?_⟩;have N:∀{c:Addr} {o:HO},J4 c=some o->(∀ xs,o≠.lst xs)->c≠h:=fun e y z=>by rw[z,e4] at e;cases e;show y _ rfl
   show⟨fun c o e=>?_,us++[t],_,_,rfl,by rw[qb,yu];rfl,?_⟩
   .rw [qf (fun z=>by rw[z,hh] at e;cases e)];show(v.trans p) c o e
   .rw [yK,A,yu];show All2.snoc (D.mono fun t' ab z=>?_) ?_
    .rw [qf (N (p _ _ z) fun xs e=>by cases e)];show p _ _ z
    .rw [qf (N ht fun xs e=>by cases e)];show ht
  .obtain⟨v,us,y3,y4,rfl,Y,D⟩:=O;have e:(ts.map V.ref).length=TI.length:=by rw[ya,G.2.len]
   rw[e,yP] at D;apply .inl ⟨n,_,rfl,.inl (.of (v _ _ hn)),fun c1 ad=>?_⟩;have j:=qD (Sr J) (o:=.lst (ss.map V.str)) ad;have ec:upd J c1 (.lst (ss.map V.str)) c1=some (.lst (ss.map V.str)):=qb;generalize upd J c1 (.lst (ss.map V.str))=X at j ec;apply fun x' aj U L y=>?_;show qgI ec I.few I.nd I.nm ⟨j _ _ Y,D.mono fun t ab z=>j _ _ z⟩ (hd_tgo I.nd Z) U L y fun ns H3 W aa ac=>⟨rfl,q x' ns H3 ((v.trans j).trans W) ((v.trans j).free U) (aa.older (v.trans j)) (ac.to (qev I.nd Z) fun a b _ _=>hd_tA)⟩
theorem ud:FnScope ["_law_many_here","_law_ties_here","_law_found","_law_one","_law_other"] wqI (qg qbB):=fS
theorem btJ_zero(n:Nat):BtJ n [] (List.replicate n 0):=by
 have z:∀ a,(List.replicate n 0).getD a 0=0:=fun a=>by
  rw[Yk,Xc];split<;>rfl
 show⟨YL,fun a=>by rw[z a];show Xq n,fun a b=>?_⟩;unfold qbn;rw[z a];simp
theorem btJ_put{TI:List (Nat×Nat)}{bs:LN}(h:BtJ n TI bs)(i:q.1<q.2/\q.2<n):BtJ n (TI++[q]) ((bs.set q.1 (bs.getD q.1 0 ||| 2 ^ q.2)).set q.2 (bs.getD q.2 0 ||| 2 ^ q.1)):=by
 obtain⟨hl,f,j⟩:=h;have l1:q.1<bs.length:=by lk
 have l2:q.2<(bs.set q.1 (bs.getD q.1 0 ||| 2 ^ q.2)).length:=by rw[xM];lk
 have c:q.1≠q.2:=by lk
 have g:∀ a,((bs.set q.1 (bs.getD q.1 0 ||| 2 ^ q.2)).set q.2 (bs.getD q.2 0 ||| 2 ^ q.1)).getD a 0=if q.2=a then bs.getD q.2 0 ||| 2 ^ q.1 else if q.1=a then bs.getD q.1 0 ||| 2 ^ q.2 else bs.getD a 0:=fun a=>by rw[zB l2,zB l1]
 show⟨by rw[xM,xM,hl],fun a=>?_,fun a b=>?_⟩
 .rw [g a];split
  .show xw (f _) (xp (by decide) (by lk))
  .split
   .show xw (f _) (xp (by decide) i.2)
   .show f a
 .have base:=j a b;unfold qbn at base ⊢;rw[g a,yA,yA,yy,yy];by_cases e:q.2=a
  .subst e;rw[yG rfl,YO,Yl,YJ,base,yE];constructor
   .rintro ((z | z) | z)
    .show .inl (.inl z)
    .show .inr (.inl z)
    .show .inr (.inr (by rw[<- z]))
   .rintro ((z | z) | (z | z))
    .show .inl (.inl z)
    .show absurd (congrArg Prod.fst z) (Ym c)
    .show .inl (.inr z)
    .show .inr (congrArg Prod.fst z).symm
  .rw [yB e];by_cases d:q.1=a
   .subst d;rw[yG rfl,YO,Yl,YJ,base,yE];constructor
    .rintro ((z | z) | z)
     .show .inl (.inl z)
     .show .inr (.inl z)
     .show .inl (.inr (by rw[<- z]))
    .rintro ((z | z) | (z | z))
     .show .inl (.inl z)
     .show .inr (congrArg Prod.snd z).symm
     .show .inl (.inr z)
     .show absurd (congrArg Prod.snd z) c
   .rw [yB d,base];constructor
    .rintro (z | z)
     .show .inl (.inl z)
     .show .inr (.inl z)
    .rintro ((z | z) | (z | z))
     .show .inl z
     .show absurd (congrArg Prod.fst z).symm d
     .show .inr z
     .show absurd (congrArg Prod.snd z).symm e
theorem ok_btJ(F:Fun K "_law_bits" "_law_bits" qbB f fd)(T:Txt K mg cc cw):wq7 1 f fd wqI spBtJ:=by
 show F.ok ud fun _ _ _ _ H vs Q E W h=>?_
 .obtain⟨l,n,ts,TI,rfl,X,j,R,q⟩:=h;have t:=jX W;show⟨_,(qc (qk (i:=2) ud.nd rfl (yH rfl) (qu qeL (qS (qa qh qd)) (pv 0)))
 (qc (qX yS rfl (qd3 (K:=K) rfl (pv 1)) (qb6 rfl (jC (qm (i:=3) ud.nd rfl (yH rfl)) (jC (qm (i:=4) ud.nd rfl (yH rfl)) qbb)))
 (qc (jI (qu qdq (qr (qt (K:=K) rfl t) (pv 2) (pv 3) (fun _ _=>rfl)) (qu zv qh (pv 4))) (jH (pv 2) (pv 3) (jJ t)))
 (qe (jI (qu qdq (qr (qt (K:=K) rfl t) (pv 2) (pv 4) (fun _ _=>rfl)) (qu zv qh (pv 3))) (jH (pv 2) (pv 4) (jJ t))))))
 (qe (qo (pv 2))))),?_⟩
  apply⟨wqqa,fun z B=>?_⟩;have N:=qD (Sr H) (o:=.lst [.int 0]) B;apply⟨z,_,_,rfl,rfl,qb,by lk,by lk,by show 1*_<=sizeLine;rw[y0];show yX (qi (by lk)),fun b L=>?_⟩;rw[y0,qc9];have C:=qD N (o:=.lst (zC (List.replicate n 0))) L;have m:H b=none:=N.free L;have I:upd (upd H z (.lst [.int 0])) b (.lst (zC (List.replicate n 0))) b=some (.lst (zC (List.replicate n 0))):=qb;generalize upd (upd H z (.lst [.int 0])) b (.lst (zC (List.replicate n 0)))=H2 at C I;apply qfu ?_;apply⟨l,_,rfl,.of (C _ _ j.1),qQ (xs:=ts.map V.ref) (fun i σ J=>L2.Same H J/\∃(bs:LN) (D G:Option V),σ=[some (.int (n:Int)),some (.ref l),some (.ref b),D,G]/\J b=some (.lst (zC bs))/\BtJ n (TI.take i) bs) ⟨C,_,_,_,rfl,I,btJ_zero n⟩ (fun i σ J _ p=>.of (p.1 _ _ j.1)) (fun i x σ J M p=>?_) fun σ J p=>?_⟩
  .obtain⟨v,bs,D,G,rfl,s,g⟩:=p;rw[yd] at M;obtain⟨u,r,rfl⟩:=yn.mp M;have S:i<TI.length:=by rw[<- j.2.len];show(yc.mp r).1
   obtain⟨a,d⟩:∃ a,TI[i]?=some a:=⟨_,yb S⟩;have A:=v _ _ (j.2.at_ i u a r d);have U:=R.2.1 a (ye d);have l1:a.1<bs.length:=by rw[g.1];lk
   have l2:a.2<bs.length:=by rw[g.1];lk
   have y:a.1≠a.2:=by lk
   show⟨u,_,rfl,.of A,rfl,_,_,rfl,_,_,rfl,rfl,?_⟩;apply .inl (zN s (qv (ju l1)) ?_);apply vI ⟨by lk,by lk,by decide⟩ ?_;ext;rw[qd7];show .inl (qer s (qcn (by unfold zC;rw[ya];show l1)) ?_);rw[qbq];ext;have O:(bs.set a.1 (bs.getD a.1 0 ||| 2 ^ a.2)).getD a.2 0=bs.getD a.2 0:=by rw[zB l1,yB y]
   show .inl (zN qb (qv (ju (by simpa using l2))) ?_);apply vI ⟨by lk,by lk,by decide⟩ ?_;ext;rw[qd7,O];show .inl (qer qb (qcn (by unfold zC;rw[ya];simpa using l2)) ?_);rw[qbq];apply⟨fun c o e=>?_,_,_,_,rfl,qb,?_⟩
   .have hc:c≠b:=fun z=>by rw[z,m] at e;cases e
    rw[qf hc,qf hc];show v c o e
   .rw [yK,d];show btJ_put g U
  .obtain⟨v,bs,D,G,rfl,s,g⟩:=p;have e:(ts.map V.ref).length=TI.length:=by rw[ya,j.2.len]
   rw[e,yP] at g;apply q b bs J v m s g
theorem Uo:FnScope wqr wqr (qg qa5):=fS
def zL(gs:LN)(n:Nat):LN:=((List.range n).filter fun k=>!decide (k∈gs)).map fun k=>2 ^ k
theorem qcu(gs:LN):∀ n,(zL gs n).sum<2 ^ n/\∀ k,(zL gs n).sum.testBit k=true↔k<n/\k∉gs
 | 0=>⟨by show(0:Nat)<1;decide,fun k=>by simp[zL]⟩
 | n+1=>by
  obtain⟨h1,b⟩:=qcu gs n;have f:2 ^ (n+1)=2 ^ n+2 ^ n:=by rw[Nat.pow_succ];lk
  by_cases a:n∈gs
  .have e:zL gs (n+1)=zL gs n:=by
    unfold zL;rw[YG,yW,yL,yB (by simp[a])];simp
   rw[e];show⟨by lk,fun k=>?_⟩;rw[b k];constructor
   .show fun z=>⟨by lk,z.2⟩
   .intro z;have:k≠n:=fun e=>z.2 (e ▸ a);show⟨by lk,z.2⟩
  .have e:(zL gs (n+1)).sum=2 ^ n ||| (zL gs n).sum:=by
    have c:zL gs (n+1)=zL gs n++[2 ^ n]:=by
     unfold zL;rw[YG,yW,yL,yG (by simp[a])];simp
    have:=Nat.two_pow_add_eq_or_of_lt h1 1;rw[Nat.mul_one] at this;rw[c,<- this,List.sum_append];simp;lk
   rw[e];show⟨xw (by lk) (by lk),fun k=>?_⟩;rw[YO,YJ,b k,Yl,yE];constructor
   .rintro (z | z)
    .show⟨by lk,z ▸ a⟩
    .show⟨by lk,z.2⟩
   .intro z;by_cases d:k=n
    .show .inl d.symm
    .show .inr ⟨by lk,z.2⟩
theorem int_nin{g:Addr}{k:Nat}{Q:VK}(h:H g=some (.lst (gs.map iV)))(q:Q (.bl (!decide (k∈gs))) H):qey K true (iV k) (.ref g) H Q:=by
 classical
 show .inr (.inr ⟨g,gs.map iV,fun z=>eqV z (iV k),1,rfl,SqL.of h,by decide,fun z hz=>?_,?_⟩)
 .obtain⟨j,b,rfl⟩:=yI.mp hz;show .flat rfl rfl
 .have e:(gs.map iV).any (fun z=>eqV z (iV k))=decide (k∈gs):=by
   rw[Yn,YK,yE];constructor
   .rintro ⟨z,hz,e⟩;obtain⟨j,b,rfl⟩:=yI.mp hz;have a:=zk (j:Int) (k:Int);rw[yB (by decide)] at a;rw[a,yE] at e;have:j=k:=by lk
    show this ▸ b
   .intro c;show⟨iV k,yI.mpr ⟨k,c,rfl⟩,?_⟩;have a:=zk (k:Int) (k:Int);rw[yB (by decide)] at a;rw[a];show yD rfl
  rw[yG rfl,e];show q
inductive spRmJ(vs:List V)(H:Hp)(Q:VK)(E:XK):Prop|mk (g:Addr) (n:Nat) (gs:LN) (_:vs=[.int (n:Int),.ref g]) (_:n<=14) (_:H g=some (.lst (gs.map iV))) (_:∀(H':Hp),L2.Same H H'->Q (.int ((zL gs n).sum:Nat)) H')
theorem ok_rmJ(F:Fun K "_law_room" "_law_room" qa5 f fd)(T:Txt K mg cc cw):wq7 1 f fd wqr spRmJ:=by
 show F.ok Uo fun _ _ _ _ H vs Q E p h=>?_
 .obtain⟨g,n,gs,rfl,t,o,q⟩:=h;have r:=jX p;show⟨_,(qe (qo (qp (k_sum (K:=K) rfl rfl) rfl T.b_sum PyProof.Rows.boot_sum (qa (q9 (sc:=qg qa5) (XN:=wqr) ["_law_k","_law_gone"] 1 [1] rfl rfl rfl (by room) rfl (by room)
  (jl rfl T.b_range (qa (pv 0) qd)) (fun _ _ _ _=>(qm (i:=0) (show(["_law_k","_law_gone"]:LS).Nodup by room) rfl (yH rfl))) qH
  (fun _ _ _ _=>(qK (qj (zz (K:=K) rfl r) (pv 0) (pv 1) (by with_unfolding_all rfl))))
  (fun _ _ _ _=>(qu zv qh (pv 0)))) qd)))),?_⟩
  apply⟨(n:Int),rfl,by lk,by lk,?_⟩;rw[y0];show jW (lo:=0) (fun i ys J=>J=H/\ys=((zL gs i).map fun(k:Nat)=>(k:Int)).map V.int) ⟨rfl,rfl⟩ (fun i ys J s d=>?_) fun ys J d=>?_
  .obtain⟨rfl,rfl⟩:=d;rw[xB];apply int_nin o ?_;ext
   have e:zL gs (i+1)=zL gs i++(([i].filter fun k=>!decide (k∈gs)).map fun k=>2 ^ k):=by
    unfold zL;rw[YG,yW,yu]
   have c:(zL gs i).length<=i:=by
    unfold zL;rw[ya];show yi (yF _ _) (by rw[YT];show yh _)
   show qL (fun hc=>?_) (fun hc=>?_)
   .ext;show vI ⟨by lk,by lk,by decide⟩ ?_;rw[qdD];show⟨by rw[ya,ya];show qi (by lk),rfl,?_⟩;rw[e,yL,yG hc];simp
   .show⟨rfl,?_⟩;rw[e,yL,yB hc];simp
  .obtain⟨rfl,rfl⟩:=d
   have c:(zL gs n).length<=n:=by
    unfold zL;rw[ya];show yi (yF _ _) (by rw[YT];show yh _)
   show⟨by rw[ya,ya];show yX (qi (by lk)),fun b m=>?_⟩;apply⟨b,_,rfl,SqL.of qb,?_⟩
   have j:∀ xs:LN,(xs.map fun(k:Nat)=>(k:Int)).sum=((xs.sum:Nat):Int):=fun xs=>by
    induction xs with
    | nil=>rfl
    | cons a l ih=>rw[YC,kM,kM,ih];lk
   rw[j];show q _ (qD (Sr J) m)
def jB(m k:Nat):Nat:=m-(m &&& k)
theorem and_or_dis:∀(a b:Nat),a &&& b=0->a+b=a ||| b:=by
 intro a
 induction a using Nat.strongRecOn with
 | ind a ih =>
  intro b h;by_cases d:a=0
  .subst d;simp
  .have c:(a / 2) &&& (b / 2)=0:=by rw[<- Nat.and_div_two,h]
   have e:=ih (a / 2) (by lk) (b / 2) c
   have h1:(a % 2) &&& (b % 2)=0:=by
    have:=congrArg (· % 2) h;simpa [Nat.and_mod_two_pow (n:=1)] using this
   have j:(a ||| b) / 2=a / 2 ||| b / 2:=Nat.or_div_two
   have i:(a ||| b) % 2=(a % 2) ||| (b % 2):=by
    simpa using Nat.or_mod_two_pow (a:=a) (b:=b) (n:=1)
   have g:(a % 2) ||| (b % 2)=a % 2+b % 2:=by
    rcases XB a with x | x<;>rcases XB b with y | y<;>rw[x,y] at h1 ⊢<;>first | rfl | show absurd h1 (by decide)
   have f:=Nat.div_add_mod (a ||| b) 2;rw[j,i,g,<- e] at f;lk
theorem jQ(m k c:Nat):(jB m k).testBit c=(m.testBit c&&!k.testBit c):=by
 have a:(m &&& k) &&& (m ^^^ (m &&& k))=0:=by
  apply XC;intro i;simp only[Y5,Kd,kX];cases m.testBit i<;>cases k.testBit i<;>rfl
 have h1:=and_or_dis _ _ a
 have d:(m &&& k) ||| (m ^^^ (m &&& k))=m:=by
  apply XC;intro i;simp only[Y5,Kd,YO];cases m.testBit i<;>cases k.testBit i<;>rfl
 have b:jB m k=m ^^^ (m &&& k):=by unfold jB;lk
 rw[b];simp only[Y5,Kd];cases m.testBit c<;>cases k.testBit c<;>rfl
theorem jG(m k:Nat):Builtin.bitAnd (m:Int) (Builtin.bitNot (k:Int))=((jB m k:Nat):Int):=by
 have a:Builtin.bitNot (k:Int)=-(k:Int)-1:=rfl;have b:Builtin.bitNot (-(k:Int)-1)=(k:Int):=by unfold Builtin.bitNot;lk
 unfold Builtin.bitAnd;rw[a,yD (by lk),yl (by lk)];dsimp only;rw[b,y0,y0];have:(m &&& k)<=m:=Ke;unfold jB;lk
theorem qdI(m k:Nat):Builtin.bitAnd (m:Int) (k:Int)=((m &&& k:Nat):Int):=by
 unfold Builtin.bitAnd;rw[yD (by lk),yD (by lk)];dsimp only;rw[y0,y0]
inductive Rr(bs:LN)(r k:Nat):Nat->Prop
 | zero:Rr bs r k k
 | step {a b:Nat} (h:Rr bs r k a) (t:qbn bs a b=true) (i:r.testBit b=true):Rr bs r k b
theorem Rr.trans{bs:LN}{k a b:Nat}(h:Rr bs r k a)(g:Rr bs r a b):Rr bs r k b:=by
 induction g with
 | zero=>show h
 | step _ t i ih=>show .step ih t i
theorem Rr.in_{bs:LN}{k a:Nat}(h:Rr bs r k a)(b:r.testBit k=true):r.testBit a=true:=by
 cases h with
 | zero=>show b
 | step _ _ i=>show i
theorem Rr.symm{bs:LN}{k a:Nat}(d:∀ a b,qbn bs a b=true->qbn bs b a=true)(c:r.testBit k=true)(h:Rr bs r k a):Rr bs r a k:=by
 induction h with
 | zero=>show .zero
 | step h t i ih=>show Rr.trans (.step .zero (d _ _ t) (h.in_ c)) ih
theorem Rr.mono{bs:LN}{b k a:Nat}(d:∀ c,r.testBit c=true->b.testBit c=true)(h:Rr bs r k a):Rr bs b k a:=by
 induction h with
 | zero=>show .zero
 | step _ t i ih=>show .step ih t (d _ i)
def cnt(n P:Nat):Nat:=((List.range n).filter fun c=>P.testBit c).length
def zM(n P:Nat):LN:=(List.range n).filter fun c=>P.testBit c
theorem qfQ(n P:Nat):cnt n P<=n:=yi (yF _ _) (by rw[YT];show yh _)
theorem qfR{P f:Nat}(h:∀ c,P.testBit c=true->f.testBit c=false):cnt n (P ||| f)=cnt n P+cnt n f:=by
 unfold cnt
 induction n with
 | zero=>rfl
 | succ n ih =>
  rw[YG,yW,yW,yW,yt,yt,yt,ih];have e:(P ||| f).testBit n=(P.testBit n||f.testBit n):=YO ..;have b:=h n;simp only[yL,Yr,e];cases d:P.testBit n<;>cases a:f.testBit n<;>simp_all<;>lk
def Lft(bs:LN)(r i c:Nat):Prop:=r.testBit c=true/\∀ j,j<i->r.testBit j=true->¬ Rr bs r j c
open Classical in
def qaf(bs:LN)(r n:Nat):LN:=(List.range n).filter fun k=>decide (Lft bs r k k)
open Classical in
def qaJ(bs:LN)(r n k:Nat):LN:=(List.range n).filter fun c=>decide (Rr bs r k c)
theorem qfb{bs:LN}(g:∀ a b,qbn bs a b=true->qbn bs b a=true)(e:∀ c,ri.testBit c=true↔Lft bs r i c)(hl:Lft bs r i i)(c:Nat):Rr bs ri i c↔Rr bs r i c:=by
 have up:∀ c,ri.testBit c=true->r.testBit c=true:=fun c h=>((e c).mp h).1;constructor
 .show Rr.mono up
 .intro h
  induction h with
  | zero=>show .zero
  | @step a b h t ib ih =>
   show .step ih t ((e b).mpr ⟨ib,fun j f l d=>hl.2 j f l ?_⟩);show d.trans (Rr.symm g hl.1 (.step h t ib))
theorem lft_next{bs:LN}{P:Nat}(n:∀ a b,qbn bs a b=true->qbn bs b a=true)(f:∀ c,ri.testBit c=true↔Lft bs r i c)(hl:Lft bs r i i)(l:∀ c,P.testBit c=true↔Rr bs ri i c)(c:Nat):(jB ri P).testBit c=true↔Lft bs r (i+1) c:=by
 rw[jQ,yY,f c,xU,<- Bool.not_eq_true,l c,qfb n f hl c];constructor
 .rintro ⟨h1,g⟩;show⟨h1.1,fun j m o d=>?_⟩;by_cases e:j=i
  .subst e;show g d
  .show h1.2 j (by lk) o d
 .intro h;show⟨⟨h.1,fun j m=>h.2 j (by lk)⟩,h.2 i (by lk) hl.1⟩
theorem lft_skip{bs:LN}(l:∀ c,ri.testBit c=true↔Lft bs r i c)(hl:¬ Lft bs r i i)(c:Nat):ri.testBit c=true↔Lft bs r (i+1) c:=by
 rw[l c];constructor
 .intro h;show⟨h.1,fun j m f a=>?_⟩;by_cases e:j=i
  .subst e;apply hl;show⟨f,fun n b d g=>h.2 n b d (g.trans a)⟩
  .show h.2 j (by lk) f a
 .intro h;show⟨h.1,fun j m=>h.2 j (by lk)⟩
structure WkJ(bs:LN)(n r i P:Nat)(L:LN):Prop where
 to:∀ c,P.testBit c=true->Rr bs r i c
 self:P.testBit i=true
 lin:∀ a∈L,P.testBit a=true
 cl:∀ a,P.testBit a=true->a∉L->∀ b,qbn bs a b=true->r.testBit b=true->P.testBit b=true
 lt:P<2 ^ n
theorem WkJ.done{bs:LN}{P:Nat}(h:WkJ bs n r i P [])(c:Nat):P.testBit c=true↔Rr bs r i c:=by
 constructor
 .show h.to c
 .intro g
  induction g with
  | zero=>show h.self
  | @step a b _ t ib ih=>show h.cl a ih (by simp) b t ib
theorem qfc{P c:Nat}(h:P<2 ^ n)(hc:P.testBit c=true):c<n:=by
 apply Yh;intro a;rw[X5 (yj h (xq (by decide) (by lk)))] at hc;cases hc
theorem WkJ.next{bs:LN}{P:Nat}{L:LN}{a:Nat}(h:WkJ bs n r i P (L++[a]))(A:∀ a,bs.getD a 0<2 ^ n):WkJ bs n r i (P ||| jB (bs.getD a 0 &&& r) P) (L++zM n (jB (bs.getD a 0 &&& r) P))/\2*(n-cnt n (P ||| jB (bs.getD a 0 &&& r) P))+(L++zM n (jB (bs.getD a 0 &&& r) P)).length<2*(n-cnt n P)+(L++[a]).length:=by
 generalize v:jB (bs.getD a 0 &&& r) P=f
 have m:∀ c,f.testBit c=true↔qbn bs a c=true/\r.testBit c=true/\P.testBit c=false:=fun c=>by
  rw[<- v,jQ,Y5];unfold qbn;cases (bs.getD a 0).testBit c<;>cases r.testBit c<;>cases P.testBit c<;>simp
 have B:=h.lin a (by simp)
 have s:f<2 ^ n:=by
  rw[<- v];unfold jB;have h1:bs.getD a 0 &&& r<=bs.getD a 0:=Ke;have u:=A a;lk
 have d:∀ c,P.testBit c=true->f.testBit c=false:=fun c hc=>by
  cases e:f.testBit c with
  | false=>rfl
  | true=>have:=((m c).mp e).2.2;rw[hc] at this;cases this
 have g:∀ c,(P ||| f).testBit c=true↔P.testBit c=true\/f.testBit c=true:=fun c=>by rw[YO,YJ]
 have x:∀ c,c∈zM n f↔f.testBit c=true:=fun c=>by
  unfold zM;rw[yp,Yo];show⟨fun z=>z.2,fun z=>⟨qfc s z,z⟩⟩
 show⟨⟨fun c hc=>?_,(g i).mpr (.inl h.self),fun c hc=>?_,fun c hc l b t w=>?_,xw h.lt s⟩,?_⟩
 .rcases(g c).mp hc with z | z
  .show h.to c z
  .have y:=(m c).mp z;show .step (h.to a B) y.1 y.2.1
 .rcases yA.mp hc with z | z
  .show(g c).mpr (.inl (h.lin c (by simp[z])))
  .show(g c).mpr (.inr ((x c).mp z))
 .have o:c∉L:=fun z=>l (yR _ z)
  have p:f.testBit c=false:=by
   cases e:f.testBit c with
   | false=>rfl
   | true=>show absurd (yV L ((x c).mpr e)) l
  have q:P.testBit c=true:=by
   rcases(g c).mp hc with z | z
   .show z
   .rw [p] at z;cases z
  by_cases e:c=a
  .subst e
   cases j:P.testBit b with
   | true=>show(g b).mpr (.inl j)
   | false=>show(g b).mpr (.inr ((m b).mpr ⟨t,w,j⟩))
  .show(g b).mpr (.inl (h.cl c q (fun z=>?_) b t w));rcases yA.mp z with z | z
   .show o z
   .show e (yy.mp z)
 .rw [qfR d,yt,yt];have h1:=qfQ n (P ||| f);rw[qfR d] at h1;have u:(zM n f).length=cnt n f:=rfl;rw[u];simp only[yJ,YW];lk
theorem WkJ.start{bs:LN}(d:i<n):WkJ bs n r i (2 ^ i) [i]:=by
 have e:∀ c,(2 ^ i).testBit c=true↔i=c:=fun c=>by rw[Yl,yE]
 show⟨fun c hc=>(e c).mp hc ▸ .zero,(e i).mpr rfl,fun a b=>(e a).mpr (yy.mp b).symm,fun a b f=>absurd (yy.mpr ((e a).mp b).symm) f,xp (by decide) d⟩
theorem Ky:FnScope wqc wqq (qg zo):=fS
inductive spPjJ(vs:List V)(H:Hp)(Q:VK)(E:XK):Prop|mk (bb:Addr) (n r:Nat) (bs:LN) (_:vs=[.int (n:Int),.ref bb,.int (r:Int)]) (_:n<=14) (_:H bb=some (.lst (zC bs))) (_:bs.length=n) (_:(∀ a,bs.getD a 0<2 ^ n)) (_:(∀ a b,qbn bs a b=true->qbn bs b a=true)) (_:r<2 ^ n) (_:∀(l:Addr) (ls:LQ) (H':Hp),L2.Same H H'->H l=none->H' l=some (.lst (ls.map V.ref))->All2 (fun a ks=>H' a=some (.lst (ks.map iV))) ls ((qaf bs r n).map (qaJ bs r n))->Q (.ref l) H')
theorem qdJ(b j:Nat):(if false=true then !eqV (V.int (Builtin.bitAnd ((b:Int) / 2 ^ (j:Int).toNat) 1)) (V.int 1) else eqV (V.int (Builtin.bitAnd ((b:Int) / 2 ^ (j:Int).toNat) 1)) (V.int 1))=b.testBit j:=by
 rw[zk];show zZ b j
open Classical in
theorem reps_on{bs:LN}(h:Lft bs r i i):qaf bs r (i+1)=qaf bs r i++[i]:=by
 unfold qaf;rw[YG,yW,yL,yG (yD h)];rfl
open Classical in
theorem reps_off{bs:LN}(h:¬ Lft bs r i i):qaf bs r (i+1)=qaf bs r i:=by
 unfold qaf;rw[YG,yW,yL,yB (fun z=>h (yk z))];simp
theorem qbC{f:Nat}:zM (n+1) f=zM n f++if f.testBit n=true then [n] else []:=by
 unfold zM;rw[YG,yW,yL];rfl
theorem qa6(n f:Nat):(zM n f).length<=n:=qfQ n f
theorem ok_pjJ(F:Fun K "_law_pieces" "_law_pieces" zo f fd)(T:Txt K mg cc cw):wq7 1 f fd wqq spPjJ:=by
 show F.ok Ky fun _ _ _ _ H vs Q E hr h=>?_
 .obtain⟨bb,n,r,bs,rfl,hn,aa,as,hb,ae,al,q⟩:=h;have hu:=jX hr;show⟨_,(qc (qk (i:=3) Ky.nd rfl (yH rfl) (qS qd))
 (qc (qX yS rfl (jl rfl T.b_range (qa (pv 0) qd)) (qm (i:=4) Ky.nd rfl (yH rfl))
 (qe (qR (qj (jx (K:=K) rfl hu) (qu jT (qu qbj (pv 2) (pv 4)) qh) qh (qx _)) (qc (qk (i:=5) Ky.nd rfl (Y9 rfl) (qu zv qh (pv 4)))
 (qc (qk (i:=6) Ky.nd rfl (yH rfl) (qS (qa (pv 4) qd)))
 (qc (qao yS (qj (qaj (K:=K) rfl hu) (pv 6) (qS qd) (qx _))
 (qc (qk (i:=7) Ky.nd rfl (Y9 rfl) (qu jT (qu jT (qr (qt (K:=K) rfl hu) (pv 1) (k_bm0 (K:=K) rfl yM PySem.F.slot_list_pop PySem.F.type_list_pop mtR_pop (pv 6)) (fun _ _=>rfl)) (pv 2)) (qaA qbG (pv 5))))
 (qc (qk (i:=5) Ky.nd rfl (Y9 rfl) (qu qdq (pv 5) (pv 7)))
 (qe (qP (qbl (K:=K) rfl yM xl xm zP (pv 6) (qa (q9 (sc:=qg zo) (XN:=wqc) ["_law_j","_law_fresh"] 1 [7] rfl rfl rfl (by room) rfl (by room)
  (jl rfl T.b_range (qa (pv 0) qd)) (fun _ _ _ _=>(qm (i:=0) (show(["_law_j","_law_fresh"]:LS).Nodup by room) rfl (yH rfl))) qH
  (fun _ _ _ _=>(qK (qj (jx (K:=K) rfl hu) (qu jT (qu qbj (pv 1) (pv 0)) qh) qh (qx _))))
  (fun _ _ _ _=>(pv 0))) qd)))))))
 (qc (qk (i:=2) Ky.nd rfl (yH rfl) (qu jT (pv 2) (qaA qbG (pv 5))))
 (qe (qP (qbl (K:=K) rfl yM Yc Yd qN (pv 3) (qa (q9 (sc:=qg zo) (XN:=wqc) ["_law_j","_law_piece"] 1 [5] rfl rfl rfl (by room) rfl (by room)
  (jl rfl T.b_range (qa (pv 0) qd)) (fun _ _ _ _=>(qm (i:=0) (show(["_law_j","_law_piece"]:LS).Nodup by room) rfl (yH rfl))) qH
  (fun _ _ _ _=>(qK (qj (jx (K:=K) rfl hu) (qu jT (qu qbj (pv 1) (pv 0)) qh) qh (qx _))))
  (fun _ _ _ _=>(pv 0))) qd)))))))) qw)))
 (qe (qo (pv 3))))),?_⟩
  apply⟨wq9,fun l hl=>?_⟩;have s1:=qD (Sr H) (o:=.lst []) hl;have el:upd H l (.lst []) l=some (.lst []):=qb;generalize upd H l (.lst [])=H1 at s1 el;apply⟨(n:Int),rfl,by lk,by lk,?_⟩;rw[y0];show j5 (lo:=0) (n:=n) (fun i σ J=>L2.Same H J/\∃(ri:Nat) (A:LQ) (y4 y5 y6 B:Option V),σ=[some (.int (n:Int)),some (.ref bb),some (.int (ri:Int)),some (.ref l),y4,y5,y6,B]/\ri<2 ^ n/\(∀ c,ri.testBit c=true↔Lft bs r i c)/\J l=some (.lst (A.map V.ref))/\All2 (fun a ks=>J a=some (.lst (ks.map iV))/\a≠l) A ((qaf bs r i).map (qaJ bs r n))) ⟨s1,r,[],_,_,_,_,rfl,al,fun c=>⟨fun h=>⟨h,fun j hj=>absurd hj (by lk)⟩,fun h=>h.1⟩,el,.nil⟩ (fun i σ J hi t=>?_) fun σ J t=>?_
  .obtain⟨R,ri,A,y4,y5,y6,B,rfl,O,p,eJ,hA⟩:=t;rw[xB];apply vI (by lk) ?_;apply .inl (.inl (.inl ⟨rfl,rfl,?_⟩));rw[qdJ];ext
   have au:A.length<=i:=by
    rw[hA.len,ya];unfold qaf;show yi (yF _ _) (by rw[YT];show yh _)
   show qL (fun h1=>?_) (fun h1=>?_)
   .have M:Lft bs r i i:=(p i).mp h1;apply vI ⟨by lk,by lk,by decide⟩ ?_;rw[qdD];apply⟨wqqa,fun b N=>?_⟩;have s2:=qD (Sr J) (o:=.lst ([i].map iV)) N;have Y:upd J b (.lst ([i].map iV)) b=some (.lst ([i].map iV)):=qb;have eu:upd J b (.lst [V.int (i:Int)])=upd J b (.lst ([i].map iV)):=rfl;rw[eu];have ap:H b=none:=R.free N;have v:∀{c:Addr} {o:HO},J c=some o->c≠b:=fun e z=>by rw[z,N] at e;cases e
    generalize upd J b (.lst ([i].map iV))=J2 at s2 Y;apply⟨fun m σ J'=>∃(d:Nat) (L:LN) (B:Option V),σ=[some (.int (n:Int)),some (.ref bb),some (.int (ri:Int)),some (.ref l),some (.int (i:Int)),some (.int (d:Int)),some (.ref b),B]/\But b J2 J'/\J' b=some (.lst (L.map iV))/\WkJ bs n ri i d L/\2*(n-cnt n d)+L.length<=m/\2*(n-cnt n d)+L.length<=30,⟨_,2 ^ i,[i],_,rfl,(fun c o _ e=>e),Y,WkJ.start hi,yh _,by show 2*(n-cnt n (2 ^ i))+1<=30;lk⟩,fun m σ J' hW=>?_⟩;obtain⟨d,L,B,rfl,b3,e3,wk,hm,ai⟩:=hW;apply⟨wq9,fun e aj=>?_⟩;have s3:=qD (Sr J') (o:=.lst []) aj;have ee:upd J' e (.lst []) e=some (.lst []):=qb;generalize upd J' e (.lst [])=S at s3 ee;have u:=s3 _ _ e3;have keep:∀ c o,J c=some o->S c=some o:=fun c o z=>s3 _ _ (b3 c o (v z) (s2 _ _ z))
    have hL:L=[]\/∃ s a,L=s++[a]:=by
     rcases List.eq_nil_or_concat L with h | ⟨s,a,h⟩
     .show .inl h
     .show .inr ⟨s,a,by rw[h,List.concat_eq_append]⟩
    rcases hL with rfl | ⟨s,a,rfl⟩
    .show .inr (.inl ⟨b,e,true,1,rfl,rfl,by decide,(EqT.lst (n:=0) (e:=fun _=>true) (SqL.of u) (SqL.of ee) rfl fun j x y h=>by(simp at h)),?_⟩);apply yq ?_;apply vU ?_;ext;rw[jG];have D:=keep _ _ eJ;show⟨.inl ⟨rfl,_,.of D⟩,?_⟩;apply⟨(n:Int),rfl,by lk,by lk,?_⟩;rw[y0];show jW (lo:=0) (fun k ys G=>G=S/\ys=(zM k d).map iV) ⟨rfl,rfl⟩ (fun k ys G hk t=>?_) fun ys G t=>?_
     .obtain⟨rfl,rfl⟩:=t;rw[xB];apply vI (by lk) ?_;apply .inl (.inl (.inl ⟨rfl,rfl,?_⟩));rw[qdJ];ext;have bl:=qa6 k d;show qL (fun hc=>?_) (fun hc=>?_)
      .ext;show⟨by rw[ya];show qi (by lk),rfl,?_⟩;rw[qbC,yG hc,yu];rfl
      .show⟨rfl,?_⟩;rw[qbC,yB hc,Ye]
     .obtain⟨rfl,rfl⟩:=t;have bl:=qa6 n d;show⟨by rw[ya];show yX (qi (by lk)),fun g hg=>?_⟩;have s4:=qD (Sr G) (o:=.lst ((zM n d).map iV)) hg;have X:upd G g (.lst ((zM n d).map iV)) g=some (.lst ((zM n d).map iV)):=qb;have gl:g≠l:=fun z=>by rw[z,D] at hg;cases hg
      generalize upd G g (.lst ((zM n d).map iV))=C at s4 X;have ah:=s4 _ _ D;apply⟨l,_,_,rfl,rfl,ah,by rw[ya];show qi (by lk),?_⟩;have wd:=wk.done;have am:jB ri d<2 ^ n:=Yp (by unfold jB;lk) O
      have ec:qaJ bs r n i=zM n d:=by
       classical
       unfold qaJ zM;apply Yx;intro c _;rw[Yn,yE,wd c,qfb ae p M c]
      show⟨fun c o z=>?_,jB ri d,A++[g],_,_,_,_,rfl,am,lft_next ae p M wd,by rw[qb,yu];rfl,?_⟩
      .rw [qf (fun z'=>by rw[z',hl] at z;cases z)];show s4 _ _ (keep _ _ (R c o z))
      .rw [reps_on M,yu];show All2.snoc (hA.mono fun a ks z=>⟨by rw[qf z.2];show s4 _ _ (keep _ _ z.1),z.2⟩) ⟨by rw[qf gl,ec];show X,gl⟩
    .show .inr (.inl ⟨b,e,false,1,rfl,rfl,by decide,EqT.lstL (SqL.of u) (SqL.of ee) (by simp),?_⟩);apply qad ⟨fun σ C=>∃(d:Nat) (L:LN) (B:Option V),σ=[some (.int (n:Int)),some (.ref bb),some (.int (ri:Int)),some (.ref l),some (.int (i:Int)),some (.int (d:Int)),some (.ref b),B]/\But b J2 C/\C b=some (.lst (L.map iV))/\WkJ bs n ri i d L/\2*(n-cnt n d)+L.length<m/\2*(n-cnt n d)+L.length<=30,fun av C ⟨an,L2,y,e',U,W,ao,ak,Z⟩=>⟨_,ak,an,L2,y,e',U,W,ao,yh _,Z⟩,?_⟩;apply⟨.inl ⟨rfl,_,.of u⟩,?_⟩;have pa:=wk.lin a (by simp);have ar:a<n:=qfc wk.lt pa;show⟨b,_,iV a,rfl,rfl,u,by rw[ya,yt,yd];simp,?_⟩;have ed:((s++[a]).map iV).dropLast=s.map iV:=by rw[yu];simp
     rw[ed];have U:But b J2 (upd S b (.lst (s.map iV))):=fun c o hc z=>by rw[qf hc];show s3 _ _ (b3 c o hc z)
     have W:upd S b (.lst (s.map iV)) b=some (.lst (s.map iV)):=qb;generalize upd S b (.lst (s.map iV))=C at U W;have ac:C bb=some (.lst (zC bs)):=U _ _ (v (R _ _ aa)) (s2 _ _ (R _ _ aa));show .inl (zN ac (qv (ju (by lk))) ?_);ext;rw[qdI];show vU ?_;ext;rw[jG,qdC];obtain⟨af,ag⟩:=wk.next hb;generalize jB (bs.getD a 0 &&& ri) d=I at af ag;show⟨.inl ⟨rfl,_,.of W⟩,?_⟩;apply⟨(n:Int),rfl,by lk,by lk,?_⟩;rw[y0];show jW (lo:=0) (fun k ys G=>G=C/\ys=(zM k I).map iV) ⟨rfl,rfl⟩ (fun k ys G hk t=>?_) fun ys G t=>?_
     .obtain⟨rfl,rfl⟩:=t;rw[xB];apply vI (by lk) ?_;apply .inl (.inl (.inl ⟨rfl,rfl,?_⟩));rw[qdJ];ext;have bl:=qa6 k I;show qL (fun hc=>?_) (fun hc=>?_)
      .ext;show⟨by rw[ya];show qi (by lk),rfl,?_⟩;rw[qbC,yG hc,yu];rfl
      .show⟨rfl,?_⟩;rw[qbC,yB hc,Ye]
     .obtain⟨rfl,rfl⟩:=t;have bl:=qa6 n I;show⟨by rw[ya];show yX (qi (by lk)),fun g hg=>?_⟩;have s5:=qD (Sr G) (o:=.lst ((zM n I).map iV)) hg;have X:upd G g (.lst ((zM n I).map iV)) g=some (.lst ((zM n I).map iV)):=qb;generalize upd G g (.lst ((zM n I).map iV))=J5 at s5 X;ext;have aq:s.length<=30:=by rw[yt] at ai;lk
      show⟨b,g,_,_,rfl,rfl,s5 _ _ W,X,by rw[ya,ya];show yX (qi (by lk)),?_⟩;apply⟨_,_,_,rfl,fun c o hc z=>by rw[qf hc];show s5 _ _ (U c o hc z),by rw[qb,yu],af,by lk,by lk⟩
   .ext;have ad:¬ Lft bs r i i:=fun z=>h1 ((p i).mpr z);show⟨R,ri,A,_,_,_,_,rfl,O,lft_skip p ad,eJ,by rw[reps_off ad];show hA⟩
  .obtain⟨R,ri,A,y4,y5,y6,B,rfl,O,p,eJ,hA⟩:=t;apply q l A J R hl eJ (hA.mono fun a ks z=>z.1)
def qO(r n:Nat):LN:=(List.range n).filter fun k=>r.testBit k
theorem kept_mem{k:Nat}:k∈qO r n↔k<n/\r.testBit k=true:=by unfold qO;rw[yp,Yo]
theorem qef(r n:Nat):(qO r n).Pairwise (· < ·):=List.Pairwise.filter _ List.pairwise_lt_range
theorem qcv{p q a b:Nat}(i:(qO r n)[p]?=some a)(j:(qO r n)[q]?=some b):p<q↔a<b:=by
 have e:=Y6.mp (qef r n);obtain⟨f,c⟩:=yc.mp i;obtain⟨g,d⟩:=yc.mp j;constructor
 .intro h;rw[<- c,<- d];show e p q f g h
 .intro h;rcases xv p q with z | z | z
  .show z
  .subst z;rw[c] at d;lk
  .have:=e q p g f z;rw[c,d] at this;lk
def Sub(bs ns:LN)(r n:Nat):Prop:=∀ p q a b,(qO r n)[p]?=some a->(qO r n)[q]?=some b->((ns.getD p 0).testBit q=true↔qbn bs a b=true)
theorem rch_of{bs:LN}(h:Sub bs ns r n)(hl:ns.length=(qO r n).length)(i:∀ a,ns.getD a 0<2 ^ ns.length){p a:Nat}(f:(qO r n)[p]?=some a){q:Nat}(g:Rch ns p q):∃ b,(qO r n)[q]?=some b/\Rr bs r a b:=by
 induction g with
 | zero=>show⟨a,f,.zero⟩
 | @step c d _ t ih =>
  obtain⟨x,j,l⟩:=ih;have e:d<(qO r n).length:=by rw[<- hl];show qfc (i c) t
  show⟨_,yb e,.step l ((h c d _ _ j (yb e)).mp t) ?_⟩;show(kept_mem.mp (xD e)).2
theorem of_rch{bs:LN}(h:Sub bs ns r n)(e:∀ a b,qbn bs a b=true->b<n){p a:Nat}(j:(qO r n)[p]?=some a){b:Nat}(g:Rr bs r a b):∃ q,(qO r n)[q]?=some b/\Rch ns p q:=by
 induction g with
 | zero=>show⟨p,j,.zero⟩
 | @step c d _ t i ih =>
  obtain⟨x,m,o⟩:=ih;have l:d∈qO r n:=kept_mem.mpr ⟨e _ _ t,i⟩;obtain⟨q,f⟩:=yf l;show⟨q,f,.step o ((h x q _ _ m f).mpr t)⟩
theorem qdK{bs:LN}(h:Sub bs ns r n)(hl:ns.length=(qO r n).length)(i:∀ a,ns.getD a 0<2 ^ ns.length)(c:∀ a b,qbn bs a b=true->b<n){p q a b:Nat}(f:(qO r n)[p]?=some a)(d:(qO r n)[q]?=some b):Rch ns p q↔Rr bs r a b:=by
 constructor
 .intro g;obtain⟨j,e,z⟩:=rch_of h hl i f g;rw[d] at e;cases e;show z
 .intro g;obtain⟨q',e,z⟩:=of_rch h c f g
  have:q'=q:=by
   rcases xv q' q with y | y | y
   .have:=(qcv e d).mp y;lk
   .show y
   .have:=(qcv d e).mp y;lk
  rw[this] at z;show z
theorem rep_iff{bs:LN}(h:Sub bs ns r n)(hl:ns.length=(qO r n).length)(l:∀ a,ns.getD a 0<2 ^ ns.length)(d:∀ a b,qbn bs a b=true->b<n){p a:Nat}(c:(qO r n)[p]?=some a):qdE ns p=true↔Lft bs r a a:=by
 rw[isRep_iff];have o:=kept_mem.mp (ye c);constructor
 .intro g;show⟨o.2,fun j i s z=>?_⟩;obtain⟨q,m⟩:=yf (kept_mem.mpr ⟨by lk,s⟩:j∈qO r n);show g q ((qcv m c).mpr i) ((qdK h hl l d m c).mpr z)
 .intro g j i z;have f:j<(qO r n).length:=X1 i (yc.mp c).1;have e:=yb f;show g.2 _ ((qcv e c).mp i) (kept_mem.mp (xD f)).2 ((qdK h hl l d e c).mp z)
theorem qeg(K:LN):(List.range K.length).map (fun i=>K.getD i 0)=K:=by
 show List.ext_getElem (by simp) fun i h1 a=>?_;rw[List.getElem_map,List.getElem_range,Yk,yb a];rfl
theorem qcw{K:LN}{p:Nat}(h:p<K.length):K[p]?=some (K.getD p 0):=by rw[Yk,yb h];rfl
theorem qeh(K:LN)(f:Nat->Bool):K.filter f=((List.range K.length).filter fun p=>f (K.getD p 0)).map fun p=>K.getD p 0:=by
 conv=>lhs;rw[<- qeg K]
 rw[Xr];rfl
theorem qei(f:Nat->Bool)(h:∀ k,k<n->f k=true->r.testBit k=true):(List.range n).filter f=(qO r n).filter f:=by
 unfold qO;rw[List.filter_filter];apply Yx;intro k a;have:=h k (Yo.mp a)
 cases e:f k with
 | false=>rfl
 | true=>rw[this e];rfl
open Classical in
theorem pieces_eq{bs:LN}(C:ss.Nodup)(h:Sub bs ns r ss.length)(hl:ns.length=(qO r ss.length).length)(v:∀ a,ns.getD a 0<2 ^ ns.length)(f:∀ a b,qbn bs a b=true->b<ss.length) :
  (qfo ns ((qO r ss.length).map (tn ss)).length).map (qdb ((qO r ss.length).map (tn ss)) ns)=((qaf bs r ss.length).map (qaJ bs r ss.length)).map fun c=>c.map (tn ss):=by
 have m:∀ k∈qO r ss.length,k<ss.length/\r.testBit k=true:=fun k g=>kept_mem.mp g
 have y:qaf bs r ss.length=((List.range (qO r ss.length).length).filter fun p=>qdE ns p).map fun p=>(qO r ss.length).getD p 0:=by
  have:qaf bs r ss.length=(qO r ss.length).filter fun k=>decide (Lft bs r k k):=qei _ fun k _ g=>(yk g).1;rw[this,qeh]
  congr 1
  apply Yx;intro p i;rw[Yn,yE];show(rep_iff h hl v f (qcw (Yo.mp i))).symm
 have z:∀ p,p<(qO r ss.length).length->qdb ((qO r ss.length).map (tn ss)) ns p=(qaJ bs r ss.length ((qO r ss.length).getD p 0)).map (tn ss):=fun p i=>by
  have d:=qcw i;have o:=m _ (ye d);have w:qaJ bs r ss.length ((qO r ss.length).getD p 0)=(qO r ss.length).filter fun c=>decide (Rr bs r ((qO r ss.length).getD p 0) c):=qei _ fun k _ g=>(yk g).in_ o.2
  have nd:((qO r ss.length).map (tn ss)).Nodup:=by
   show YM.mpr ((qef r ss.length).imp_of_mem fun{a b} A n B e=>?_);have:=zS C (m a A).1 (m b n).1 e;lk
  rw[w,qeh];unfold qdb
  have l:(qO r ss.length).map (tn ss)=(List.range (qO r ss.length).length).map fun q=>tn ss ((qO r ss.length).getD q 0):=by
   conv=>lhs;rw[<- qeg (qO r ss.length)]
   rw[XG];rfl
  have u:∀ q,q<(qO r ss.length).length->((qO r ss.length).map (tn ss)).idxOf (tn ss ((qO r ss.length).getD q 0))=q:=fun q t=>qdc nd (by rw[yd,qcw t];rfl);generalize D:(qO r ss.length).map (tn ss)=M at l u;rw[l,Xr,XG,<- l]
  have x:(List.range (qO r ss.length).length).filter ((fun s=>decide (Rch ns p (M.idxOf s))) ∘ fun q=>tn ss ((qO r ss.length).getD q 0))=(List.range (qO r ss.length).length).filter fun q=>decide (Rr bs r ((qO r ss.length).getD p 0) ((qO r ss.length).getD q 0)):=by
   apply Yx;intro q t;have j:=Yo.mp t;show decide (Rch ns p (M.idxOf (tn ss ((qO r ss.length).getD q 0))))=_;rw[u q j,Yn,yE,yE];show qdK h hl v f d (qcw j)
  rw[x];rfl
 rw[y,XG,XG];unfold qfo;rw[ya];apply List.map_congr_left;intro p i;show z p (Yo.mp (yp.mp i).1)
theorem KE:FnScope wqw wqX (qg jw):=fS
def zt(l:LS)(tps:LP):LP:=tps.filter fun q=>decide (q.1∈l)&&decide (q.2∈l)
def zc(l bar:LS):LS:=l.filter fun s=>!decide (s∈bar)
theorem qcx(l bar:LS):(zc l bar).length<=l.length:=yF _ _
theorem mem_out{l:LS}:a∈zc l bar↔a∈l/\a∉bar:=by unfold zc;rw[yp];simp
def OutN(ss:LS)(kvs:List (Key×V))(xs:LS):Prop:=∀(j:Nat) (s:Str),ss[j]?=some s->(jZ kvs (.inl (j:Int):Key)).isSome=decide (s∈xs)
inductive spWo(cw:Addr)(vs:List V)(H:Hp)(Q:VK)(E:XK):Prop|mk (x a:Addr) (ss:LS) (ns:LN) (tps:LP) (bar:LS) (_:vs=[.ref x,.ref a]) (_:Wt cw H x ss ns tps) (_:(qU ss ns ss.length).length<=30) (_:H a=some (.lst (bar.map V.str))) (_:(∀ s∈bar,s∈ss)) (_:bar.length<=14) (_:∀(y:Addr) (ms:LN) (H':Hp),L2.Same H H'->Wt cw H' y (zc ss bar) ms (zt (zc ss bar) tps)->Q (.ref y) H')
theorem ok_wo(F:Fun K "without" "Web.without" jw f fd)(T:Txt K mg cc cw)(KB:wq6 4 cw "number_of" wqb (spNum cw))(KU:wq6 7 cw "ties" wqh (spTs cw))(Uf:wq8 5 cw "Web" wqu (spWeb cw)):wq7 8 f fd wqX (spWo cw):=by
 show F.ok KE fun _ _ _ _ H vs Q E hr h=>?_
 .obtain⟨x,a,ss,ns,tps,bar,rfl,W,ah,u,hv,aq,q⟩:=h;have Z:=jX hr;obtain⟨wx,dd,ol,nn,hb,aj,an,aw,hw⟩:=id W.web;have few:=hw.few;show⟨_,(qc (qR (jk (jd (qp (qdv (K:=K) rfl) rfl T.b_isinstance Y4 (qa (pv 1) (qa (jU (qa (zd (v:=.ty "list") rfl T.b_list Xu rfl) (qa (zd (v:=.ty "tuple") rfl T.b_tuple boot_tuple rfl) qd))) qd))))) (qe jr) qw)
 (qc (qk (i:=2) KE.nd rfl (Y9 rfl) j0)
 (qc (qX yS rfl (qG (K:=K) rfl (pv 1)) (qm (i:=3) KE.nd rfl (yH rfl))
 (qe (jI jS (jH (pv 2) (qE KB (hmR hr) (pv 0) (qa (pv 3) qd)) (jJ Z)))))
 (qc (qk (i:=4) KE.nd rfl (Y9 rfl) (q9 (sc:=qg jw) (XN:=wqw) ["name","out","self"] 1 [2,0] rfl rfl rfl (by room) rfl (by room)
  (qG (K:=K) rfl (qB (K:=K) rfl (pv 0) rfl)) (fun _ _ _ _=>(qm (i:=0) (show(["name","out","self"]:LS).Nodup by room) rfl (yH rfl))) qH
  (fun _ _ _ _=>(qK (qj (zz (K:=K) rfl Z) (qr (qt (K:=K) rfl Z) (qB (K:=K) rfl (pv 2) rfl) (pv 0) (fun _ _=>rfl)) (pv 1) (by with_unfolding_all rfl))))
  (fun _ _ _ _=>(pv 0))))
 (qc (zJ (sc:=qg jw) (XN:=wqw) ["tie","names"] 1 [4] rfl rfl rfl (by room) rfl (by room) (i:=5) KE.nd rfl rfl
  (qG (K:=K) rfl (jg KU (hmR hr) (pv 0))) (fun _ _ _ _=>(qm (i:=0) (show(["tie","names"]:LS).Nodup by room) rfl (yH rfl))) qH
  (fun _ _ _ _=>(qK (PW.pt (qbi (qj (qae (K:=K) rfl Z) (qr (qt (K:=K) rfl Z) (pv 0) qh (fun _ _=>rfl)) (pv 1) (by with_unfolding_all rfl)) (qba (qj (qae (K:=K) rfl Z) (qr (qt (K:=K) rfl Z) (pv 0) qh (fun _ _=>rfl)) (pv 1) (by with_unfolding_all rfl)))))))
  (fun _ _ _ _=>(pv 0)))
 (qe (qo (qaW Uf (hmR hr) (qa (pv 4) (qa (pv 5) qd)))))))))),?_⟩
  apply⟨wqqb,fun g hg=>?_⟩;have s0:=qD (Sr H) (o:=.tup [.ty "list",.ty "tuple"]) hg;apply qdB (s0 _ _ u) qb ?_;apply yq ?_;ext;intro d hd;have s1:=qD s0 (o:=.dK []) hd;have ed:upd (upd H g (.tup [.ty "list",.ty "tuple"])) d (.dK []) d=some (.dK []):=qb;have ai:H d=none:=s0.free hd;generalize upd (upd H g (.tup [.ty "list",.ty "tuple"])) d (.dK [])=H1 at s1 ed;apply .inl ⟨⟨_,.of (s1 _ _ u)⟩,qQ (xs:=bar.map V.str) (fun i σ J=>L2.Same H J/\∃(kvs:List (Key×V)) (y3 y4 y5:Option V),σ=[some (.ref x),some (.ref a),some (.ref d),y3,y4,y5]/\J d=some (.dK kvs)/\kvs.length<=i/\OutN ss kvs (bar.take i)) ⟨s1,[],_,_,_,rfl,ed,yh _,fun j s' _=>by simp[jZ]⟩ (fun i σ J _ C=>.of (C.1 _ _ u)) (fun i y σ J N C=>?_) fun σ J C=>?_⟩
  .obtain⟨O,kvs,y3,y4,y5,rfl,S,X,p⟩:=C;obtain⟨v,gv,rfl⟩:=jc N;have al:=(yc.mp gv).1;have ao:bar.take (i+1)=bar.take i++[v]:=by rw[yK,gv];rfl
   obtain⟨j,gj⟩:=yf (hv v (ye gv));apply⟨x,wx,_,rfl,O _ _ hb,j8 (by room),?_⟩;apply⟨x,ss,ns,v,j,rfl,W.web.same O,gj,fun J2 s2=>?_⟩;show .inr ⟨d,_,rfl,DPut.k (k:=Sum.inl (j:Int)) (s2 _ _ S) (qi (by lk)),?_⟩;show⟨qaC (O.trans s2) ai,_,_,_,_,rfl,qb,?_,fun j' s' L=>?_⟩
   .have:=jp kvs (Sum.inl (j:Int):Key) (V.bl true);lk
   .rw [qaP,ao];by_cases e:j'=j
    .subst e;rw[yG rfl];have:s'=v:=by rw[L] at gj;show ym gj
     simp[this]
    .rw [yB (fun z=>e (by have:=Sum.inl.inj z;lk)),p j' s' L];have B:¬ s'=v:=fun z=>e (qy hw.nd (by rw[z] at L;show L) gj);simp[B]
  .obtain⟨O,kvs,y3,y4,y5,rfl,S,_,p⟩:=C;rw[show(bar.map V.str).length=bar.length from ya _,yP] at p;have R:=O _ _ an;apply .inl ⟨x,cw,wx,_,.ref ol,rfl,O _ _ hb,T.wcl,T.wo,qa0,?_⟩;show .inl ⟨⟨_,SqL.of R⟩,qF (K:=K) (fun i ys H'=>H'=J/\ys=(zc (ss.take i) bar).map V.str) ⟨rfl,rfl⟩ (fun i ys H' _ C=>by rw[C.1];show SqL.of R) (fun i y ys H' N C=>?_) fun ys H' C=>?_⟩
   .obtain⟨rfl,rfl⟩:=C;rw[yd] at N;obtain⟨sy,gi,rfl⟩:=yn.mp N;have al:=(yc.mp gi).1;obtain⟨i',as,ag,vi⟩:=j7 (i:=0) (ye gi);rw[xA,qy hw.nd ag gi] at vi;have av:(zc (ss.take i) bar).length<=i:=yi (qcx _ _) (by rw[yQ];lk)
    have Y:zc (ss.take (i+1)) bar=zc (ss.take i) bar++(if (!decide (sy∈bar))=true then [sy] else []):=by
     unfold zc;rw[yK,gi,yW];show _++[sy].filter _=_;rw[yL,Yr]
    apply .inl ⟨x,cw,wx,_,.ref dd,rfl,O _ _ hb,T.wcl,T.wn,jY,?_⟩;apply .inr ⟨dd,.int i,rfl,?_,?_⟩
    .have:=DGet.k (k:=Sum.inr sy) (O _ _ aj);rw[vi] at this;show this
    apply .inr (.inl ⟨d,_,rfl,DGet.k (k:=Sum.inl (i:Int)) S,?_⟩);have ev:(if true=true then !(jZ kvs (Sum.inl (i:Int):Key)).isSome else(jZ kvs (Sum.inl (i:Int):Key)).isSome)=!decide (sy∈bar):=by rw[yG rfl,p i sy gi]
    rw[ev,Y];show⟨_,rfl,?_⟩
    cases (!decide (sy∈bar)) with
    | true =>
     show qad ?_;apply⟨by rw[ya];show qi (by lk),rfl,by rw[yG rfl,yu];rfl⟩
    | false=>show qL (fun h=>by cases h) fun _=>⟨rfl,by rw[yB (by decide),Ye]⟩
   .obtain⟨rfl,rfl⟩:=C;rw[show(ss.map V.str).length=ss.length from ya _,yP];have ar:=qcx ss bar;show⟨by rw[ya];show yX (qi (by lk)),fun m hm=>?_⟩;have s3:=qD O (o:=.lst ((zc ss bar).map V.str)) hm;have em:upd H' m (.lst ((zc ss bar).map V.str)) m=some (.lst ((zc ss bar).map V.str)):=qb;generalize upd H' m (.lst ((zc ss bar).map V.str))=J3 at s3 em;apply⟨x,wx,_,rfl,s3 _ _ hb,j8 (by room),?_⟩;apply⟨x,ss,ns,rfl,W.web.same s3,fun l ts J4 s4 au hl am M=>?_⟩;have U:=s4 _ _ em;obtain⟨c,s⟩:∃ c,c=qU ss ns ss.length:=⟨_,rfl⟩;rw[<- s] at M;show .inl ⟨⟨_,.of hl⟩,qF (xs:=ts.map V.ref) (fun i ys G=>G=J4/\∃ us:LQ,ys=us.map V.ref/\us.length<=i/\All2 (fun t ab=>J4 t=some (.tup [.str ab.1,.str ab.2])) us (zt (zc ss bar) (c.take i))) ⟨rfl,[],rfl,yh _,.nil⟩ (fun i ys G _ D=>by rw[D.1];show .of hl) (fun i y ys G N D=>?_) fun ys G D=>?_⟩
    .obtain⟨rfl,us,rfl,ae,hU⟩:=D;rw[yd] at N;obtain⟨t,ht,rfl⟩:=yn.mp N;have hi:=(yc.mp ht).1;obtain⟨ab,n⟩:∃ ab,c[i]?=some ab:=⟨_,yb (by rw[<- M.len];show hi)⟩;obtain⟨_,_,z3⟩:=M.at_ i t ab ht n
     have Y:zt (zc ss bar) (c.take (i+1))=zt (zc ss bar) (c.take i)++(if (decide (ab.1∈zc ss bar)&&decide (ab.2∈zc ss bar))=true then [ab] else []):=by
      unfold zt;rw[yK,n,yW];show _++[ab].filter _=_;rw[yL,Yr]
     rw[Y];apply .inl (qaV z3 (v:=.str ab.1) (qv (j:=0) rfl) ?_);apply qct U ?_;show⟨_,rfl,?_⟩
     cases decide (ab.1∈zc ss bar) with
     | false=>show qL (fun h=>by cases h) fun _=>qL (fun h=>by cases h) fun _=>⟨rfl,us,rfl,by lk,by rw[Bool.false_and,yB (by decide),Ye];show hU⟩
     | true =>
      show qad ?_;apply .inl (qaV z3 (v:=.str ab.2) (qv (j:=1) rfl) ?_);apply qct U ?_;show⟨_,rfl,?_⟩;rw[Bool.true_and]
      cases decide (ab.2∈zc ss bar) with
      | false=>show qL (fun h=>by cases h) fun _=>⟨rfl,us,rfl,by lk,by rw[yB (by decide),Ye];show hU⟩
      | true =>
       show qad ?_;apply⟨by rw[ya];show qi (by lk),rfl,us++[t],by rw[yu];rfl,by rw[yt];simp;lk,by rw[yG rfl];show hU.snoc z3⟩
    .obtain⟨rfl,us,rfl,ae,hU⟩:=D;rw[show(ts.map V.ref).length=c.length by rw[ya,M.len],yP] at hU;rw[ya] at ae;show⟨by rw[ya];show yX (qi (by lk)),fun kl X=>?_⟩;have ap:=s3.trans s4;have s5:=qD ap (o:=.lst (us.map V.ref)) X;have af:=qD (Sr G) (o:=.lst (us.map V.ref)) X;have aa:upd G kl (.lst (us.map V.ref)) kl=some (.lst (us.map V.ref)):=qb;have ad:PL (upd G kl (.lst (us.map V.ref))) kl us (zt (zc ss bar) c):=⟨aa,hU.mono fun _ _ z=>af _ _ z⟩;have ac:=af _ _ U;generalize upd G kl (.lst (us.map V.ref))=G5 at s5 aa ad ac
     have I:∀{a b:Str},(a,b)∈zt (zc ss bar) c↔(a,b)∈c/\a∈zc ss bar/\b∈zc ss bar:=fun{a b}=>by
      unfold zt;rw[yp,yY,yE,yE]
     have hg:TGo (zc ss bar) (zt (zc ss bar) c):=by
      show⟨yi (yF _ _) (by rw[s];show ah),fun ab n=>?_,?_⟩
      .obtain⟨h1,h2,h3⟩:=I.mp n;rw[s] at h1;show⟨h2,h3,W.ir _ _ ((zr hw W.adj).mp h1).1⟩
      .show xk (fun{q r} hq hr B=>⟨B,fun z=>?_⟩) ((kA).nodup (by rw[s];show qe5 hw):(zt (zc ss bar) c).Nodup);have q1:=(I.mp hq).1;have r1:=(I.mp hr).1;rw[s] at q1 r1;obtain⟨_,i1,j1,l1,a1,b1⟩:=(zr hw W.adj).mp q1;obtain⟨_,i2,j2,l2,a2,b2⟩:=(zr hw W.adj).mp r1;rw[z] at a1 b1;have:=qy hw.nd a1 b2;have:=qy hw.nd b1 a2;lk
     apply fun y dx N ak B=>qgI ac (by lk) (hw.nd.filter _) (fun z hz=>hw.nm z (mem_out.mp hz).1) ad hg N ak B fun ms H9 s9 _ W9=>⟨rfl,?_⟩;show q y ms H9 (s5.trans s9) (W9.to (fun ab n=>?_) fun a b u A=>?_)
     .unfold zt at n;obtain⟨h1,h2⟩:=yp.mp n;rw[yY,yE,yE] at h2;show⟨h2.1,h2.2,(W.ok _ h1).2.2⟩
     .have k1:∀{a b:Str},a∈zc ss bar->b∈zc ss bar->((a,b)∈zt (zc ss bar) tps↔(a,b)∈tps):=fun u hb=>by
       unfold zt;rw[yp,yY,yE,yE];show⟨fun z=>z.1,fun z=>⟨z,u,hb⟩⟩
      unfold tA;rw[k1 u A,k1 A u,I,I,s];constructor
      .rintro (z | z)
       .show((zr hw W.adj).mp z.1).1
       .show((zr hw W.adj).mp z.1).1.symm
      .intro z;obtain⟨ia,ga⟩:=yf (mem_out.mp u).1;obtain⟨ib,gb⟩:=yf (mem_out.mp A).1;rcases xv ia ib with k | k | k
       .show .inl ⟨(zr hw W.adj).mpr ⟨z,ia,ib,k,ga,gb⟩,u,A⟩
       .subst k;rw[ga] at gb;show absurd (ym gb) (W.ir _ _ z)
       .show .inr ⟨(zr hw W.adj).mpr ⟨z.symm,ib,ia,k,gb,ga⟩,A,u⟩
def qaF(ks:LS):Bool:=decide (ks.length % 2=1)
theorem qfd{f:Str->Option Str}(m:Mt tps ss f)(F:∀ a b,tA tps a b->a≠b)(h1:∀ p∈ps,p.Nodup/\(∀ a∈p,a∈ss/\a∉bar)/\∀ a∈p,∀ b,tA tps a b->b∈bar\/b∈p)(E:ps.Pairwise fun p q=>∀ a∈p,a∉q):∃ T:LS->Str,(∀ p∈ps,qaF p=true->(T p∈p/\f (T p)=none)\/(T p∈bar/\∃ a∈p,f a=some (T p)))/\((ps.filter qaF).map T).Nodup/\∀ x∈(ps.filter qaF).map T,x∈snL f ss++bar:=by
 have u:∀ p∈ps,qaF p=true->∃ t,(t∈p/\f t=none)\/(t∈bar/\∃ a∈p,f a=some t):=fun p c s=>Yh fun hc=>by
  obtain⟨l,B,H⟩:=h1 p c
  have:=qfv (g:=f) p.length (yh _) l fun x h=>by
   cases e:f x with
   | none=>show absurd ⟨x,.inl ⟨h,e⟩⟩ hc
   | some y =>
    have A:=m.tie x y e;rcases H x h y A with z | z
    .show absurd ⟨y,.inr ⟨z,x,h,e⟩⟩ hc
    .show⟨y,z,rfl,Ym (F _ _ A),m.sym x y e⟩
  have:=yk s;lk
 haveI:Nonempty Str:=⟨""⟩
 obtain⟨T,j⟩:∃ T:LS->Str,∀ p∈ps,qaF p=true->(T p∈p/\f (T p)=none)\/(T p∈bar/\∃ a∈p,f a=some (T p)):=
  ⟨fun p=>Classical.epsilon fun t=>(t∈p/\f t=none)\/(t∈bar/\∃ a∈p,f a=some t),fun p c s=>Classical.epsilon_spec (u p c s)⟩
 have r:∀ p∈ps.filter qaF,p∈ps/\qaF p=true:=fun p c=>yp.mp c;show⟨T,j,YM.mpr ((E.filter qaF).imp_of_mem fun{p q} c G w e=>?_),fun x h=>?_⟩
 .obtain⟨i,v⟩:=r p c;obtain⟨C,I⟩:=r q G;rcases j p i v with⟨d,n⟩ | ⟨d,a,n,J⟩<;>rcases j q C I with⟨o,D⟩ | ⟨o,b,D,K⟩
  .show w _ d (by rw[e];show o)
  .show((h1 p i).2.1 _ d).2 (by rw[e];show o)
  .show((h1 q C).2.1 _ o).2 (by rw[<- e];show d)
  .have l:=m.sym _ _ J;have B:=m.sym _ _ K;rw[e,B] at l;cases l;show w _ n D
 .obtain⟨p,c,rfl⟩:=yI.mp h;obtain⟨i,v⟩:=r p c;rcases j p i v with⟨d,n⟩ | ⟨d,_⟩
  .show yR _ (mem_sn.mpr ⟨((h1 p i).2.1 _ d).1,n⟩)
  .show yV _ d
theorem weak{f:Str->Option Str}(m:Mt tps ss f)(d:∀ a b,tA tps a b->a≠b)(h1:∀ p∈ps,p.Nodup/\(∀ a∈p,a∈ss/\a∉bar)/\∀ a∈p,∀ b,tA tps a b->b∈bar\/b∈p)(c:ps.Pairwise fun p q=>∀ a∈p,a∉q):(ps.filter qaF).length+qaD f ss<=ss.length+bar.length:=by
 obtain⟨T,_,nd,e⟩:=qfd m d h1 c;have:=qcs nd e;rw[ya,yt] at this;have g:=qac (f:=f) (ss:=ss);lk
def qfS(f:Str->Option Str)(bar:LS)(a:Str):Prop:=f a=none\/∃ b∈bar,f a=some b
structure Shp(ss:LS)(f:Str->Option Str)(bar:LS)(ps:List (LS)):Prop where
 al:∀ x∈ss,f x=none->∃ p∈ps,qaF p=true/\x∈p
 br:∀ b∈bar,∃ p∈ps,qaF p=true/\∃ a∈p,f b=some a
 on:∀ p∈ps,qaF p=true->∃ a∈p,qfS f bar a/\∀ a'∈p,qfS f bar a'->a'=a
theorem qfe(e:ps.Pairwise fun p q=>∀ a∈p,a∉q){p q:LS}(f:p∈ps)(g:q∈ps)(h1:a∈p)(b:a∈q):p=q:=by
 obtain⟨i,c,rfl⟩:=xZ f;obtain⟨j,d,rfl⟩:=xZ g;have k:=Y6.mp e;rcases xv i j with z | z | z
 .show absurd b (k i j c d z a h1)
 .subst z;rfl
 .show absurd h1 (k j i d c z a b)
theorem sharp{f:Str->Option Str}(m:Mt tps ss f)(H:∀ a b,tA tps a b->a≠b)(h1:∀ p∈ps,p.Nodup/\(∀ a∈p,a∈ss/\a∉bar)/\∀ a∈p,∀ b,tA tps a b->b∈bar\/b∈p)(E:ps.Pairwise fun p q=>∀ a∈p,a∉q)(M:ss.length+bar.length<=(ps.filter qaF).length+qaD f ss):Shp ss f bar ps:=by
 obtain⟨T,D,nd,J⟩:=qfd m H h1 E
 have u:∀ x∈snL f ss++bar,∃ p∈ps,qaF p=true/\T p=x:=fun x F=>Yh fun hc=>by
  have I:x∉(ps.filter qaF).map T:=fun z=>by
   obtain⟨p,c,e⟩:=yI.mp z;show hc ⟨p,(yp.mp c).1,(yp.mp c).2,e⟩
  have:=qcs (l:=x::(ps.filter qaF).map T) (m:=snL f ss++bar) (yo.mpr ⟨I,nd⟩) fun y K=>(yx.mp K).elim (fun e=>e ▸ F) (J y);rw[yJ,ya,yt] at this;have L:=qac (f:=f) (ss:=ss);lk
 have o:∀ b∈bar,∃ p∈ps,qaF p=true/\T p=b/\∃ a∈p,f a=some b:=fun b s=>by
  obtain⟨p,c,d,e⟩:=u b (yV _ s);rcases D p c d with⟨g,_⟩ | ⟨_,a,i,n⟩
  .show absurd s (e ▸ ((h1 p c).2.1 _ g).2)
  .show⟨p,c,d,e,a,i,e ▸ n⟩
 have own:∀ p∈ps,∀ a∈p,qfS f bar a->(T p=a/\f a=none)\/(T p∈bar/\f a=some (T p)):=fun p c a r h=>by
  rcases h with e | ⟨b,s,e⟩
  .obtain⟨q,t,d,j⟩:=u a (yR _ (mem_sn.mpr ⟨((h1 p c).2.1 a r).1,e⟩));rcases D q t d with⟨g,_⟩ | ⟨g,_⟩
   .have:=qfe E c t r (j ▸ g);show .inl ⟨this ▸ j,e⟩
   .show absurd (j ▸ g) ((h1 p c).2.1 a r).2
  .obtain⟨q,t,d,j,v,i,n⟩:=o b s;have B:=m.sym _ _ e;rw[m.sym _ _ n] at B;cases B;have:=qfe E c t r i;subst this;show .inr ⟨j ▸ s,by rw[j];show e⟩
 show⟨fun x F e=>?_,fun b s=>?_,fun p c d=>?_⟩
 .obtain⟨q,t,d,j⟩:=u x (yR _ (mem_sn.mpr ⟨F,e⟩));rcases D q t d with⟨g,_⟩ | ⟨_,a,i,n⟩
  .show⟨q,t,d,j ▸ g⟩
  .have:=m.sym _ _ n;rw[j,e] at this;cases this
 .obtain⟨p,c,d,_,a,i,n⟩:=o b s;show⟨p,c,d,a,i,m.sym _ _ n⟩
 .have w:∀ a∈p,qfS f bar a->∃ a∈p,qfS f bar a/\∀ v∈p,qfS f bar v->v=a:=fun a r h=>⟨a,r,h,fun v A h'=>by
   rcases own p c a r h with⟨e,z⟩ | ⟨e,z⟩<;>rcases own p c v A h' with⟨C,G⟩ | ⟨C,G⟩
   .show C.symm.trans e
   .show absurd (e ▸ C) ((h1 p c).2.1 a r).2
   .show absurd (C ▸ e) ((h1 p c).2.1 v A).2
   .have B:=m.sym _ _ z;rw[m.sym _ _ G] at B;show ym B⟩
  rcases D p c d with⟨g,i⟩ | ⟨g,a,i,n⟩
  .show w _ g (.inl i)
  .show w a i (.inr ⟨_,g,n⟩)
structure BarJ(ss:LS)(TI:List (Nat×Nat))(bs gs:LN):Prop where
 ok:NOk ss
 tj:TJ ss.length TI
 bt:BtJ ss.length TI bs
 nd:gs.Nodup
 lt:∀ k∈gs,k<ss.length
abbrev rmJ(gs:LN)(n:Nat):Nat:=(zL gs n).sum
def pcJ(bs gs:LN)(n:Nat):List (LN):=(qaf bs (rmJ gs n) n).map (qaJ bs (rmJ gs n) n)
def odJ(bs gs:LN)(n:Nat):Nat:=((pcJ bs gs n).filter fun c=>decide (c.length % 2=1)).length
theorem BtJ.sym{TI:List (Nat×Nat)}{bs:LN}(h:BtJ n TI bs):∀ a b,qbn bs a b=true->qbn bs b a=true:=fun a b z=>(h.2.2 b a).mpr ((h.2.2 a b).mp z).symm
section
variable{ss:LS}{TI:List (Nat×Nat)}{bs gs:LN}
theorem qej(B:BarJ ss TI bs gs){k:Nat}(c:k<ss.length):tn ss k∈gs.map (tn ss)↔k∈gs:=by
 rw[yI];constructor
 .rintro ⟨j,a,b⟩;rw[<- zS B.ok.nd (B.lt j a) c b];show a
 .show fun z=>⟨k,z,rfl⟩
theorem qek(B:BarJ ss TI bs gs):zc ss (gs.map (tn ss))=(qO (rmJ gs ss.length) ss.length).map (tn ss):=by
 unfold zc
 have e:ss=(List.range ss.length).map (tn ss):=by
  show List.ext_getElem (by simp) fun i h1 d=>?_;rw[List.getElem_map,List.getElem_range];have:=qaE h1;rw[yb h1] at this;show ym this
 generalize b:gs.map (tn ss)=M
 conv=>lhs;rw[e]
 rw[Xr]
 congr 1
 unfold qO;apply Yx;intro k c;have a:=Yo.mp c;show(!decide (tn ss k∈M))=(rmJ gs ss.length).testBit k;rw[Yn,(qcu gs ss.length).2 k,xU,Xi,<- b,qej B a];show⟨fun z=>⟨a,z⟩,fun z=>z.2⟩
theorem qga(B:BarJ ss TI bs gs)(a:i<ss.length)(b:j<ss.length):tA (TI.map (nmP ss)) (tn ss i) (tn ss j)↔qbn bs i j=true:=by
 have f:∀ i j,i<ss.length->j<ss.length->((tn ss i,tn ss j)∈TI.map (nmP ss)↔(i,j)∈TI):=fun i j a b=>by
  rw[yI];constructor
  .rintro ⟨q,d,e⟩;have c:=B.tj.2.1 q d;have g:=zS B.ok.nd (by lk) a (congrArg Prod.fst e);have h:=zS B.ok.nd c.2 b (congrArg Prod.snd e);have:q=(i,j):=Xd g h;rw[<- this];show d
  .show fun z=>⟨(i,j),z,rfl⟩
 unfold tA;rw[f i j a b,f j i b a,B.bt.2.2 i j]
theorem sub_wt(B:BarJ ss TI bs gs)(e:Adj (zc ss (gs.map (tn ss))) ms (zt (zc ss (gs.map (tn ss))) (TI.map (nmP ss)))):Sub bs ms (rmJ gs ss.length) ss.length:=by
 intro p q a b c d;rw[qek B] at e;have l:=(kept_mem.mp (ye c)).1;have m:=(kept_mem.mp (ye d)).1;have h1:=e p q (tn ss a) (tn ss b) (by rw[yd,c];rfl) (by rw[yd,d];rfl);have g:tn ss a∈(qO (rmJ gs ss.length) ss.length).map (tn ss):=yI.mpr ⟨a,ye c,rfl⟩;have h:tn ss b∈(qO (rmJ gs ss.length) ss.length).map (tn ss):=yI.mpr ⟨b,ye d,rfl⟩
 have f:∀ s t,s∈(qO (rmJ gs ss.length) ss.length).map (tn ss)->t∈(qO (rmJ gs ss.length) ss.length).map (tn ss)->((s,t)∈zt ((qO (rmJ gs ss.length) ss.length).map (tn ss)) (TI.map (nmP ss))↔(s,t)∈TI.map (nmP ss)):=fun s t i j=>by
  unfold zt;rw[yp];show⟨fun z=>z.1,fun z=>⟨z,by simp only[yD i,yD j];rfl⟩⟩
 rw[h1,f _ _ g h,f _ _ h g];show qga B l m
theorem pcs_J(B:BarJ ss TI bs gs)(hw:WOk (zc ss (gs.map (tn ss))) ms)(e:Adj (zc ss (gs.map (tn ss))) ms (zt (zc ss (gs.map (tn ss))) (TI.map (nmP ss)))):(qfo ms (zc ss (gs.map (tn ss))).length).map (qdb (zc ss (gs.map (tn ss))) ms)=(pcJ bs gs ss.length).map fun c=>c.map (tn ss):=by
 have f:=sub_wt B e;obtain⟨h1,_,_,d,_⟩:=hw;rw[qek B] at h1 d ⊢;rw[ya] at h1
 show pieces_eq B.ok.nd f h1 (by rw[h1];rw[ya] at d;show d) fun a b z=>by
  rcases(B.bt.2.2 a b).mp z with y | y
  .show(B.tj.2.1 _ y).2
  .have:=B.tj.2.1 _ y;show X1 this.1 this.2
structure PcsOk(ss:LS)(tps:LP)(bar:LS)(ps:List (LS)):Prop where
 h1:∀ p∈ps,p.Nodup/\(∀ a∈p,a∈ss/\a∉bar)/\∀ a∈p,∀ b,tA tps a b->b∈bar\/b∈p
 h2:ps.Pairwise fun p q=>∀ a∈p,a∉q
 cov:∀ a∈ss,a∉bar->∃ p∈ps,a∈p
 con:∀ p∈ps,∀ X:Str->Prop,(∀ a∈p,∀ b∈p,tA tps a b->X a->X b)->∀ a∈p,∀ b∈p,X a->X b
theorem rep_of{bs:LN}:∀ d,r.testBit d=true->∃ k,k<=d/\Lft bs r k k/\Rr bs r k d:=by
 intro d
 induction d using Nat.strongRecOn with
 | ind d ih =>
  intro e;by_cases h:Lft bs r d d
  .show⟨d,yh _,h,.zero⟩
  .obtain⟨j,h1,a,b⟩:∃ j,j<d/\r.testBit j=true/\Rr bs r j d:=Yh fun c=>h ⟨e,fun j f m g=>c ⟨j,f,m,g⟩⟩;obtain⟨k,n,i,l⟩:=ih j h1 a;show⟨k,by lk,i,l.trans b⟩
theorem pcs_ok(B:BarJ ss TI bs gs):PcsOk ss (TI.map (nmP ss)) (gs.map (tn ss)) ((pcJ bs gs ss.length).map fun c=>c.map (tn ss)):=by
 have s:=(qcu gs ss.length).2;have j:∀ k c,c∈qaJ bs (rmJ gs ss.length) ss.length k↔c<ss.length/\Rr bs (rmJ gs ss.length) k c:=fun k c=>by unfold qaJ;rw[yp,Yo];simp
 have w:∀ k,k∈qaf bs (rmJ gs ss.length) ss.length↔k<ss.length/\Lft bs (rmJ gs ss.length) k k:=fun k=>by unfold qaf;rw[yp,Yo];simp
 show⟨fun p J=>?_,?_,fun a m n=>?_,fun p J X U a m b n K=>?_⟩
 .obtain⟨T,o,rfl⟩:=yI.mp J;obtain⟨k,r,rfl⟩:=yI.mp o;have g:=(w k).mp r;have inn:∀ c,c∈qaJ bs (rmJ gs ss.length) ss.length k->c<ss.length/\c∉gs:=fun c hc=>(s c).mp (((j k c).mp hc).2.in_ g.2.1);show⟨?_,fun a m=>?_,fun a m b n=>?_⟩
  .have nd:(qaJ bs (rmJ gs ss.length) ss.length k).Nodup:=by unfold qaJ;show List.nodup_range.filter _
   show YM.mpr (nd.imp_of_mem fun{x y} K W I e=>I (zS B.ok.nd (inn x K).1 (inn y W).1 e))
  .obtain⟨c,hc,rfl⟩:=yI.mp m;have:=inn c hc;show⟨qdh this.1,fun z=>this.2 ((qej B this.1).mp z)⟩
  .obtain⟨c,hc,rfl⟩:=yI.mp m;have G:=(inn c hc).1;have E:b∈ss:=n.elim (fun z=>(qev B.ok.nd B.tj _ z).2.1) fun z=>(qev B.ok.nd B.tj _ z).1;obtain⟨d,l⟩:=yf E;have f:=(yc.mp l).1;have C:b=tn ss d:=by rw[qaE f] at l;show(ym l).symm
   subst C;by_cases N:d∈gs
   .show .inl ((qej B f).mpr N)
   .show .inr (yI.mpr ⟨d,(j k d).mpr ⟨f,.step ((j k c).mp hc).2 ((qga B G f).mp n) ((s d).mpr ⟨f,N⟩)⟩,rfl⟩)
 .unfold pcJ;rw[XG];have L:(qaf bs (rmJ gs ss.length) ss.length).Pairwise (· < ·):=by unfold qaf;show List.pairwise_lt_range.filter _
  show YM.mpr (L.imp_of_mem fun{k k'} r g H a m D=>?_);obtain⟨c,hc,rfl⟩:=yI.mp m;obtain⟨c',F,e⟩:=yI.mp D;have h1:=(j _ _).mp hc;have M:=(j _ _).mp F;have:=zS B.ok.nd M.1 h1.1 e;subst this;have O:=(w k).mp r;have A:=(w k').mp g;show A.2.2 k H O.2.1 (h1.2.trans (M.2.symm B.bt.sym A.2.1))
 .obtain⟨d,l⟩:=yf m;have f:=(yc.mp l).1;have C:a=tn ss d:=by rw[qaE f] at l;show(ym l).symm
  subst C;obtain⟨k,O,A,Y⟩:=rep_of (bs:=bs) d ((s d).mpr ⟨f,fun z=>n ((qej B f).mpr z)⟩);show⟨_,yI.mpr ⟨_,yI.mpr ⟨k,(w k).mpr ⟨by lk,A⟩,rfl⟩,rfl⟩,yI.mpr ⟨d,(j k d).mpr ⟨f,Y⟩,rfl⟩⟩
 .obtain⟨T,o,rfl⟩:=yI.mp J;obtain⟨k,r,rfl⟩:=yI.mp o;have g:=(w k).mp r;obtain⟨c,hc,rfl⟩:=yI.mp m;obtain⟨d,l,rfl⟩:=yI.mp n;have q:=(j _ _).mp hc;have go:=(q.2.symm B.bt.sym g.2.1).trans ((j _ _).mp l).2;clear l n
  induction go with
  | zero=>show K
  | @step u v h t i ih =>
   have Z:=q.2.trans (.step h t i);have P:=q.2.trans h;have R:=((s u).mp (P.in_ g.2.1)).1;have S:=((s v).mp i).1;show U _ (yI.mpr ⟨u,(j k u).mpr ⟨R,P⟩,rfl⟩) _ (yI.mpr ⟨v,(j k v).mpr ⟨S,Z⟩,rfl⟩) ((qga B R S).mpr t) ih
theorem qgJ{bs:LN}:(((pcJ bs gs ss.length).map fun c=>c.map (tn ss)).filter qaF).length=odJ bs gs ss.length:=by
 rw[Xr,ya]
 have e:(qaF ∘ fun c:LN=>c.map (tn ss))=fun c=>decide (c.length % 2=1):=by
  funext c;show decide ((c.map (tn ss)).length % 2=1)=_;rw[ya]
 rw[e];rfl
end
theorem uI:FnScope wqK wqf (qg qan):=fS
theorem uB:FnScope wql wql (qg jR):=fS
theorem uU:FnScope wql wql (qg za):=fS
theorem Ug:FnScope wql wql (qg qa7):=fS
theorem PGo.grt(c:∀ a b,tA tps a b->a≠b)(g:PGo ss tps qs):Gr (tA tps) (pt qs):=⟨fun z=>Or.symm z,fun z=>c _ _ z,fun{a b} e=>g.fn.sym a b e,fun{a b} e=>g.fn.tie a b e⟩
theorem mx_le{rs:LP}(d:∀ a b,tA tps a b->a≠b)(c:ss.Nodup)(g:PGo ss tps qs)(m:MxF ss tps qs)(g':PGo ss tps rs):rs.length<=qs.length:=by
 obtain⟨S,F⟩:=m;have h1:=F.most (g'.grt d)
 have n:(ss.filter fun u=>!(pt rs u).isSome&&(S.rows u).isSome).length<=(snL (pt rs) ss).length:=by
  unfold snL
  show qcs (c.filter _) fun x e=>by
   obtain⟨a,b⟩:=yp.mp e;rw[yY] at b;show yp.mpr ⟨a,b.1⟩
 have h:=qac (f:=pt qs) (ss:=ss);have i:=qac (f:=pt rs) (ss:=ss);have j:=g.cnt c;have l:=g'.cnt c;lk
section
variable{ss:LS}{TI:List (Nat×Nat)}{bs gs:LN}
theorem BarJ.bnd(B:BarJ ss TI bs gs):(gs.map (tn ss)).Nodup:=YM.mpr (B.nd.imp_of_mem fun{x y} b c a e=>a (zS B.ok.nd (B.lt x b) (B.lt y c) e))
theorem BarJ.inn(B:BarJ ss TI bs gs):∀ s∈gs.map (tn ss),s∈ss:=fun s h=>by obtain⟨k,a,rfl⟩:=yI.mp h;show qdh (B.lt k a)
theorem BarJ.few(B:BarJ ss TI bs gs):gs.length<=14:=by
 have:=qcs B.bnd B.inn;rw[ya] at this;show yi this B.ok.few
end
theorem qdL(bs gs:LN)(n:Nat):(pcJ bs gs n).length<=n:=by
 unfold pcJ qaf;rw[ya];show yi (yF _ _) (by rw[YT];show yh _)
def WBar(cw:Addr)(H:Hp)(x a:Addr)(ss:LS)(ns:LN)(TI:List (Nat×Nat))(bs gs:LN):Prop:=Wt cw H x ss ns (TI.map (nmP ss))/\BarJ ss TI bs gs/\H a=some (.lst ((gs.map (tn ss)).map V.str))
theorem WBar.same{a:Addr}{TI:List (Nat×Nat)}{bs:LN}(h:WBar cw H x a ss ns TI bs gs)(s:L2.Same H H'):WBar cw H' x a ss ns TI bs gs:=⟨h.1.same s,h.2.1,s _ _ h.2.2⟩
inductive spPb(cw:Addr)(vs:List V)(H:Hp)(Q:VK)(E:XK):Prop|mk (x a:Addr) (ss:LS) (ns:LN) (TI:List (Nat×Nat)) (bs gs:LN) (_:vs=[.ref x,.ref a]) (_:WBar cw H x a ss ns TI bs gs) (_:∀(l:Addr) (ls:LQ) (H':Hp),L2.Same H H'->H' l=some (.lst (ls.map V.ref))->All2 (fun c ks=>H' c=some (.lst (ks.map V.str))) ls ((pcJ bs gs ss.length).map fun c=>c.map (tn ss))->Q (.ref l) H')
inductive spOd(cw:Addr)(vs:List V)(H:Hp)(Q:VK)(E:XK):Prop|mk (x a:Addr) (ss:LS) (ns:LN) (TI:List (Nat×Nat)) (bs gs:LN) (_:vs=[.ref x,.ref a]) (_:WBar cw H x a ss ns TI bs gs) (_:∀(l:Addr) (us:LQ) (H':Hp),L2.Same H H'->H' l=some (.lst (us.map V.ref))->us.length=odJ bs gs ss.length->All2 (fun u p=>H' u=some (.lst (p.map V.str))) us (((pcJ bs gs ss.length).filter fun c=>decide (c.length % 2=1)).map fun c=>c.map (tn ss))->Q (.ref l) H')
inductive spLk(cw:Addr)(vs:List V)(H:Hp)(Q:VK)(E:XK):Prop|mk (x a:Addr) (ss:LS) (ns:LN) (TI:List (Nat×Nat)) (bs gs:LN) (_:vs=[.ref x,.ref a]) (_:WBar cw H x a ss ns TI bs gs) (_:∀(H':Hp),L2.Same H H'->Q (.int ((odJ bs gs ss.length:Nat)-(gs.length:Nat))) H')
inductive spSi(cw:Addr)(vs:List V)(H:Hp)(Q:VK)(E:XK):Prop|mk (x l:Addr) (ss:LS) (ns:LN) (us:LQ) (tps qs:LP) (_:vs=[.ref x,.ref l]) (_:Wt cw H x ss ns tps) (_:PL H l us qs) (_:PGo ss tps qs) (_:∀(r:Addr) (H':Hp),L2.Same H H'->H' r=some (.lst ((snL (pt qs) ss).map V.str))->Q (.ref r) H')
theorem ok_pb(F:Fun K "pieces_beside" "pieces_beside" jR f fd)(T:Txt K mg cc cw)(r:wq5 4 "are_unlike_places" wqe (spUl cw))(p:wq6 8 cw "without" wqX (spWo cw))(I:wq6 3 cw "pieces" wqh (spPcs cw)):wq7 9 f fd wql (spPb cw):=by
 show F.ok uB fun _ _ _ _ H vs Q E i h=>?_
 .obtain⟨x,a,ss,ns,TI,bs,gs,rfl,⟨W,B,n⟩,q⟩:=h;show⟨_,(qc (qR (jk (jd (qq r (hmR i) qA (qa (pv 0) (qa (pv 1) qd))))) (qe jr) qw)
 (qe (qo (jg I (hmR i) (qE p (hmR i) (pv 0) (qa (pv 1) qd)))))),?_⟩
  have u:=B.few;apply⟨x,a,ss,ns,_,rfl,W.web,n,B.bnd,by rw[ya];lk,B.inn,fun H1 d=>?_⟩;obtain⟨J,L,ol,M,t,_⟩:=id W.web;apply yq ?_;apply⟨x,J,_,rfl,d _ _ t,j8 (by room),?_⟩;apply⟨x,a,ss,ns,_,_,rfl,W.same d,qfP W.wok W.adj B.tj,d _ _ n,B.inn,by rw[ya];show u,fun y ms H2 D b=>?_⟩;obtain⟨j,s,C,A,e,_⟩:=id b.web;apply⟨y,j,_,rfl,e,j8 (by room),?_⟩;apply⟨y,_,ms,rfl,b.web,fun l v o G hl g m=>?_⟩;rw[pcs_J B b.wok b.adj] at m;show q l v o ((d.trans D).trans G) g (m.mono fun c ks z=>z.2.2)
theorem ok_od(F:Fun K "odd_pieces" "odd_pieces" za f fd)(T:Txt K mg cc cw)(R:wq5 9 "pieces_beside" wql (spPb cw)):wq7 10 f fd wql (spOd cw):=by
 show F.ok uU fun _ _ _ _ H vs Q E B h=>?_
 .obtain⟨x,a,ss,ns,TI,bs,gs,rfl,A,q⟩:=h;have N:=jX B;show⟨_,(qe (qo (q9 (sc:=qg za) (XN:=wql) ["piece"] 1 [] rfl rfl rfl (by room) rfl (by room)
  (qG (K:=K) rfl (qq R (hmR B) qA (qa (pv 0) (qa (pv 1) qd)))) (fun _ _ _ _=>(qm (i:=0) (show(["piece"]:LS).Nodup by room) rfl (yH rfl))) qH
  (fun _ _ _ _=>(qK (qj (jx (K:=K) rfl N) (qu zu (qp (jL (K:=K) rfl) rfl T.b_len YE (qa (pv 0) qd)) qh) qh (qx _))))
  (fun _ _ _ _=>(pv 0))))),?_⟩
  apply⟨x,a,ss,ns,TI,bs,gs,rfl,A,fun l z H1 O r t=>?_⟩;have few:=yi (qdL bs gs ss.length) A.2.1.ok.few;have q:∀(l:Addr) (us:LQ) (H':Hp),L2.Same H H'->H' l=some (.lst (us.map V.ref))->us.length=((pcJ bs gs ss.length).filter fun c=>decide (c.length % 2=1)).length->All2 (fun u p=>H' u=some (.lst (p.map V.str))) us (((pcJ bs gs ss.length).filter fun c=>decide (c.length % 2=1)).map fun c=>c.map (tn ss))->Q (.ref l) H':=q;generalize pcJ bs gs ss.length=PS at t few q;have s:z.length=PS.length:=by rw[t.len,ya]
  show .inl ⟨⟨_,.of r⟩,qF (xs:=z.map V.ref) (fun i ys J=>J=H1/\∃ us:LQ,ys=us.map V.ref/\All2 (fun u p=>H1 u=some (.lst (p.map V.str))) us (((PS.take i).filter fun c=>decide (c.length % 2=1)).map fun c=>c.map (tn ss))) ⟨rfl,[],rfl,.nil⟩ (fun i ys J _ b=>by rw[b.1];show .of r) (fun i y ys J C b=>?_) fun ys J b=>?_⟩
  .obtain⟨rfl,us,rfl,d⟩:=b;rw[yd] at C;obtain⟨c,hc,rfl⟩:=yn.mp C;have M:i<PS.length:=by rw[<- s];show(yc.mp hc).1
   obtain⟨ks,n⟩:∃ ks,PS[i]?=some ks:=⟨_,yb M⟩;have m:=t.at_ i c _ hc (by rw[yd,n];rfl)
   have j:us.length<=14:=by
    rw[d.len,ya];show yi (yF _ _) (by rw[yQ];lk)
   apply zq m ?_;rw[ya,ya];apply vI (by decide) ?_;apply qa4 ?_;have I:decide ((ks.length:Int) % 2=1)=decide (ks.length % 2=1):=Yq.mpr (by lk);rw[I];ext;rw[yK,n,yW]
   have G:((some ks).toList.filter fun c=>decide (c.length % 2=1))=if decide (ks.length % 2=1)=true then [ks] else []:=by
    show [ks].filter _=_;rw[yL,Yr]
   rw[G];show qL (fun v=>?_) (fun v=>?_)
   .ext;rw[yG v];show⟨by rw[ya];show qi (by lk),rfl,us++[c],by rw[yu];rfl,by rw[yu];show d.snoc m⟩
   .rw [yB v,Ye];show⟨rfl,us,rfl,d⟩
  .obtain⟨rfl,us,rfl,d⟩:=b;rw[show(z.map V.ref).length=PS.length by rw[ya,s],yP] at d;have j:=d.len;rw[ya] at j;have:=yF (fun c:LN=>decide (c.length % 2=1)) PS;show⟨by rw[ya];show yX (qi (by lk)),fun g L=>?_⟩;have D:=qD (Sr J) (o:=.lst (us.map V.ref)) L;show q g us _ (O.trans D) qb j (d.mono fun _ _ e=>D _ _ e)
theorem ok_lk(F:Fun K "lack_of" "lack_of" qa7 f fd)(T:Txt K mg cc cw)(i:wq5 10 "odd_pieces" wql (spOd cw)):wq7 11 f fd wql (spLk cw):=by
 show F.ok Ug fun _ _ _ _ H vs Q E g h=>?_
 .obtain⟨x,a,ss,ns,TI,bs,gs,rfl,d,q⟩:=h;show⟨_,(qe (qo (qu qb7 (qp (jL (K:=K) rfl) rfl T.b_len YE (qa (qq i (hmR g) qA (qa (pv 0) (qa (pv 1) qd))) qd)) (qp (jL (K:=K) rfl) rfl T.b_len YE (qa (pv 1) qd))))),?_⟩;apply⟨x,a,ss,ns,TI,bs,gs,rfl,d,fun l us H1 e b c _=>?_⟩;apply zq b ?_;rw[ya,c];apply zq (e _ _ d.2.2) ?_;rw[ya,ya];apply q H1 e
theorem ok_si(F:Fun K "singles" "singles" qan f fd)(T:Txt K mg cc cw)(t:wq5 9 "partners_in" wqf (spPn cw))(u:wq6 1 cw "places" wqh (spPls cw)):wq7 10 f fd wqf (spSi cw):=by
 show F.ok uI fun _ _ _ _ H vs Q E j h=>?_
 .obtain⟨x,l,ss,ns,us,tps,qs,rfl,W,z,v,q⟩:=h;have I:=jX j;show⟨_,(qc (qk (i:=2) uI.nd rfl (Y9 rfl) (qq t (hmR j) qA (qa (pv 0) (qa (pv 1) qd))))
 (qe (qo (q9 (sc:=qg qan) (XN:=wqK) ["place","partners"] 1 [2] rfl rfl rfl (by room) rfl (by room)
  (qG (K:=K) rfl (jg u (hmR j) (pv 0))) (fun _ _ _ _=>(qm (i:=0) (show(["place","partners"]:LS).Nodup by room) rfl (yH rfl))) qH
  (fun _ _ _ _=>(qK (qj (zz (K:=K) rfl I) (pv 0) (pv 1) (by with_unfolding_all rfl))))
  (fun _ _ _ _=>(pv 0)))))),?_⟩
  have few:=W.wok.few;apply⟨x,l,ss,ns,us,tps,qs,rfl,W.web,W.adj,z,v,fun d H1 p _ B=>?_⟩;obtain⟨M,N,ol,O,A,_⟩:=id (W.web.same p);apply⟨x,M,_,rfl,A,j8 (by room),?_⟩;apply⟨x,ss,ns,rfl,W.web.same p,fun m G=>?_⟩;have r:=qD (Sr H1) (o:=.lst (ss.map V.str)) G;have c:upd H1 m (.lst (ss.map V.str)) m=some (.lst (ss.map V.str)):=qb;generalize upd H1 m (.lst (ss.map V.str))=H2 at r c;show .inl ⟨⟨_,.of c⟩,qF (fun i ys J=>J=H2/\ys=(snL (pt qs) (ss.take i)).map V.str) ⟨rfl,rfl⟩ (fun i ys J _ a=>by rw[a.1];show .of c) (fun i y ys J L a=>?_) fun ys J a=>?_⟩
  .obtain⟨rfl,rfl⟩:=a;obtain⟨b,s,rfl⟩:=jc L;have D:=(yc.mp s).1
   have n:snL (pt qs) (ss.take (i+1))=snL (pt qs) (ss.take i)++(if (!(pt qs b).isSome)=true then [b] else []):=by
    unfold snL;rw[yK,s,yW];show _++[b].filter _=_;rw[yL,Yr]
   have e:(snL (pt qs) (ss.take i)).length<=i:=yi (yF _ _) (by rw[yQ];lk);apply .inr (.inl ⟨d,_,rfl,DGet.k (k:=Sum.inr b) (r _ _ B),?_⟩);rw[jq,yG rfl,xt];rw[n];show⟨_,rfl,?_⟩
   cases (!(pt qs b).isSome) with
   | true =>
    show qad ?_;apply⟨by rw[ya];show qi (by lk),rfl,by rw[yG rfl,yu];rfl⟩
   | false=>show qL (fun h=>by cases h) fun _=>⟨rfl,by rw[yB (by decide),Ye]⟩
  .obtain⟨rfl,rfl⟩:=a;rw[show(ss.map V.str).length=ss.length from ya _,yP];have e:(snL (pt qs) ss).length<=ss.length:=yF _ _;show⟨by rw[ya];show yX (qi (by lk)),fun g C=>?_⟩;show q g _ ((p.trans r).trans (qD (Sr J) C)) qb
theorem ul:FnScope ["web","free","words","place"] wqB (qg qcy):=fS
theorem u9:FnScope wqF wqF (qg zT):=fS
theorem Uy:FnScope wqB wqB (qg qcz):=fS
def fnK(g:Str->V)(l:LS):List (Key×V):=l.map fun s=>(.inr s,g s)
theorem qel{g:Str->V}:∀{l:LS},y∉l->jZ (fnK g l) (.inr y:Key)=none
 | [],_=>rfl
 | s::r,h=>by
  show jZ ((.inr s,g s)::fnK g r) _=none;rw[qZ (p:=((.inr s:Key),g s)) (fun e=>h (by rw[xn e];show yU))];show qel fun z=>h (yC _ z)
theorem qcA{g:Str->V}:∀{l:LS},y∈l->jZ (fnK g l) (.inr y:Key)=some (g y)
 | s::r,h=>by
  show jZ ((.inr s,g s)::fnK g r) _=_;by_cases e:s=y
  .subst e;show ji (p:=((.inr s:Key),g s)) rfl
  .rw [qZ (p:=((.inr s:Key),g s)) (fun z=>e (xn z))];show qcA ((yx.mp h).resolve_left (Ym e))
theorem fnK_put{g:Str->V}{l:LS}(h:y∉l):zw (fnK g l) (.inr y:Key) (g y)=fnK g (l++[y]):=by
 rw[qaQ _ (qel h)];unfold fnK;rw[yu];rfl
theorem fnK_len(g:Str->V)(l:LS):(fnK g l).length=l.length:=ya _
def loQ(tps:LP)(ss:LS):LS:=ss.filter fun s=>decide (mo tps (del ss s).length (del ss s)=mo tps ss.length ss)
theorem qgK(c:∀ a b,tA tps a b->a≠b)(d:ss.Nodup)(g:PGo ss tps qs)(F:Fn (tA tps) (pt qs) S ss):(ss.filter fun s=>(S.rows s).isSome)=loQ tps ss:=
 Yx fun s e=>by
  rw[Yn,yE,qed c d g F e];show XI
def wdF(ss:LS)(ns:LN)(a:LS)(v:Str):Str:=if v∈a then "loose" else if (inB ss 0 (ns.getD (ss.idxOf v) 0)).any (fun o=>decide (o∈a))=true then "held" else "fast"
def wdS(tps:LP)(ss:LS)(ns:LN)(v:Str):V:=.str (wdF ss ns (loQ tps ss) v)
inductive spLo(cw:Addr)(vs:List V)(H:Hp)(Q:VK)(E:XK):Prop|mk (x:Addr) (ss:LS) (ns:LN) (tps:LP) (_:vs=[.ref x]) (_:Wt cw H x ss ns tps) (_:∀(l:Addr) (H':Hp),L2.Same H H'->H l=none->H' l=some (.lst ((loQ tps ss).map V.str))->(∃ qs,PGo ss tps qs/\MxF ss tps qs)->Q (.ref l) H')
inductive spWf(cw:Addr)(vs:List V)(H:Hp)(Q:VK)(E:XK):Prop|mk (x l:Addr) (v:Str) (ss:LS) (ns:LN) (fr:LS) (_:vs=[.ref x,.str v,.ref l]) (_:WebAt cw H x ss ns) (_:v∈ss) (_:H l=some (.lst (fr.map V.str))) (_:∀(H':Hp),L2.Same H H'->Q (.str (wdF ss ns fr v)) H')
inductive spSo(cw:Addr)(vs:List V)(H:Hp)(Q:VK)(E:XK):Prop|mk (x:Addr) (ss:LS) (ns:LN) (tps:LP) (_:vs=[.ref x]) (_:Wt cw H x ss ns tps) (_:∀(d:Addr) (H':Hp),L2.Same H H'->H d=none->H' d=some (.dK (fnK (wdS tps ss ns) ss))->(∃ qs,PGo ss tps qs/\MxF ss tps qs)->Q (.ref d) H')
def heQ(tps:LP)(ss:LS)(ns:LN):LS:=ss.filter fun s=>decide (wdF ss ns (loQ tps ss) s="held")
theorem ok_lo(F:Fun K "loose" "loose" qcz f fd)(T:Txt K mg cc cw)(z:wq5 14 "greatest" wqB (spGr cw))(U:wq8 10 (cc 9) "Forest" wqA (spFi cc cw))(R:wq6 2 (cc 9) "reached" wqh (spFd2 cc cw)):wq7 15 f fd wqB (spLo cw):=by
 show F.ok Uy fun _ _ _ _ H vs Q E o h=>?_
 .obtain⟨x,ss,ns,tps,rfl,W,q⟩:=h;show⟨_,(qe (qo (jg R (hmR o) (qaW U (hmR o) (qa (pv 0) (qa (qq z (hmR o) qA (qa (pv 0) qd)) qd)))))),?_⟩;apply⟨x,ss,ns,tps,rfl,W,fun l Z rs H1 u J b s=>?_⟩;have p:=W.same u;apply fun y dx M m n=>qf8 p J b M m n fun H0 X a S dn wt lo A g N=>?_;subst A;show⟨rfl,?_⟩;obtain⟨C,B,i,_,_,_,j⟩:=id g.fo.obj;have d:=u.trans N;apply⟨a.x,C,B,rfl,i,j _ (by room),?_⟩;apply⟨H0,a,ss,ns,rs,S,dn,wt,lo,_,rfl,g,W.wok.few,fun hl=>?_,fun hl l' v O G c=>?_⟩
  .rcases g.en with⟨e,_⟩ | ⟨t,r,e,_,_,I,L⟩
   .show absurd e hl
   .obtain⟨D,Y⟩:=qe8 W.wok W.adj W.ok b I (by lk);have:=mx_le W.ir W.wok.nd b s D;lk
  .subst hl;rw[qgK W.ir W.wok.nd b (qgH g (p.wb b))] at c;show q l' v (d.trans O) (d.free G) c ⟨_,b,s⟩
theorem ok_wf(F:Fun K "word_for" "word_for" zT f fd)(T:Txt K mg cc cw)(B:wq6 6 cw "beside" wqb (spBs cw)):wq7 7 f fd wqF (spWf cw):=by
 show F.ok u9 fun _ _ _ _ H vs Q E t h=>?_
 .obtain⟨x,l,v,ss,ns,c,rfl,W,hv,hl,q⟩:=h;have u:=jX t;show⟨_,(qc (qR (qj (qae (K:=K) rfl u) (pv 1) (pv 2) (by with_unfolding_all rfl)) (qe (qo jo)) qw)
 (qe (qo (qcg (jd (qp (k_any (K:=K) rfl rfl) rfl T.b_any boot_any (qa (q9 (sc:=qg zT) (XN:=wqF) ["other","free"] 1 [2] rfl rfl rfl (by room) rfl (by room)
  (qG (K:=K) rfl (qE B (hmR t) (pv 0) (qa (pv 1) qd))) (fun _ _ _ _=>(qm (i:=0) (show(["other","free"]:LS).Nodup by room) rfl (yH rfl))) qH
  (fun _ _ _ _=>zy)
  (fun _ _ _ _=>(ze (qae (K:=K) rfl u) (pv 0) (pv 1) (by with_unfolding_all rfl)))) qd))) jo jo)))),?_⟩
  obtain⟨O,R,ol,S,D,_,_,_,hw⟩:=id W;have few:=hw.few;apply qct hl ?_;ext;unfold wdF at q;show qL (fun h1=>?_) fun h1=>?_
  .rw [yG (yk h1)] at q;apply q H (Sr H)
  .rw [yB (fun z=>h1 (yD z))] at q;apply⟨x,O,_,rfl,D,j8 (by room),?_⟩;ext;obtain⟨j,s⟩:=yf hv;rw[qdc hw.nd s] at q;show⟨x,ss,ns,v,j,rfl,W,s,fun H1 N m L=>?_⟩;generalize n:inB ss 0 (ns.getD j 0)=a at q ⊢;have C:a.length<=14:=by rw[<- n];show yi (qbf _ _ _) few
   have p:=qD N (o:=.lst (a.map V.str)) L;have d:upd H1 m (.lst (a.map V.str)) m=some (.lst (a.map V.str)):=qb;generalize upd H1 m (.lst (a.map V.str))=H2 at p d;show .inl ⟨⟨_,.of d⟩,qF (fun i ys J=>J=H2/\ys=((a.take i).map fun o=>decide (o∈c)).map V.bl) ⟨rfl,rfl⟩ (fun i ys J _ b=>by rw[b.1];show .of d) (fun i y ys J M b=>?_) fun ys J b=>?_⟩
   .obtain⟨rfl,rfl⟩:=b;obtain⟨U,r,rfl⟩:=jc M;have I:=(yc.mp r).1;apply qad ?_;apply qct (p _ _ hl) ?_;show⟨by rw[ya,ya,yQ];show qi (by lk),rfl,by rw[yK,r,yu,yu];rfl⟩
   .obtain⟨rfl,rfl⟩:=b;rw[show(a.map V.str).length=a.length from ya _,yP];show⟨by rw[ya,ya];show yX (qi (by lk)),fun g G=>?_⟩;apply⟨g,_,rfl,.of qb,?_⟩;rw[Kk];have eq:(a.any (id ∘ fun o=>decide (o∈c)))=a.any fun o=>decide (o∈c):=rfl;rw[eq];have A:=qD p (o:=.lst ((a.map fun o=>decide (o∈c)).map V.bl)) G;apply qL (fun e=>?_) fun e=>?_
    .rw [yG e] at q;show q _ A
    .rw [yB e] at q;show q _ A
theorem ok_so(F:Fun K "sorts" "sorts" qcy f fd)(T:Txt K mg cc cw)(Y:wq5 15 "loose" wqB (spLo cw))(Z:wq5 7 "word_for" wqF (spWf cw))(X:wq6 1 cw "places" wqh (spPls cw)):wq7 16 f fd wqB (spSo cw):=by
 show F.ok ul fun _ _ _ _ H vs Q E p h=>?_
 .obtain⟨x,ss,ns,tps,rfl,W,q⟩:=h;have hu:=jX p;show⟨_,(qc (qk (i:=1) ul.nd rfl (yH rfl) (qq Y (hmR p) qA (qa (pv 0) qd)))
 (qc (qk (i:=2) ul.nd rfl (yH rfl) j0)
 (qc (qX yS rfl (qG (K:=K) rfl (jg X (hmR p) (pv 0))) (qm (i:=3) ul.nd rfl (yH rfl))
 (qe (jI (qq Z (hmR p) qA (qa (pv 0) (qa (pv 3) (qa (pv 1) qd)))) (jH (pv 2) (pv 3) (jJ hu)))))
 (qe (qo (pv 2)))))),?_⟩
  have few:=W.wok.few;apply⟨x,ss,ns,tps,rfl,W,fun l H1 S _ hl hX=>?_⟩;ext;intro d v;have s:=qD S (o:=.dK []) v;have O:upd H1 d (.dK []) d=some (.dK []):=qb;have c:H d=none:=S.free v;have l2:=(qD (Sr H1) (o:=.dK []) v) _ _ hl;generalize upd H1 d (.dK [])=H2 at s O l2;obtain⟨wx,dd,ol,nn,hb,_⟩:=id W.web;apply⟨x,wx,_,rfl,s _ _ hb,j8 (by room),?_⟩;apply⟨x,ss,ns,rfl,W.web.same s,fun m C=>?_⟩;have U:=qD s (o:=.lst (ss.map V.str)) C;have b:upd H2 m (.lst (ss.map V.str)) m=some (.lst (ss.map V.str)):=qb;have a:=(qD (Sr H2) (o:=.lst (ss.map V.str)) C) _ _ O;have r:=(qD (Sr H2) (o:=.lst (ss.map V.str)) C) _ _ l2;generalize upd H2 m (.lst (ss.map V.str))=H3 at U b a r;have L:m≠d:=fun z=>by rw[z,a] at b;cases b
  have I:l≠d:=fun z=>by rw[z,a] at r;cases r
  show .inl ⟨⟨_,.of b⟩,qQ (xs:=ss.map V.str) (fun i σ J=>L2.Same H J/\J m=some (.lst (ss.map V.str))/\J l=some (.lst ((loQ tps ss).map V.str))/\∃(N:Option V),σ=[some (.ref x),some (.ref l),some (.ref d),N]/\J d=some (.dK (fnK (wdS tps ss ns) (ss.take i)))) ⟨U,b,r,_,rfl,a⟩ (fun i σ J _ e=>.of e.2.1) (fun i y σ J hy e=>?_) fun σ J e=>?_⟩
  .obtain⟨u,R,G,N,rfl,j⟩:=e;obtain⟨M,n,rfl⟩:=jc hy;have aa:=(yc.mp n).1;apply⟨x,l,M,ss,ns,_,rfl,W.web.same u,ye n,G,fun J2 t=>?_⟩;ext
   have D:M∉ss.take i:=fun z=>by
    obtain⟨k,A⟩:=yf z;have B:k<i:=by have:=(yc.mp A).1;rw[yQ] at this;lk
    rw[List.getElem?_take_of_lt B] at A;have:=qy W.wok.nd A n;lk
   show .inr ⟨d,_,rfl,DPut.k (k:=Sum.inr M) (t _ _ j) (by rw[fnK_len,yQ];show qi (by lk)),?_⟩;show⟨qaC (u.trans t) c,by rw[qf L];show t _ _ R,by rw[qf I];show t _ _ G,_,rfl,?_⟩;rw[qb,yK,n];show congrArg (fun z=>some (HO.dK z)) (fnK_put (g:=wdS tps ss ns) D)
  .obtain⟨u,R,G,N,rfl,j⟩:=e;rw[show(ss.map V.str).length=ss.length from ya _,yP] at j;apply q d J u c j hX
theorem Uz:FnScope wqe wqe (qg qcB):=fS
theorem Up:FnScope wqe wqe (qg qbD):=fS
def qff(bs gs:LN)(n k:Nat):Bool:=decide ((n:Int)-2*(k:Int)=(odJ bs gs n:Int)-(gs.length:Int))
inductive spSh(cw:Addr)(vs:List V)(H:Hp)(Q:VK)(E:XK):Prop|mk (x t l a:Addr) (ss:LS) (ns:LN) (TI:List (Nat×Nat)) (bs gs:LN) (us:LQ) (qs:LP) (_:vs=[.ref x,.ref t]) (_:WBar cw H x a ss ns TI bs gs) (_:H t=some (.tup [.ref l,.ref a])) (_:PL H l us qs) (_:PGo ss (TI.map (nmP ss)) qs) (_:∀(H':Hp),L2.Same H H'->Q (.bl (qff bs gs ss.length qs.length)) H')
inductive spIb(cw:Addr)(vs:List V)(H:Hp)(Q:VK)(E:XK):Prop|mk (x a:Addr) (ss:LS) (ns:LN) (TI:List (Nat×Nat)) (bs gs:LN) (_:vs=[.ref x,.ref a]) (_:WBar cw H x a ss ns TI bs gs) (_:∀(rs:LP) (H':Hp),L2.Same H H'->PGo ss (TI.map (nmP ss)) rs->MxF ss (TI.map (nmP ss)) rs->Q (.bl (qff bs gs ss.length rs.length)) H')
theorem ok_shw(F:Fun K "shows" "shows" qcB f fd)(T:Txt K mg cc cw)(G:wq5 8 "are_pairs" wqe (spAp cw))(u:wq5 4 "are_unlike_places" wqe (spUl cw))(y:wq5 10 "singles" wqf (spSi cw))(z:wq5 11 "lack_of" wql (spLk cw)):wq7 12 f fd wqe (spSh cw):=by
 show F.ok Uz fun _ _ _ _ H vs Q E i h=>?_
 .obtain⟨x,t,l,a,ss,ns,TI,bs,gs,us,qs,rfl,j,d,p,n,q⟩:=h;have g:=jX i;have W:=j.1;have B:=j.2.1;have M:=B.few;show⟨_,(qc (qR (PW.pt (qbm (jk (jd (qp (qcd (K:=K) rfl) rfl T.b_isinstance Y4 (qa (pv 1) (qa (zd (v:=.ty "tuple") rfl T.b_tuple boot_tuple rfl) qd))))) (qah (qj (qaj (K:=K) rfl g) (qp (jL (K:=K) rfl) rfl T.b_len YE (qa (pv 1) qd)) qh (qx _))))) (qe (qo jS)) qw)
 (qc (qR (PW.pt (qbm (jk (jd (qq G (hmR i) qA (qa (pv 0) (qa (qr (qt (K:=K) rfl g) (pv 1) qh (fun _ _=>rfl)) qd))))) (qah (jk (jd (qq u (hmR i) qA (qa (pv 0) (qa (qr (qt (K:=K) rfl g) (pv 1) qh (fun _ _=>rfl)) qd)))))))) (qe (qo jS)) qw)
 (qe (qo (ze (jx (K:=K) rfl g) (qp (jL (K:=K) rfl) rfl T.b_len YE (qa (qq y (hmR i) qA (qa (pv 0) (qa (qr (qt (K:=K) rfl g) (pv 1) qh (fun _ _=>rfl)) qd))) qd)) (qq z (hmR i) qA (qa (pv 0) (qa (qr (qt (K:=K) rfl g) (pv 1) qh (fun _ _=>rfl)) qd))) (qx _)))))),?_⟩
  apply qet (.inl (.tup d)) rfl (qbd K "tuple" (by simp) "tuple" (by simp)) ?_;apply yq ?_;apply qgw d ?_;apply .inl ⟨rfl,rfl,?_⟩;apply yq ?_;apply .inl (qaV d rfl ?_);apply⟨x,l,ss,ns,us,_,qs,rfl,W.web,W.adj,p,n,fun H1 m=>?_⟩;apply yq ?_;apply .inl (qaV (m _ _ d) rfl ?_);apply⟨x,a,ss,ns,_,rfl,W.web.same m,m _ _ j.2.2,B.bnd,by rw[ya];lk,B.inn,fun H2 A=>?_⟩;have b:=m.trans A;apply yq ?_;apply .inl (qaV (b _ _ d) rfl ?_);apply⟨x,l,ss,ns,us,_,qs,rfl,W.same b,p.same b,n,fun r I C o=>?_⟩;have c:=b.trans C;apply zq o ?_;rw[ya];apply .inl (qaV (c _ _ d) rfl ?_);apply⟨x,a,ss,ns,TI,bs,gs,rfl,j.same c,fun s D=>?_⟩;have J:=qac (f:=pt qs) (ss:=ss);have L:=n.cnt W.wok.nd;show qa4 ?_
  have e:decide (((snL (pt qs) ss).length:Int)=(odJ bs gs ss.length:Int)-(gs.length:Int))=qff bs gs ss.length qs.length:=by
   unfold qff;show Yq.mpr (by lk)
  rw[e];show q s (c.trans D)
theorem ok_ib(F:Fun K "is_bar" "is_bar" qbD f fd)(T:Txt K mg cc cw)(j:wq5 14 "greatest" wqB (spGr cw))(m:wq5 12 "shows" wqe (spSh cw)):wq7 15 f fd wqe (spIb cw):=by
 show F.ok Up fun _ _ _ _ H vs Q E e h=>?_
 .obtain⟨x,a,ss,ns,TI,bs,gs,rfl,c,q⟩:=h;show⟨_,(qe (qo (qq m (hmR e) qA (qa (pv 0) (qa (jU (qa (qq j (hmR e) qA (qa (pv 0) qd)) (qa (pv 1) qd))) qd))))),?_⟩;apply⟨x,ss,ns,_,rfl,c.1,fun l s rs H1 g p d n=>?_⟩;apply⟨wqqb,fun t r=>?_⟩;have b:=qD (Sr H1) (o:=.tup [.ref l,.ref a]) r;apply⟨x,t,l,a,ss,ns,TI,bs,gs,s,rs,rfl,(c.same g).same b,qb,p.same b,d,fun i u=>q rs i ((g.trans b).trans u) d n⟩
def rmN(ss:LS)(m:Nat):LS:=ss.filter fun s=>m.testBit (ss.idxOf s)
theorem rmN_len(ss:LS)(m:Nat):(rmN ss m).length<=ss.length:=yF _ _
theorem qdM(b:ss.Nodup){k:Nat}(a:ss[k]?=some y):y∈rmN ss m↔m.testBit k=true:=by
 unfold rmN;rw[yp,qdc b a];show⟨fun z=>z.2,fun z=>⟨ye a,z⟩⟩
theorem qfg(c:ss.Nodup){k:Nat}(b:ss[k]?=some y):rmN ss (jB m (2 ^ k))=del (rmN ss m) y:=by
 unfold rmN del;rw[List.filter_filter];show Yx fun s d=>?_;rw[jQ,Yl];have a:ss[ss.idxOf s]?=some s:=by rw[yb (Yt d),YN]
 have e:decide (k=ss.idxOf s)=decide (s=y):=Yq.mpr ⟨fun z=>by rw[<- z,b] at a;show(ym a).symm,fun z=>by rw[z] at a;rw[z];show qy c b a⟩;rw[e,Bool.and_comm]
theorem rmN_perm(b:ss.Nodup){k:Nat}(d:ss[k]?=some y)(f:m.testBit k=true):(rmN ss m).Perm (y::rmN ss (jB m (2 ^ k))):=by
 rw[qfg b d];have c:(rmN ss m).Nodup:=b.filter _;show(xI c (yo.mpr ⟨fun z=>(mem_del.mp z).2 rfl,c.filter _⟩)).mpr fun a=>?_;rw[yx,mem_del];constructor
 .intro h;by_cases e:a=y
  .show .inl e
  .show .inr ⟨h,e⟩
 .rintro (e | e)
  .rw [e];show(qdM b d).mpr f
  .show e.1
section
variable{tps:LP}
theorem mo_perm(j:∀ a b,tA tps a b->a≠b){l:LS}(g:l.Nodup)(p:l.Perm l')(h1:l.length<=n)(h:l'.length<=m):mo tps n l=mo tps m l':=by
 have d:∀{l l':LS} {n m:Nat},l.Nodup->l.Perm l'->l.length<=n->l'.length<=m->mo tps n l<=mo tps m l':=fun{l l' n m} g p h1 h=>by
  obtain⟨f,i,c⟩:=qb4 j n h1 g;have:=qb3 j m h (p.nodup_iff.mp g) (f:=f) ⟨i.sym,i.tie,fun a b e=>p.mem_iff.mp (i.inn a b e)⟩;have e:qaD f l=qaD f l':=by unfold qaD;show(p.filter _).length_eq
  lk
 show xP (d g p h1 h) (d (p.nodup_iff.mp g) p.symm h h1)
def tbQ(tps:LP)(ss:LS)(m:Nat):Nat:=mo tps ss.length (rmN ss m)
structure IsM(tps:LP)(ss:LS)(nb:Nat->Bool)(r top:Nat)(v:Nat):Prop where
 lo:tbQ tps ss r<=v
 up:∀ o,o<top->nb o=true->1+tbQ tps ss (jB r (2 ^ o))<=v
 at_:v=tbQ tps ss r\/∃ o,o<top/\nb o=true/\v=1+tbQ tps ss (jB r (2 ^ o))
theorem qfh(n:∀ a b,tA tps a b->a≠b)(d:ss.Nodup){k v:Nat}{x:Str}(G:ss[k]?=some x)(F:m.testBit k=true)(A:Nat->Bool)(i:∀ o y,ss[o]?=some y->(A o=true↔((jB m (2 ^ k)).testBit o=true/\tA tps x y)))(h:IsM tps ss A (jB m (2 ^ k)) ss.length v):v=tbQ tps ss m:=by
 have E:(rmN ss m).Nodup:=d.filter _;have g:(rmN ss (jB m (2 ^ k))).Nodup:=d.filter _;have w:=rmN_perm d G F;have hl:=rmN_len ss m;have p:(x::rmN ss (jB m (2 ^ k))).length<=ss.length:=by rw[<- w.length_eq];show hl
 have e:tbQ tps ss m=mo tps (ss.length-1+1) (x::rmN ss (jB m (2 ^ k))):=by
  unfold tbQ;show mo_perm n E w hl (by lk)
 have j:(rmN ss (jB m (2 ^ k))).length<=ss.length-1:=by rw[yJ] at p;lk
 have C:mo tps (ss.length-1) (rmN ss (jB m (2 ^ k)))=tbQ tps ss (jB m (2 ^ k)):=qfx n j (by lk) g;obtain⟨t,u,l⟩:=qbv (fun y=>1+mo tps (ss.length-1) (del (rmN ss (jB m (2 ^ k))) y)) ((rmN ss (jB m (2 ^ k))).filter (tB tps x)) (mo tps (ss.length-1) (rmN ss (jB m (2 ^ k))))
 have s:∀{o:Nat} {y:Str},ss[o]?=some y->mo tps (ss.length-1) (del (rmN ss (jB m (2 ^ k))) y)=tbQ tps ss (jB (jB m (2 ^ k)) (2 ^ o)):=fun{o y} c=>by
  unfold tbQ;rw[qfg d c];show qfx n (yi (qbY _ _) j) (yi (qbY _ _) (by lk)) (g.filter _)
 have D:mo tps (ss.length-1+1) (x::rmN ss (jB m (2 ^ k)))=((rmN ss (jB m (2 ^ k))).filter (tB tps x)).foldl (fun r y=>max r (1+mo tps (ss.length-1) (del (rmN ss (jB m (2 ^ k))) y))) (mo tps (ss.length-1) (rmN ss (jB m (2 ^ k)))):=rfl;rw[e,D];generalize ((rmN ss (jB m (2 ^ k))).filter (tB tps x)).foldl (fun r y=>max r (1+mo tps (ss.length-1) (del (rmN ss (jB m (2 ^ k))) y))) (mo tps (ss.length-1) (rmN ss (jB m (2 ^ k))))=W at t u l;rw[C] at t l;apply xP
 .rcases h.at_ with z | ⟨o,f,no,z⟩
  .omega
  .have c:ss[o]?=some ss[o]:=yb f;generalize ss[o]=y at c;obtain⟨I,J⟩:=(i o y c).mp no;have:=u y (yp.mpr ⟨(qdM d c).mpr I,tB_iff.mpr J⟩)
   (try dsimp only at this)
   rw[s c] at this;lk
 .rcases l with z | ⟨y,c,z⟩
  .have:=h.lo;lk
  .obtain⟨B,H⟩:=yp.mp c;have q:y∈ss:=(yp.mp B).1;obtain⟨o,f⟩:=yf q
   (try dsimp only at z)
   rw[s f] at z;have:=h.up o (yc.mp f).1 ((i o y f).mpr ⟨(qdM d f).mp B,tB_iff.mp H⟩);lk
end
theorem Ku:FnScope ["_law_many_here","_law_bits_here","_law_found","_law_room_here","_law_low","_law_rest","_law_most","_law_near","_law_other"] wqJ (qg qa8):=fS
theorem qdi(h:n<=5000):n<sizeLine:=Yp h (by decide)
theorem qgL(m:ss.Nodup){TI:List (Nat×Nat)}(g:TJ ss.length TI){x:Str}(a:ss[i]?=some x)(b:ss[j]?=some y):tA (TI.map (nmP ss)) x y↔((i,j)∈TI\/(j,i)∈TI):=by
 have c:∀{i j:Nat} {x y:Str},ss[i]?=some x->ss[j]?=some y->((x,y)∈TI.map (nmP ss)↔(i,j)∈TI):=fun{i j x y} a b=>by
  constructor
  .intro h;obtain⟨q,n,e⟩:=yI.mp h;unfold nmP at e
   injection e with e1 e2
   have l:=g.2.1 q n;have d:=qaE (ss:=ss) (i:=q.1) (by lk);have f:=qaE (ss:=ss) (i:=q.2) (by lk);rw[e1] at d;rw[e2] at f;have:=qy m d a;have:=qy m f b;have:q=(i,j):=Xd (by assumption) (by assumption);rw[<- this];show n
  .intro h;show yI.mpr ⟨(i,j),h,?_⟩;have l:=g.2.1 _ h;dsimp only at l;have d:=qaE (ss:=ss) (i:=i) (by lk);have f:=qaE (ss:=ss) (i:=j) (by lk);rw[a] at d;rw[b] at f;unfold nmP;rw[<- ym d,<- ym f]
 unfold tA;rw[c a b,c b a]
theorem offN_lt{k:Nat}(h:m.testBit k=true):jB m (2 ^ k)<m:=by
 unfold jB
 have h1:m &&& 2 ^ k=2 ^ k:=by
  apply XC;intro i;rw[Y5,Yl];by_cases e:k=i
  .subst e;rw[h];simp
  .simp [e]
 have a:m &&& 2 ^ k<=m:=Ke;have b:=Xq k;lk
theorem qfi(tps:LP)(ss:LS):tbQ tps ss 0=0:=by
 unfold tbQ rmN;have:(ss.filter fun s=>(0:Nat).testBit (ss.idxOf s))=[]:=List.filter_eq_nil_iff.mpr fun s _=>by rw[kX];decide
 rw[this];cases ss.length<;>rfl
section
variable{tps:LP}{ss:LS}{nb:Nat->Bool}{r top v:Nat}
theorem IsM.skip(h:IsM tps ss nb r top v)(e:¬ nb top=true):IsM tps ss nb r (top+1) v:=
 ⟨h.lo,fun o f d=>by
  by_cases z:o=top
  .rw [z] at d;show absurd d e
  .show h.up o (by lk) d,by
  rcases h.at_ with z | ⟨o,a,b,c⟩
  .show .inl z
  .show .inr ⟨o,by lk,b,c⟩⟩
theorem IsM.take(h:IsM tps ss nb r top v)(e:nb top=true):IsM tps ss nb r (top+1) (max v (1+tbQ tps ss (jB r (2 ^ top)))):=
 ⟨yi h.lo (Kc _ _),fun o f d=>by
  by_cases z:o=top
  .rw [z];show Nat.le_max_right _ _
  .show yi (h.up o (by lk) d) (Kc _ _),by
  by_cases z:v<=1+tbQ tps ss (jB r (2 ^ top))
  .show .inr ⟨top,by lk,e,Nat.max_eq_right z⟩
  .rw [Nat.max_eq_left (by lk)];rcases h.at_ with z | ⟨o,a,b,c⟩
   .show .inl z
   .show .inr ⟨o,by lk,b,c⟩⟩
end
def tbL(tps:LP)(ss:LS)(m:Nat):LN:=(List.range m).map (tbQ tps ss)
theorem qfj(h:i<m):(tbL tps ss m).getD i 0=tbQ tps ss i:=by
 unfold tbL;rw[Yk,yd,List.getElem?_range h];rfl
theorem qb0(tps:LP)(ss:LS)(m:Nat):(tbL tps ss m).length=m:=by unfold tbL;rw[ya,YT]
theorem tbL_succ(tps:LP)(ss:LS)(m:Nat):tbL tps ss (m+1)=tbL tps ss m++[tbQ tps ss m]:=by unfold tbL;rw[YG,yu];rfl
inductive spTbQ(vs:List V)(H:Hp)(Q:VK)(E:XK):Prop|mk (lb:Addr) (ss:LS) (TI:List (Nat×Nat)) (bs:LN) (_:vs=[.int (ss.length:Int),.ref lb]) (_:ss.length<=12) (_:ss.Nodup) (_:TJ ss.length TI) (_:H lb=some (.lst (zC bs))) (_:BtJ ss.length TI bs) (_:∀(l:Addr) (H':Hp),L2.Same H H'->H l=none->H' l=some (.lst (zC (tbL (TI.map (nmP ss)) ss (2 ^ ss.length))))->Q (.ref l) H')
theorem ok_tbQ(F:Fun K "_law_table" "_law_table" qa8 f fd)(T:Txt K mg cc cw):wq7 1 f fd wqJ spTbQ:=by
 show F.ok Ku fun _ _ _ _ H vs Q E hr h=>?_
 .obtain⟨lb,ss,TI,bs,rfl,ah,hn,hj,ae,N,q⟩:=h;have X:=jX hr;obtain⟨tps,s⟩:∃ tps,tps=TI.map (nmP ss):=⟨_,rfl⟩;rw[<- s] at q;have ao:2 ^ ss.length<=4096:=xq (by decide) ah;have p0:0<2 ^ ss.length:=Xq _;have ag:∀{i j:Nat} {x y:Str},ss[i]?=some x->ss[j]?=some y->(tA tps x y↔qbn bs i j=true):=fun hx Y=>by rw[s,qgL hn hj hx Y];show(N.2.2 _ _).symm
  have hi:∀ a b,tA tps a b->a≠b:=fun a b h e=>by
   subst e;rw[s] at h;rcases h with h | h <;>
   .obtain⟨q,hq,e⟩:=yI.mp h;unfold nmP at e
    injection e with e1 e2
    have l:=hj.2.1 q hq;have z1:=qaE (ss:=ss) (i:=q.1) (by lk);have z2:=qaE (ss:=ss) (i:=q.2) (by lk);rw[e1] at z1;rw[e2] at z2;have:=qy hn z1 z2;lk
  show⟨_,(qc (qk (i:=2) Ku.nd rfl (yH rfl) (qS (qa qh qd)))
 (qc (qX yS rfl (qbF rfl T.b_range (qa qh (qa (qu zv qh (pv 0)) qd))) (qm (i:=3) Ku.nd rfl (yH rfl))
 (qc (qk (i:=4) Ku.nd rfl (yH rfl) qh)
 (qc (qao yS (qj (jx (K:=K) rfl X) (qu jT (qu qbj (pv 3) (pv 4)) qh) qh (qx _))
 (qe (qk (i:=4) Ku.nd rfl (yH rfl) (qu (j6 (K:=K) rfl) (pv 4) qh))))
 (qc (qk (i:=5) Ku.nd rfl (yH rfl) (qu jT (pv 3) (qaA qbG (qu zv qh (pv 4)))))
 (qc (qk (i:=6) Ku.nd rfl (yH rfl) (qr (qt (K:=K) rfl X) (pv 2) (pv 5) (fun _ _=>rfl)))
 (qc (qk (i:=7) Ku.nd rfl (yH rfl) (qu jT (pv 5) (qr (qt (K:=K) rfl X) (pv 1) (pv 4) (fun _ _=>rfl))))
 (qc (qX yS rfl (qbF rfl T.b_range (qa (qu (j6 (K:=K) rfl) (pv 4) qh) (qa (pv 0) qd))) (qm (i:=8) Ku.nd rfl (yH rfl))
 (qe (qR (qj (jx (K:=K) rfl X) (qu jT (qu qbj (pv 7) (pv 8)) qh) qh (qx _)) (qe (qk (i:=6) Ku.nd rfl (yH rfl) (qp (qbI rfl) rfl T.b_max boot_max (qa (pv 6) (qa (qu (j6 (K:=K) rfl) qh (qr (qt (K:=K) rfl X) (pv 2) (qu jT (pv 5) (qaA qbG (qu zv qh (pv 8)))) (fun _ _=>rfl))) qd))))) qw)))
 (qe (qP (qbl (K:=K) rfl yM Yc Yd qN (pv 2) (qa (pv 6) qd)))))))))))
 (qe (qo (pv 2))))),?_⟩
  apply⟨wqqa,fun l hl=>?_⟩;have s0:=qD (Sr H) (o:=.lst [.int 0]) hl
  have e0:upd H l (.lst [.int 0]) l=some (.lst (zC (tbL tps ss 1))):=by
   rw[qb];unfold tbL zC;rw[YG];simp[qfi]
  generalize upd H l (.lst [.int 0])=H0 at s0 e0;apply qf9 ?_;apply vI ⟨by lk,by lk,by decide⟩ ?_;ext;have aa:(1*2 ^ ((ss.length:Int)).toNat:Int)=((2 ^ ss.length:Nat):Int):=by rw[y0,kI,xO];rfl
  rw[aa];show⟨1,_,rfl,⟨by decide,by decide,by lk,by lk⟩,j5 (fun i σ J=>∃ x3 x4 x5 x6 x7 L,σ=[some (.int (ss.length:Int)),some (.ref lb),some (.ref l),x3,x4,x5,x6,x7,L]/\L2.Same H J/\J l=some (.lst (zC (tbL tps ss (i+1))))) ⟨none,none,none,none,none,none,rfl,s0,e0⟩ (fun i σ J ak D=>?_) fun σ J D=>?_⟩
  .obtain⟨x3,x4,x5,x6,x7,L,rfl,sJ,t⟩:=D;obtain⟨m,hm⟩:∃ m,m=i+1:=⟨_,rfl⟩;have em:(1:Int)+(i:Int)=(m:Int):=by lk
   rw[em];rw[<- hm] at t ⊢;have al:0<m:=by lk
   have am:m<2 ^ ss.length:=by lk
   have O:=sJ _ _ ae;ext;obtain⟨Z,u⟩:∃ Z:Nat->L2.St->Hp->Prop,Z=fun d σ J'=>J'=J/\∃ g:Nat,σ=[some (.int (ss.length:Int)),some (.ref lb),some (.ref l),some (.int (m:Int)),some (.int (g:Int)),x5,x6,x7,L]/\d=ss.length-g/\∀ j,j<g->m.testBit j=false:=⟨_,rfl⟩;show⟨Z,⟨_,by rw[u];show⟨rfl,0,rfl,rfl,fun j h=>by lk⟩⟩,fun d σ J' M=>?_⟩;rw[u] at M;obtain⟨rfl,g,rfl,hd,n⟩:=M
   have R:g<ss.length:=by
    apply Yh;intro h;obtain⟨j,B⟩:=Nat.exists_testBit_of_ne_zero (x:=m) (by lk);by_cases ad:j<g
    .rw [n j ad] at B;cases B
    .have:2 ^ ss.length<=m:=yi (xq (by decide) (show ss.length<=j by lk)) (Nat.ge_two_pow_of_testBit B);lk
   apply vI (by lk) ?_;apply qa4 ?_;rw[bit0_nat];show⟨_,rfl,?_⟩
   cases hb:m.testBit g with
   | false =>
    show qad ⟨fun ai H'=>∃ m',m'<d/\Z m' ai H',fun _ _ z=>z,?_⟩;apply⟨ss.length-(g+1),by lk,?_⟩;rw[u];show⟨rfl,g+1,by simp,rfl,fun j h=>?_⟩;by_cases e:j=g
    .rw [e];show hb
    .show n j (by lk)
   | true =>
    show yq ?_;obtain⟨x,hx⟩:∃ x,ss[g]?=some x:=⟨_,yb R⟩;obtain⟨r,p⟩:∃ r,r=jB m (2 ^ g):=⟨_,rfl⟩;have W:r<m:=by rw[p];show offN_lt hb
    have pw:∀ k:Nat,(1*2 ^ ((k:Int)).toNat:Int)=((2 ^ k:Nat):Int):=fun k=>by rw[y0,kI,xO];rfl
    apply vI ⟨by lk,by lk,by decide⟩ ?_;apply vU ?_;ext;rw[pw,jG,<- p];ext
    have tg:∀ k,k<m->(zC (tbL tps ss m))[k]?=some (.int (tbQ tps ss k:Nat)):=fun k hk=>by
     rw[ju (by rw[qb0];show hk),qfj hk]
    show .inl (zN t (qv (tg r W)) ?_);apply .inl (zN O (qv (ju (by rw[N.1];show R))) ?_);ext;rw[qdI];obtain⟨I,C⟩:∃ I,I=r &&& bs.getD g 0:=⟨_,rfl⟩;rw[<- C]
    have af:∀ o y,ss[o]?=some y->(I.testBit o=true↔(r.testBit o=true/\tA tps x y)):=fun o y Y=>by
     rw[C,Y5,yY,ag hx Y];rfl
    have S:∀ o,o<=g->I.testBit o=false:=fun o ho=>by
     rw[C,Y5,p,jQ,Yl];by_cases e:o=g
     .subst e;simp
     .rw [n o (by lk)];rfl
    apply qf9 ?_;apply⟨_,_,rfl,⟨by lk,by lk,by lk,by lk⟩,j5 (fun i σ G=>G=J'/\∃(v:Nat) (L:Option V),σ=[some (.int (ss.length:Int)),some (.ref lb),some (.ref l),some (.int (m:Int)),some (.int (g:Int)),some (.int (r:Int)),some (.int (v:Int)),some (.int (I:Int)),L]/\IsM tps ss (fun o=>I.testBit o) r (g+1+i) v) ⟨rfl,_,_,rfl,yh _,(fun o ho h=>by rw[S o (by lk)] at h;cases h),.inl rfl⟩ (fun i σ G aj D=>?_) fun σ G D=>?_⟩
    .obtain⟨rfl,v,y8,rfl,hv⟩:=D;obtain⟨o,ho⟩:∃ o,o=g+1+i:=⟨_,rfl⟩;have eo:(g:Int)+1+(i:Int)=(o:Int):=by lk
     have an:o<ss.length:=by lk
     rw[eo];rw[<- ho] at hv;have ac:g+1+(i+1)=o+1:=by lk
     rw[ac];apply vI (by lk) ?_;apply qa4 ?_;rw[zZ];apply qL (fun A=>?_) fun A=>⟨rfl,v,_,rfl,hv.skip A⟩;apply vI ⟨by lk,by lk,by decide⟩ ?_;apply vU ?_;ext;rw[pw,jG];have U:jB r (2 ^ o)<m:=Yp (by unfold jB;lk) W;show .inl (zN t (qv (tg _ U)) ?_);apply⟨_,_,rfl,?_⟩;show⟨rfl,max v (1+tbQ tps ss (jB r (2 ^ o))),some (.int (o:Int)),?_,hv.take A⟩;have e:((max v (1+tbQ tps ss (jB r (2 ^ o))):Nat):Int)=if 1+(tbQ tps ss (jB r (2 ^ o)):Int)>(v:Int) then 1+(tbQ tps ss (jB r (2 ^ o)):Int) else(v:Int):=by split<;>lk
     rw[e];rfl
    .obtain⟨rfl,v,y8,rfl,hv⟩:=D;have et:g+1+((ss.length:Int)-((g:Int)+1)).toNat=ss.length:=by lk
     rw[et,p] at hv;have ev:=qfh hi hn hx hb (fun o=>I.testBit o) (fun o y Y=>by rw[<- p];show af o y Y) hv;apply⟨.inl ⟨rfl,_,.of t⟩,?_⟩;apply⟨l,_,_,rfl,rfl,t,by unfold zC;rw[ya,qb0];show qdi (by lk),?_⟩;show⟨_,_,_,_,_,_,rfl,fun c o z=>?_,?_⟩
     .rw [qf (fun z'=>by rw[z',hl] at z;cases z)];show sJ c o z
     .rw [qb,tbL_succ,ev];unfold zC;rw[yu];rfl
  .obtain⟨x3,x4,x5,x6,x7,L,rfl,sJ,t⟩:=D;ext;have e:((2 ^ ss.length:Nat)-1:Int).toNat+1=2 ^ ss.length:=by lk
   rw[e] at t;show q l J sJ hl t
theorem qem:∀{ps:List (LS)},(∀ p∈ps,p.length % 2=0)->ps.flatten.length % 2=0
 | [],_=>rfl
 | p::r,h=>by
  rw[xr,yt];have h1:=h p yU;have b:=qem (ps:=r) fun q a=>h q (yC _ a);lk
theorem qdN:∀{ps:List (LS)},(∀ p∈ps,p.Nodup)->(ps.Pairwise fun p q=>∀ a∈p,a∉q)->ps.flatten.Nodup
 | [],_,_=>.nil
 | p::r,h,g=>by
  obtain⟨f,i⟩:=kF.mp g;rw[xr];show Yi.mpr ⟨h p yU,qdN (fun q d=>h q (yC _ d)) i,fun a j b l e=>?_⟩;obtain⟨q,d,c⟩:=XH.mp l;show f q d a j (e ▸ c)
section
variable{ss:LS}{tps qs:LP}{S:FS}{bar:LS}{ps:List (LS)}
theorem strong(F:Fn (tA tps) (pt qs) S ss)(y:∀ s,s∈bar↔s∈qdG S ss)(C:PcsOk ss tps bar ps):(snL (pt qs) ss).length+(qdG S ss).length<=((ps.filter qaF).filter fun p=>p.all fun a=>(S.rows a).isSome).length:=by
 rw[<- F.count]
 have cls:∀{p:LS} {b:Str},p∈ps->∀{a c:Str},a∈p->c∈p->a∈qdF S ss b->c∈qdF S ss b:=fun{p b} d {a c} n hc h=>by
  show C.con p d (fun x=>x∈qdF S ss b) (fun u E v hv t h=>?_) a n c hc h;obtain⟨_,j,o⟩:=mem_cls.mp h;rcases F.cl u v j t with e | ⟨e1,e2⟩
  .show mem_cls.mpr ⟨((C.h1 p d).2.1 v hv).1,F.fi.evE j e,e.trans o⟩
  .show absurd ((y v).mpr (mem_bar.mpr ⟨((C.h1 p d).2.1 v hv).1,e1,e2⟩)) ((C.h1 p d).2.1 v hv).2
 have w:∀ b∈qbV S ss,∃ p∈(ps.filter qaF).filter (fun p=>p.all fun a=>(S.rows a).isSome),S.bas (p.headD "")=b:=fun b q=>Yh fun hc=>by
  have B:=F.cls_odd q;obtain⟨rs,i⟩:∃ rs,rs=ps.filter fun p=>p.any fun a=>decide (a∈qdF S ss b):=⟨_,rfl⟩
  have f:∀ p∈rs,p∈ps/\∀ a∈p,a∈qdF S ss b:=fun p d=>by
   rw[i] at d;obtain⟨h1,j⟩:=yp.mp d;obtain⟨a,n,o⟩:=YK.mp j;show⟨h1,fun c hc=>cls h1 n hc (yk o)⟩
  have A:(qdF S ss b).length=rs.flatten.length:=by
   show((xI (F.nd.filter _) (qdN (fun p d=>(C.h1 p (f p d).1).1) ?_)).mpr fun a=>⟨fun h=>?_,fun h=>?_⟩).length_eq
   .rw [i];show C.h2.filter _
   .obtain⟨h1,j,_⟩:=mem_cls.mp h;obtain⟨p,d,g⟩:=C.cov a h1 fun z=>j (mem_bar.mp ((y a).mp z)).2.2;show XH.mpr ⟨p,by rw[i];show yp.mpr ⟨d,YK.mpr ⟨a,g,yD h⟩⟩,g⟩
   .obtain⟨p,d,g⟩:=XH.mp h;show(f p d).2 a g
  have D:=qem (ps:=rs) fun p d=>by
   cases e:qaF p with
   | false=>have:=of_decide_eq_false e;lk
   | true =>
    show absurd ⟨p,yp.mpr ⟨yp.mpr ⟨(f p d).1,e⟩,Yw.mpr fun a n=>XI.mpr (mem_cls.mp ((f p d).2 a n)).2.1⟩,?_⟩ hc
    cases p with
    | nil=>cases e
    | cons a r=>show(mem_cls.mp ((f _ d).2 a yU)).2.2
  lk
 have:=qcs (l:=qbV S ss) (m:=((ps.filter qaF).filter fun p=>p.all fun a=>(S.rows a).isSome).map fun p=>S.bas (p.headD "")) (F.nd.filter _) fun b h=>by
  obtain⟨p,d,e⟩:=w b h;show yI.mpr ⟨p,d,e⟩
 rwa[ya] at this
end
theorem odd_loose(i:ss.Nodup)(d:∀ a b,tA tps a b->a≠b)(g:PGo ss tps qs)(F:Fn (tA tps) (pt qs) S ss)(o:∀ s,s∈bar↔s∈qdG S ss)(A:bar.Nodup)(C:PcsOk ss tps bar ps):(ps.filter qaF).length+2*mo tps ss.length ss=ss.length+bar.length/\(∀ f,Mt tps ss f->qaD f ss=2*mo tps ss.length ss->Shp ss f bar ps)/\∀ a,(S.rows a≠none↔∃ p∈ps,qaF p=true/\a∈p):=by
 have h1:=strong F o C;have H:=weak g.mt d C.h1 C.h2;have I:=yF (fun p:LS=>p.all fun a=>(S.rows a).isSome) (ps.filter qaF);have J:bar.length<=(qdG S ss).length:=qcs A fun s h=>(o s).mp h;have D:=qac (f:=pt qs) (ss:=ss);have E:=g.cnt i;have G:=qdg d i g ⟨S,F⟩;have eq:(ps.filter qaF).length+2*mo tps ss.length ss=ss.length+bar.length:=by lk
 have q:∀ f,Mt tps ss f->qaD f ss=2*mo tps ss.length ss->Shp ss f bar ps:=fun f m hc=>sharp m d C.h1 C.h2 (by lk);show⟨eq,q,fun a=>⟨fun h=>?_,fun⟨p,x,w,t⟩=>?_⟩⟩
 .have j:=F.es a h;have e:=(qed d i g F j).mpr h;obtain⟨f,m,c⟩:=qb4 d _ (yh _) (i.filter fun u=>!decide (u=a));have B:qaD f (del ss a)=2*mo tps (del ss a).length (del ss a):=c
  have n:f a=none:=by
   cases z:f a with
   | none=>rfl
   | some b=>show absurd rfl (mem_del.mp (show a∈del ss a from m.inn a b z)).2
  have y:Mt tps ss f:=⟨m.sym,m.tie,fun u v z=>(mem_del.mp (show u∈del ss a from m.inn u v z)).1⟩;have l:=zK (f:=f) i j;rw[n] at l;have r:qaD f ss=qaD f (del ss a):=by simpa using l
  show(q f y (by lk)).al a j n
 .have e:((ps.filter qaF).filter fun p=>p.all fun a=>(S.rows a).isSome).length=(ps.filter qaF).length:=by lk
  have:=(List.length_filter_eq_length_iff.mp e) p (yp.mpr ⟨x,w⟩);show XI.mp (Yw.mp this a t)
section
variable{cw x:Addr}{H:Hp}{ss:LS}{ns bs:LN}
theorem qdj(W:Wt cw H x ss ns tps)(g:PGo ss tps qs)(F:Fn (tA tps) (pt qs) S ss):s∈loQ tps ss↔s∈ss/\S.rows s≠none:=by
 rw[<- qgK W.ir W.wok.nd g F,yp,isS]
theorem qfT(W:Wt cw H x ss ns tps):s∈heQ tps ss ns↔s∈ss/\s∉loQ tps ss/\∃ o∈loQ tps ss,tA tps s o:=by
 unfold heQ wdF;rw[yp,yE];show and_congr_right fun c=>?_;by_cases h:s∈loQ tps ss
 .rw [yG h];show⟨(fun z=>by cases z),fun z=>absurd h z.1⟩
 .rw [yB h]
  have e:(inB ss 0 (ns.getD (ss.idxOf s) 0)).any (fun o=>decide (o∈loQ tps ss))=true↔∃ o∈loQ tps ss,tA tps s o:=by
   have b:ss[ss.idxOf s]?=some s:=by rw[yb (Yt c),YN]
   rw[YK];show⟨fun⟨o,h1,a⟩=>⟨o,yk a,(W.bes _ s o b).mp h1⟩,fun⟨o,h1,a⟩=>⟨o,(W.bes _ s o b).mpr a,yD h1⟩⟩
  split
  .rename_i z;show⟨fun _=>⟨h,e.mp z⟩,fun _=>rfl⟩
  .rename_i z;show⟨(fun y=>by cases y),fun y=>absurd (e.mpr y.2) z⟩
theorem he_bar(W:Wt cw H x ss ns tps)(g:PGo ss tps qs)(F:Fn (tA tps) (pt qs) S ss)(s:Str):s∈heQ tps ss ns↔s∈qdG S ss:=by
 rw[qfT W,mem_bar];constructor
 .rintro ⟨h1,b,o,c,e⟩;have d:=((qdj W g F).mp c).2;have f:S.rows s=none:=Yh fun z=>b ((qdj W g F).mpr ⟨h1,z⟩);rcases F.cl o s d e.symm with z | z
  .show absurd f (F.fi.evE d z)
  .show⟨h1,z⟩
 .rintro ⟨h1,b,c⟩;obtain⟨z,hz⟩:=some_of b;obtain⟨h,⟨r,i⟩,_⟩:=F.fi.odd s z hz;have a:S.rows z≠none:=by rw[i];show fun y=>by cases y
  show⟨h1,fun y=>((qdj W g F).mp y).2 c,z,(qdj W g F).mpr ⟨F.es z a,a⟩,h.symm⟩
variable{TI:List (Nat×Nat)}
def hbI(tps:LP)(ss:LS)(ns:LN):LN:=(List.range ss.length).filter fun k=>decide (wdF ss ns (loQ tps ss) (tn ss k)="held")
theorem rng_tn:(List.range ss.length).map (tn ss)=ss:=by
 apply List.ext_getElem?;intro k;rw[yd];by_cases h:k<ss.length
 .rw [List.getElem?_range h,qaE h];rfl
 .rw [List.getElem?_eq_none (l:=List.range ss.length) (by rw[YT];lk),List.getElem?_eq_none (by lk)];rfl
theorem qfk:(hbI tps ss ns).map (tn ss)=heQ tps ss ns:=by
 have e:heQ tps ss ns=((List.range ss.length).map (tn ss)).filter fun s=>decide (wdF ss ns (loQ tps ss) s="held"):=by unfold heQ;rw[rng_tn]
 rw[e,Xr];rfl
theorem qfl(a:NOk ss)(c:TJ ss.length TI)(b:BtJ ss.length TI bs):BarJ ss TI bs (hbI (TI.map (nmP ss)) ss ns):=⟨a,c,b,List.nodup_range.filter _,fun k d=>Yo.mp (yp.mp d).1⟩
def odN(bs:LN)(tps:LP)(ss:LS)(ns:LN):List (LS):=((pcJ bs (hbI tps ss ns) ss.length).map fun c=>c.map (tn ss)).filter qaF
structure Fit(tps:LP)(ss:LS)(ns:LN)(od:List (LS))(f:Str->Option Str):Prop where
 he:∀ s∈ss,wdF ss ns (loQ tps ss) s="held"->∃ a∈ss,f s=some a/\wdF ss ns (loQ tps ss) a="loose"
 fa:∀ s∈ss,wdF ss ns (loQ tps ss) s="fast"->∃ a∈ss,f s=some a/\wdF ss ns (loQ tps ss) a="fast"
 on:∀ p∈od,(p.filter fun a=>decide (f a=none)||decide (∃ b∈ss,f a=some b/\wdF ss ns (loQ tps ss) b="held")).length=1
 nn:(snL f ss).length+(heQ tps ss ns).length=od.length
theorem wd_lo:wdF ss ns (loQ tps ss) s="loose"↔s∈loQ tps ss:=by
 unfold wdF;by_cases h:s∈loQ tps ss
 .rw [yG h];show⟨fun _=>h,fun _=>rfl⟩
 .rw [yB h];show⟨fun z=>?_,fun z=>absurd z h⟩;split at z<;>cases z
theorem qfy(a:s∈ss):wdF ss ns (loQ tps ss) s="held"↔s∈heQ tps ss ns:=by
 unfold heQ;rw[yp,yE];show⟨fun z=>⟨a,z⟩,fun z=>z.2⟩
theorem qgM(h1:wdF ss ns (loQ tps ss) s≠"loose")(a:wdF ss ns (loQ tps ss) s≠"held"):wdF ss ns (loQ tps ss) s="fast":=by
 revert h1 a
 unfold wdF;split
 .show fun z=>absurd rfl z
 .split
  .show fun _ z=>absurd rfl z
  .show fun _ _=>rfl
theorem one_of{p:LS}(f:p.Nodup){c:Str->Bool}(d:a∈p)(h:c a=true)(g:∀ b∈p,c b=true->b=a):(p.filter c).length=1:=by
 have e:(p.filter c).Perm [a]:=(xI (f.filter _) (xu _ _)).mpr fun b=>by
  rw[yp,yy];show⟨fun z=>g b z.1 z.2,fun z=>z ▸ ⟨d,h⟩⟩
 show e.length_eq
theorem qdk(W:Wt cw H x ss ns (TI.map (nmP ss)))(G:NOk ss)(I:TJ ss.length TI)(o:BtJ ss.length TI bs){rs:LP}(g:PGo ss (TI.map (nmP ss)) rs)(w:MxF ss (TI.map (nmP ss)) rs):(odN bs (TI.map (nmP ss)) ss ns).flatten.Perm (loQ (TI.map (nmP ss)) ss)/\(odN bs (TI.map (nmP ss)) ss ns).length=odJ bs (hbI (TI.map (nmP ss)) ss ns) ss.length/\odJ bs (hbI (TI.map (nmP ss)) ss ns) ss.length+2*rs.length=ss.length+(hbI (TI.map (nmP ss)) ss ns).length/\∀ f,Mt (TI.map (nmP ss)) ss f->qaD f ss=2*mo (TI.map (nmP ss)) ss.length ss->Fit (TI.map (nmP ss)) ss ns (odN bs (TI.map (nmP ss)) ss ns) f:=by
 have r:=W.wok.nd;have B:=qfl (ns:=ns) G I o;have C:=pcs_ok B;have N:=qdg W.ir r g w;obtain⟨S,F⟩:=w;obtain⟨J,K,L⟩:=odd_loose r W.ir g F (fun s=>by rw[qfk];show he_bar W g F s) (by rw[qfk];show r.filter _) C;have D:(odN bs (TI.map (nmP ss)) ss ns).length=odJ bs (hbI (TI.map (nmP ss)) ss ns) ss.length:=qgJ;have j:∀ p,p∈odN bs (TI.map (nmP ss)) ss ns↔p∈((pcJ bs (hbI (TI.map (nmP ss)) ss ns) ss.length).map fun c=>c.map (tn ss))/\qaF p=true:=fun p=>yp
 have lo:∀ a,a∈loQ (TI.map (nmP ss)) ss↔∃ p∈odN bs (TI.map (nmP ss)) ss ns,a∈p:=fun a=>by
  rw[qdj W g F,L a];show⟨fun⟨_,p,d,n,i⟩=>⟨p,(j p).mpr ⟨d,n⟩,i⟩,fun⟨p,d,i⟩=>⟨((C.h1 p ((j p).mp d).1).2.1 a i).1,p,((j p).mp d).1,((j p).mp d).2,i⟩⟩
 have hl:(hbI (TI.map (nmP ss)) ss ns).length=(heQ (TI.map (nmP ss)) ss ns).length:=by rw[<- qfk,ya]
 have u:=J;rw[qgJ,ya] at u;show⟨?_,D,by lk,fun f m hc=>?_⟩
 .show(xI (qdN (fun p d=>(C.h1 p ((j p).mp d).1).1) (C.h2.filter _)) (r.filter _)).mpr fun a=>XH.trans (lo a).symm
 .have t:=K f m hc;rw[qfk] at t
  have y:∀ s∈ss,wdF ss ns (loQ (TI.map (nmP ss)) ss) s="held"->∃ a∈ss,f s=some a/\wdF ss ns (loQ (TI.map (nmP ss)) ss) a="loose":=fun s q h=>by
   obtain⟨p,d,n,a,i,e⟩:=t.br s ((qfy q).mp h);show⟨a,((C.h1 p d).2.1 a i).1,e,wd_lo.mpr ((lo a).mpr ⟨p,(j p).mpr ⟨d,n⟩,i⟩)⟩
  show⟨y,fun s q h=>?_,fun p d=>?_,?_⟩
  .have A:s∉loQ (TI.map (nmP ss)) ss:=fun z=>by rw[wd_lo.mpr z] at h;cases h
   cases e:f s with
   | none =>
    obtain⟨p,d,n,i⟩:=t.al s q e;show absurd ((lo s).mpr ⟨p,(j p).mpr ⟨d,n⟩,i⟩) A
   | some a =>
    have i:=m.inn a s (m.sym s a e);show⟨a,i,rfl,qgM (fun z=>?_) fun z=>?_⟩
    .have:=(qfT W).mpr ⟨q,A,a,wd_lo.mp z,m.tie s a e⟩;rw[(qfy q).mpr this] at h;cases h
    .obtain⟨b,_,v,l⟩:=y a i z;rw[m.sym s a e] at v;cases v;rw[l] at h;cases h
  .obtain⟨d,n⟩:=(j p).mp d;obtain⟨a,i,h1,l⟩:=t.on p d n
   have eq:∀ a,(decide (f a=none)||decide (∃ b∈ss,f a=some b/\wdF ss ns (loQ (TI.map (nmP ss)) ss) b="held"))=true↔qfS f (heQ (TI.map (nmP ss)) ss ns) a:=fun a=>by
    rw[YJ,yE,yE];unfold qfS;show or_congr_right ⟨fun⟨b,h1,l,E⟩=>⟨b,(qfy h1).mp E,l⟩,fun⟨b,h1,l⟩=>?_⟩;have o:=m.inn b a (m.sym a b l);show⟨b,o,l,(qfy o).mpr h1⟩
   show one_of (C.h1 p d).1 i ((eq a).mpr h1) fun b o z=>l b o ((eq b).mp z)
  .have M:=qac (f:=f) (ss:=ss);lk
end
theorem uN:FnScope wq1 wq1 (qg zm):=fS
theorem ug:FnScope ["web","places","pairs"] ["web","places"] (qg zn):=fS
theorem qcC{f c:LP}:∀(n:Nat) {l:LS},(∀ a∈l,∀ b∈l,tB f a b=tB c a b)->mo f n l=mo c n l
 | 0,_,_=>by unfold mo;rfl
 | n+1,[],_=>rfl
 | n+1,x::r,h=>by
  have i:∀ a∈r,∀ b∈r,tB f a b=tB c a b:=fun a g b d=>h a (yC _ g) b (yC _ d);show(r.filter (tB f x)).foldl _ _=(r.filter (tB c x)).foldl _ _;rw[Yx (q:=tB c x) (fun b d=>h x yU b (yC _ d)),qcC n i]
  have e:(fun(m:Nat) (y:Str)=>max m (1+mo f n (del r y)))=fun m y=>max m (1+mo c n (del r y)):=by
   funext m y;rw[qcC n (l:=del r y) fun a g b d=>i a (mem_del.mp g).1 b (mem_del.mp d).1]
  rw[e]
theorem keep_mo{l:LS}(n:Nat):mo (zt l tps) n l=mo tps n l:=qcC n fun a c b d=>by
 unfold tB zt;simp only[yp,yD c,yD d,Bool.and_self,and_true]
theorem lv_ok{y:Addr}{gs:LS}{rs:LP}(W:Wt cw H x ss ns tps)(b:Wt cw H' y (zc ss gs) ms (zt (zc ss gs) tps))(a:PGo (zc ss gs) (zt (zc ss gs) tps) rs)(h:MxF (zc ss gs) (zt (zc ss gs) tps) rs):PGo ss tps rs/\rs.length=mo tps ss.length (zc ss gs):=by
 have d:∀ q,q∈zt (zc ss gs) tps->q∈tps:=fun q c=>(yp.mp c).1;show⟨⟨fun q c=>?_,a.nd,a.few⟩,?_⟩
 .obtain⟨h1,e,f,g⟩:=a.inn q c;show⟨h1.imp (d _) (d _),(mem_out.mp e).1,(mem_out.mp f).1,g⟩
 .rw [qdg b.ir b.wok.nd a h,keep_mo];show qfx W.ir (yh _) (qcx _ _) b.wok.nd
theorem lo_mo(c:∀ a b,tA tps a b->a≠b)(d:ss.Nodup)(f:s∈ss):mo tps ss.length (zc ss [s])=mo tps ss.length ss↔s∈loQ tps ss:=by
 have e:zc ss [s]=del ss s:=by
  unfold zc del;show Yx fun u _=>?_;rw[Yn];simp
 unfold loQ;rw[yp,yE,e,qfx c (qbY ss s) (yh _) (d.filter _)];show⟨fun z=>⟨f,z⟩,fun z=>z.2⟩
def W30(cw:Addr)(H:Hp)(x:Addr)(ss:LS)(ns:LN)(tps:LP):Prop:=Wt cw H x ss ns tps/\(qU ss ns ss.length).length<=30
theorem W30.same(h:W30 cw H x ss ns tps)(s:L2.Same H H'):W30 cw H' x ss ns tps:=⟨h.1.same s,h.2⟩
def LvG(H:Hp)(Q:VK)(ss:LS)(tps:LP):Prop:=∀(rs:LP) (l:Addr) (a:LQ) (H':Hp),L2.Same H H'->PL H' l a rs->PGo ss tps rs->rs.length=mo tps ss.length ss->Q (.ref l) H'
inductive spLvQ(cw:Addr)(vs:List V)(H:Hp)(Q:VK)(E:XK):Prop|mk (x a:Addr) (ss:LS) (ns:LN) (tps:LP) (gs:LS) (_:vs=[.ref x,.ref a]) (_:W30 cw H x ss ns tps) (_:H a=some (.lst (gs.map V.str))) (_:(∀ s∈gs,s∈ss)) (_:gs.length<=2) (_:mo tps ss.length (zc ss gs)=mo tps ss.length ss) (_:LvG H Q ss tps)
inductive spLv1(cw:Addr)(vs:List V)(H:Hp)(Q:VK)(E:XK):Prop|mk (x:Addr) (ss:LS) (ns:LN) (tps:LP) (u:Str) (_:vs=[.ref x,.str u]) (_:W30 cw H x ss ns tps) (_:u∈loQ tps ss) (_:LvG H Q ss tps)
theorem ok_lvQ(F:Fun K "leaving_all" "leaving_all" zn f fd)(T:Txt K mg cc cw)(u:wq6 8 cw "without" wqX (spWo cw))(v:wq5 14 "greatest" wqB (spGr cw))(z:wq5 15 "count_of" wqB (spCo cw)):wq7 16 f fd ["web","places"] (spLvQ cw):=by
 show F.ok ug fun _ _ _ _ H vs Q E g h=>?_
 .obtain⟨x,a,ss,ns,tps,gs,rfl,W,C,p,D,b,q⟩:=h;have G:=jX g;obtain⟨dx,d,ol,n,I,_⟩:=id W.1.web;show⟨_,(qc (qk (i:=2) ug.nd rfl (yH rfl) (qq v (hmR g) qA (qa (qE u (hmR g) (pv 0) (qa (pv 1) qd)) qd)))
 (qe (qo (qcg (qj (jx (K:=K) rfl G) (qp (jL (K:=K) rfl) rfl T.b_len YE (qa (pv 2) qd)) (qq z (hmR g) qA (qa (pv 0) qd)) (qx _)) (pv 2) qag)))),?_⟩
  apply⟨x,dx,_,rfl,I,j8 (by room),?_⟩;apply⟨x,a,ss,ns,tps,gs,rfl,W.1,W.2,C,p,by lk,fun y ms H1 N r=>?_⟩;apply⟨y,_,ms,_,rfl,r,fun l J rs H2 O o A B=>?_⟩;have c:=N.trans O;have L:=lv_ok W.1 r A B;apply zq o.1 ?_;rw[ya,o.2.len,L.2];apply⟨x,ss,ns,tps,rfl,W.1.same c,fun M t s j m=>?_⟩;rw[qdg W.1.ir W.1.wok.nd j m];show qa4 ?_;apply qL (fun h=>?_) fun h=>?_
  .have e:=yk h;apply q rs l J t (c.trans s) (o.same s) L.1 (by rw[L.2,b])
  .show absurd (yD (by rw[b])) h
theorem ok_lv1(F:Fun K "leaving_out" "leaving_out" zm f fd)(T:Txt K mg cc cw)(m:wq5 16 "leaving_all" ["web","places"] (spLvQ cw)):wq7 17 f fd wq1 (spLv1 cw):=by
 show F.ok uN fun _ _ _ s H vs Q E g h=>?_
 .obtain⟨x,ss,ns,tps,u,rfl,W,b,q⟩:=h;show⟨_,(qe (qo (qq m (hmR g) qA (qa (pv 0) (qa (qS (qa (pv 1) qd)) qd))))),?_⟩;apply⟨wqqa,fun a e=>?_⟩;have d:=qD (Sr H) (o:=.lst [.str u]) e;ext;have c:=(yp.mp b).1;show⟨x,a,ss,ns,tps,[u],rfl,W.same d,qb,(fun s h=>by rw[yy.mp h];show c),by show 1<=2;decide,(lo_mo W.1.ir W.1.wok.nd c).mpr b,fun rs l i H' j=>q rs l i H' (d.trans j)⟩
theorem KW:FnScope ["_law_purse_here","_law_names_here","_law_pairs","_law_found","_law_one","_law_other","_law_turn"] wqs (qg qa9):=fS
theorem Pu.same(h:Pu H p)(s:L2.Same H H'):Pu H' p:=by
 obtain⟨a,b,c,e,r⟩:=h;show⟨a,b,c,s _ _ e,r⟩
def IPZ(H:Hp)(l:Addr)(a:List (Addr×(Nat×Nat))):Prop:=H l=some (.lst (a.map fun z=>V.ref z.1))/\∀ z∈a,H z.1=some (iT z.2)
def qew(PI:List (Nat×Nat)):LN:=PI.flatMap fun q=>[q.1,q.2]
theorem qdl(PI:List (Nat×Nat))(q:Nat×Nat):qew (PI++[q])=qew PI++[q.1,q.2]:=by
 unfold qew;rw[x0];rfl
abbrev sT(q:Str×Str):HO:=.tup [.str q.1,.str q.2]
def SPZ(H:Hp)(l:Addr)(a:List (Addr×(Str×Str))):Prop:=H l=some (.lst (a.map fun z=>V.ref z.1))/\∀ z∈a,H z.1=some (sT z.2)
theorem SPZ.pl{d:List (Addr×(Str×Str))}(h:SPZ H l d):PL H l (d.map Prod.fst) (d.map Prod.snd):=by
 show⟨by rw[XG];show h.1,by rw[ya,ya],fun k a b e c=>?_⟩;rw[yd] at e c;obtain⟨z,hz,rfl⟩:=yn.mp e;rw[hz] at c;cases c;show h.2 z (ye hz)
structure NdP(ss:LS)(TI PI:List (Nat×Nat))(qs:LP):Prop where
 inn:∀ q∈qs,(q∈TI.map (nmP ss)\/(q.2,q.1)∈TI.map (nmP ss))/\q.1∈ss/\q.2∈ss/\q.1≠q.2
 per:(qz qs).Perm ((qew PI).map (tn ss))
 len:qs.length=PI.length
theorem NdP.snoc{TI PI:List (Nat×Nat)}(h:NdP ss TI PI qs)(e:ss.Nodup)(d:TJ ss.length TI)(f:q∈TI){y:Str×Str}(c:y=nmP ss q\/y=((nmP ss q).2,(nmP ss q).1)):NdP ss TI (PI++[q]) (qs++[y]):=by
 have m:nmP ss q∈TI.map (nmP ss):=Xa f;obtain⟨h1,a,b⟩:=qev e d _ m;show⟨fun z hz=>?_,?_,by rw[yt,yt,h.len];rfl⟩
 .rcases yA.mp hz with k | k
  .show h.inn z k
  .rw [yy.mp k];rcases c with rfl | rfl
   .show⟨.inl m,h1,a,b⟩
   .show⟨.inr m,a,h1,b.symm⟩
 .rw [zG,qdl,yu];show h.per.append ?_;rcases c with rfl | rfl
  .show List.Perm.refl _
  .show List.Perm.swap _ _ _
theorem NdP.go{TI PI:List (Nat×Nat)}{rs:LP}(h:NdP ss TI PI qs)(i:ss.Nodup)(g:TJ ss.length TI)(f:∀ q∈PI,q∈TI)(nd:(qew PI).Nodup)(m:PI.length<=8)(d:rs.Perm qs):PGo ss (TI.map (nmP ss)) rs:=by
 have hl:∀ k∈qew PI,k<ss.length:=fun k a=>by
  unfold qew at a;obtain⟨q,c,a⟩:=xE.mp a;have:=g.2.1 q (f q c);rcases yx.mp a with z | z
  .omega
  .have:=yy.mp z;lk
 show⟨fun q c=>h.inn q (d.mem_iff.mp c),?_,by rw[d.length_eq,h.len];lk⟩;have e:(qz rs).Perm (qz qs):=d.flatMap_right _;rw[e.nodup_iff,h.per.nodup_iff];show YM.mpr (nd.imp_of_mem fun{x y} j l b e=>b (zS i (hl x j) (hl y l) e))
inductive spNdJ(vs:List V)(H:Hp)(Q:VK)(E:XK):Prop|mk (p n l:Addr) (ss:LS) (TI:List (Nat×Nat)) (zs:List (Addr×(Nat×Nat))) (_:vs=[.ref p,.ref n,.ref l]) (_:Pu H p) (_:H n=some (.lst (ss.map V.str))) (_:n≠p) (_:NOk ss) (_:TJ ss.length TI) (_:IPZ H l zs) (_:l≠p) (_:(∀ z∈zs,z.2∈TI)) (_:(qew (zs.map Prod.snd)).Nodup) (_:zs.length<=8) (_:∀(r:Addr) (us:LQ) (qs:LP) (H':Hp),But p H H'->Pu H' p->PL H' r us qs->PGo ss (TI.map (nmP ss)) qs->qs.length=zs.length->Q (.ref r) H')
theorem ok_ndJ(F:Fun K "_law_named" "_law_named" qa9 f fd)(T:Txt K mg cc cw)(Km:wq5 1 "_law_take" wqa spTkP):wq7 2 f fd wqs spNdJ:=by
 show F.ok KW fun _ _ _ _ H vs Q E hr h=>?_
 .obtain⟨p,n,l,ss,TI,W,rfl,hp,hn,an,hO,hT,hZ,al,L,am,h8,q⟩:=h;have hu:=jX hr;show⟨_,(qc (qk (i:=3) KW.nd rfl (yH rfl) (qS qd))
 (qc (qX yS rfl (qd3 (K:=K) rfl (pv 2)) (qb6 rfl (jC (qm (i:=4) KW.nd rfl (yH rfl)) (jC (qm (i:=5) KW.nd rfl (yH rfl)) qbb)))
 (qe (qP (qbl (K:=K) rfl yM Yc Yd qN (pv 3) (qa (qr (qt (K:=K) rfl hu) (qS (qa (jU (qa (qr (qt (K:=K) rfl hu) (pv 1) (pv 4) (fun _ _=>rfl)) (qa (qr (qt (K:=K) rfl hu) (pv 1) (pv 5) (fun _ _=>rfl)) qd))) (qa (jU (qa (qr (qt (K:=K) rfl hu) (pv 1) (pv 5) (fun _ _=>rfl)) (qa (qr (qt (K:=K) rfl hu) (pv 1) (pv 4) (fun _ _=>rfl)) qd))) qd))) (qq Km (hmR hr) qA (qa (pv 0) (qa qh qd))) (fun _ _=>rfl)) qd)))))
 (qc (qk (i:=6) KW.nd rfl (yH rfl) (qq Km (hmR hr) qA (qa (pv 0) (qa (qp (qbI rfl) rfl T.b_max boot_max (qa qh (qa (qp (jL (K:=K) rfl) rfl T.b_len YE (qa (pv 3) qd)) qd))) qd))))
 (qe (qo (qu (j6 (K:=K) rfl) (jt (qes (K:=K) rfl) (pv 3) (jF (pv 6)) jV) (jt (qes (K:=K) rfl) (pv 3) jV (jF (pv 6))))))))),?_⟩
  apply⟨wq9,fun h hh=>?_⟩;have s1:=qD (Sr H) (o:=.lst []) hh;have eh:upd H h (.lst []) h=some (.lst []):=qb;generalize upd H h (.lst [])=H1 at s1 eh;have I:h≠p:=hp.apart hh;apply qfu ?_;ext;have ar:∀{c:Addr} {q:Nat×Nat},H c=some (iT q)->c≠p:=fun r z=>by obtain⟨x,y,w,e,_⟩:=hp;rw[z,e] at r;cases r
  show⟨l,_,rfl,.of (s1 _ _ hZ.1),qQ (xs:=W.map fun z=>V.ref z.1) (fun i σ J=>But p H J/\Pu J p/\∃(a:List (Addr×(Str×Str))) (y4 y5:Option V),σ=[some (.ref p),some (.ref n),some (.ref l),some (.ref h),y4,y5,none]/\SPZ J h a/\NdP ss TI ((W.take i).map Prod.snd) (a.map Prod.snd)) ⟨fun c o _ e=>s1 c o e,hp.same s1,[],_,_,rfl,⟨eh,fun z hz=>by cases hz⟩,⟨fun q U=>(by cases U),List.Perm.refl _,rfl⟩⟩ (fun i σ J _ hp=>.of (hp.1 _ _ al hZ.1)) (fun i y σ J hy N=>?_) fun σ J N=>?_⟩
  .obtain⟨X,pJ,a,y4,y5,rfl,G,S⟩:=N;rw[yd] at hy;obtain⟨j,O,rfl⟩:=yn.mp hy;have u:=ye O;have U:=hT.2.1 j.2 (L j u);have ez:=X _ _ (ar (hZ.2 j u)) (hZ.2 j u);have s:=X _ _ an hn;have as:i<W.length:=(yc.mp O).1;have ac:a.length<=8:=by have:=S.len;rw[ya,ya,yQ] at this;lk
   show⟨j.1,_,rfl,.of ez,rfl,_,_,rfl,_,_,rfl,rfl,?_⟩;apply⟨.inl ⟨rfl,_,.of G.1⟩,?_⟩;apply qb5 s (by lk) ?_;apply qb5 s U.2 ?_;apply⟨wqqb,fun A ao=>?_⟩;have s2:=qD (Sr J) (o:=.tup [.str (tn ss j.2.1),.str (tn ss j.2.2)]) ao;have Z:upd J A (.tup [.str (tn ss j.2.1),.str (tn ss j.2.2)]) A=some (sT (nmP ss j.2)):=qb;generalize upd J A (.tup [.str (tn ss j.2.1),.str (tn ss j.2.2)])=J2 at s2 Z;apply qb5 (s2 _ _ s) U.2 ?_;apply qb5 (s2 _ _ s) (by lk) ?_;apply⟨wqqb,fun B ap=>?_⟩;have C:=qD (Sr J2) (o:=.tup [.str (tn ss j.2.2),.str (tn ss j.2.1)]) ap;have aa:upd J2 B (.tup [.str (tn ss j.2.2),.str (tn ss j.2.1)]) B=some (sT ((nmP ss j.2).2,(nmP ss j.2).1)):=qb;generalize upd J2 B (.tup [.str (tn ss j.2.2),.str (tn ss j.2.1)])=J3 at C aa;apply⟨wqqb,fun g hg=>?_⟩;have D:=qD (Sr J3) (o:=.lst [.ref A,.ref B]) hg;have eg:upd J3 g (.lst [.ref A,.ref B]) g=some (.lst [.ref A,.ref B]):=qb;generalize upd J3 g (.lst [.ref A,.ref B])=J4 at D eg;have v:=(s2.trans C).trans D;have p4:=pJ.same v;apply⟨p,2,rfl,p4,by decide,by decide,fun d J5 hd b5 p5=>?_⟩;have pT:∀{c:Addr} {q:Str×Str},J4 c=some (sT q)->J5 c=some (sT q):=fun r=>b5 _ _ (fun z=>by obtain⟨x,y,w,e,_⟩:=p4;rw[z,e] at r;cases r) r;have aj:g≠p:=((pJ.same s2).same C).apart hg
   obtain⟨t,y,ak,ht,aq⟩:∃(t:Addr) (y:Str×Str),[V.ref A,V.ref B][d]?=some (.ref t)/\J5 t=some (sT y)/\(y=nmP ss j.2\/y=((nmP ss j.2).2,(nmP ss j.2).1)):=by
    match d,hd with
    | 0,_=>show⟨A,_,rfl,pT (D _ _ (C _ _ Z)),.inl rfl⟩
    | 1,_=>show⟨B,_,rfl,pT (D _ _ aa),.inr rfl⟩
   show .inl (zN (b5 _ _ aj eg) (qv ak) ?_);have Y:=b5 _ _ I (v _ _ G.1);apply⟨h,_,_,rfl,rfl,Y,by rw[ya];show qi (by lk),?_⟩;have kT:∀{c:Addr} {q:Str×Str} {o:HO},J5 c=some (sT q)->upd J5 h o c=some (sT q):=fun r=>by rw[qf (fun z=>by rw[z,Y] at r;cases r)];show r
   show⟨fun c o n e=>?_,?_,a++[(t,y)],_,_,rfl,⟨by rw[qb,yu];rfl,fun z hz=>?_⟩,?_⟩
   .rw [qf (fun z=>by rw[z,hh] at e;cases e)];show b5 _ _ n (v _ _ (X c o n e))
   .obtain⟨a1,a2,a3,e,rr⟩:=p5;show⟨a1,a2,a3,by rw[qf I.symm];show e,rr⟩
   .rcases yA.mp hz with z' | z'
    .show kT (pT (v _ _ (G.2 z z')))
    .rw [yy.mp z'];show kT ht
   .rw [yK,O,yu,yu];show S.snoc hO.nd hT (L j u) aq
  .obtain⟨X,pJ,a,y4,y5,rfl,G,S⟩:=N;rw[show(W.map fun z=>V.ref z.1).length=W.length from ya _,yP] at S;have ac:a.length=W.length:=by have:=S.len;rwa[ya,ya] at this
   apply zq G.1 ?_;rw[ya];apply⟨_,_,rfl,?_⟩
   obtain⟨M,eM,ae,af⟩:∃ M:Nat,(if ((a.length:Nat):Int)>1 then((a.length:Nat):Int) else 1)=(M:Int)/\0<M/\M<1000:=by
    by_cases h1:1<a.length
    .rw [yG (by lk)];show⟨a.length,rfl,by lk,by lk⟩
    .rw [yB (by lk)];show⟨1,rfl,by decide,by decide⟩
   rw[eM];apply⟨p,M,rfl,pJ,ae,af,fun b H2 au b2 p2=>?_⟩;have pT:∀{c:Addr} {q:Str×Str},J c=some (sT q)->H2 c=some (sT q):=fun r=>b2 _ _ (fun z=>by obtain⟨x,y,w,e,_⟩:=pJ;rw[z,e] at r;cases r) r;have e2:=b2 _ _ I G.1;have ad:=X.trans7 b2;apply .inl ⟨h,_,rfl,.of e2,fun g1 ag=>?_⟩;have ed:qcQ (a.map fun z=>V.ref z.1) (some (b:Int)) none=(a.drop b).map fun z=>V.ref z.1:=by rw[qbR,List.map_drop]
   rw[ed];have C:=qD (Sr H2) (o:=.lst ((a.drop b).map fun z=>V.ref z.1)) ag;have e3:upd H2 g1 (.lst ((a.drop b).map fun z=>V.ref z.1)) g1=some (.lst ((a.drop b).map fun z=>V.ref z.1)):=qb;generalize upd H2 g1 (.lst ((a.drop b).map fun z=>V.ref z.1))=H3 at C e3;apply .inl ⟨h,_,rfl,.of (C _ _ e2),fun g2 ah=>?_⟩;have et:qcQ (a.map fun z=>V.ref z.1) none (some (b:Int))=(a.take b).map fun z=>V.ref z.1:=by rw[qaX,List.map_take]
   rw[et];have D:=qD (Sr H3) (o:=.lst ((a.take b).map fun z=>V.ref z.1)) ah;have e4:upd H3 g2 (.lst ((a.take b).map fun z=>V.ref z.1)) g2=some (.lst ((a.take b).map fun z=>V.ref z.1)):=qb;generalize upd H3 g2 (.lst ((a.take b).map fun z=>V.ref z.1))=H4 at D e4;ext;show qdu K (V.ref g1) (V.ref g2) H4 _;show .inl ⟨g1,g2,_,_,rfl,rfl,D _ _ e3,e4,by rw[ya,ya,X8,yQ];show yX (qi (by lk)),fun g3 ai=>?_⟩;have s5:=qD (Sr H4) (o:=.lst (((a.drop b).map fun z=>V.ref z.1)++(a.take b).map fun z=>V.ref z.1)) ai;have Y:upd H4 g3 (.lst (((a.drop b).map fun z=>V.ref z.1)++(a.take b).map fun z=>V.ref z.1)) g3=some (.lst ((a.drop b++a.take b).map fun z=>V.ref z.1)):=by rw[qb,yu]
   generalize upd H4 g3 (.lst (((a.drop b).map fun z=>V.ref z.1)++(a.take b).map fun z=>V.ref z.1))=H5 at s5 Y
   have m:(a.drop b++a.take b).Perm a:=by
    have h1:=List.perm_append_comm (l₁:=a.drop b) (l₂:=a.take b)
    rwa[X6] at h1
   have R:=(C.trans D).trans s5;have hS:SPZ H5 g3 (a.drop b++a.take b):=⟨Y,fun z hz=>R _ _ (pT (G.2 z (m.mem_iff.mp hz)))⟩;show q g3 _ _ H5 (fun c o n e=>R _ _ (ad c o n e)) (p2.same R) hS.pl (S.go hO.nd hT (fun q U=>?_) am (by rw[ya];show h8) (m.map Prod.snd)) (by rw[ya,m.length_eq,ac]);obtain⟨z,hz,rfl⟩:=yI.mp U;show L z hz
theorem KM:FnScope ["_law_pairs","_law_found","_law_one","_law_other"] ["_law_pairs"] (qg zI):=fS
theorem uD:FnScope wqg wqt (qg qbh):=fS
theorem qen(p:Nat->Bool)(i:Nat):(List.range (i+1)).filter p=(List.range i).filter p++(if p i=true then [i] else []):=by
 rw[YG,yW,yL,Yr]
theorem qcD(p:Nat->Bool)(i:Nat):((List.range i).filter p).length<=i:=yi (yF _ _) (by rw[YT];show yh _)
theorem eq_nilI{z:Addr}{Q:VK}(hl:H l=some (.lst xs))(hz:H z=some (.lst []))(q:Q (.bl xs.isEmpty) H):qfH K false (.ref l) (.ref z) H Q:=by
 cases xs with
 | nil=>show .inr (.inl ⟨l,z,true,1,rfl,rfl,by decide,EqT.lst (n:=0) (e:=fun _=>true) (SqL.of hl) (SqL.of hz) rfl fun j x y h=>by(simp at h),q⟩)
 | cons x r=>show .inr (.inl ⟨l,z,false,1,rfl,rfl,by decide,EqT.lstL (SqL.of hl) (SqL.of hz) (by simp),q⟩)
theorem qfm{bs:LN}:odN bs tps ss ns=((pcJ bs (hbI tps ss ns) ss.length).filter fun c=>decide (c.length % 2=1)).map fun c=>c.map (tn ss):=by
 unfold odN;rw[Xr]
 have e:(qaF ∘ fun c:LN=>c.map (tn ss))=fun c=>decide (c.length % 2=1):=by
  funext c;show decide ((c.map (tn ss)).length % 2=1)=_;rw[ya]
 rw[e]
theorem qdm{Q:VK}(a:H d=some (.dK (fnK (wdS tps ss ns) ss)))(b:s∈ss)(q:Q (.str (wdF ss ns (loQ tps ss) s)) H):qgd K (.ref d) (.str s) H Q:=qez a (qcA b) q
theorem eqS{Q:VK}(q:Q (.bl (decide (a=b))) H):qge K (.str a) (.str b) H Q:=.inl (.inl (.inl ⟨rfl,rfl,by
 have c:(if (false:Bool)=true then !eqV (.str a) (.str b) else eqV (.str a) (.str b))=decide (a=b):=by
  rw[yB (by decide)];show(a==b)=_;rw[Yn];simp
 rw[c];show q⟩))
def LLs(H:Hp)(l:Addr)(us:LQ)(ps:List (LS)):Prop:=H l=some (.lst (us.map V.ref))/\All2 (fun u p=>H u=some (.lst (p.map V.str))) us ps
theorem LLs.same(h:LLs H l us ps)(s:L2.Same H H'):LLs H' l us ps:=⟨s _ _ h.1,h.2.mono fun _ _ e=>s _ _ e⟩
inductive spPrQ(vs:List V)(H:Hp)(Q:VK)(E:XK):Prop|mk (l:Addr) (us:LQ) (ss:LS) (tps qs:LP) (_:vs=[.ref l]) (_:PL H l us qs) (_:PGo ss tps qs) (_:∀(d:Addr) (H':Hp),L2.Same H H'->H d=none->H' d=some (.dK (prK qs))->Q (.ref d) H')
inductive spOdQ(vs:List V)(H:Hp)(Q:VK)(E:XK):Prop|mk (n bb d:Addr) (ss:LS) (ns:LN) (TI:List (Nat×Nat)) (bs:LN) (_:vs=[.ref n,.ref bb,.ref d]) (_:H n=some (.lst (ss.map V.str))) (_:H bb=some (.lst (zC bs))) (_:H d=some (.dK (fnK (wdS (TI.map (nmP ss)) ss ns) ss))) (_:NOk ss) (_:TJ ss.length TI) (_:BtJ ss.length TI bs) (_:∀(l:Addr) (us:LQ) (H':Hp),L2.Same H H'->H l=none->LLs H' l us (odN bs (TI.map (nmP ss)) ss ns)->Q (.ref l) H')
theorem ok_prQ(F:Fun K "_law_partners" "_law_partners" zI f fd)(T:Txt K mg cc cw):wq7 1 f fd ["_law_pairs"] spPrQ:=by
 show F.ok KM fun _ _ _ _ H vs Q E N h=>?_
 .obtain⟨l,us,ss,tps,qs,rfl,⟨hl,e⟩,g,q⟩:=h;have C:=jX N;have few:=g.few;have n:=e.len;show⟨_,(qc (qk (i:=1) KM.nd rfl (yH rfl) j0)
 (qc (qX yS rfl (qd3 (K:=K) rfl (pv 0)) (qb6 rfl (jC (qm (i:=2) KM.nd rfl (yH rfl)) (jC (qm (i:=3) KM.nd rfl (yH rfl)) qbb)))
 (qc (jI (pv 3) (jH (pv 1) (pv 2) (jJ C)))
 (qe (jI (pv 2) (jH (pv 1) (pv 3) (jJ C))))))
 (qe (qo (pv 1))))),?_⟩
  ext;intro d p;have v:=qD (Sr H) (o:=.dK []) p;have B:upd H d (.dK []) d=some (.dK (prK [])):=qb;generalize upd H d (.dK [])=H2 at v B;apply qfu ?_;apply⟨l,_,rfl,.of (v _ _ hl),qQ (xs:=us.map V.ref) (fun i σ J=>L2.Same H J/\∃ x z,σ=[some (.ref l),some (.ref d),x,z]/\J d=some (.dK (prK (qs.take i)))) ⟨v,_,_,rfl,B⟩ (fun i σ J _ m=>.of (m.1 _ _ hl)) (fun i y σ J D m=>?_) fun σ J m=>?_⟩
  .obtain⟨r,x,z,rfl,a⟩:=m;rw[yd] at D;obtain⟨b,j,rfl⟩:=yn.mp D;have L:i<us.length:=(yc.mp j).1;obtain⟨ab,c⟩:∃ ab,qs[i]?=some ab:=⟨_,yb (by rw[<- n];show L)⟩;have I:=e.at_ i b ab j c;obtain⟨u,t,R,S⟩:=g.new c;have s:=r _ _ I;have M:(prK (qs.take i)).length<=2000:=by rw[qeW,yQ];lk
   show⟨b,_,rfl,.of s,rfl,_,_,rfl,_,_,rfl,rfl,?_⟩;apply .inr ⟨d,_,rfl,DPut.k (k:=Sum.inr ab.1) a (by rw[YA];lk),?_⟩;have G:=qaC r (o:=.dK (zw (prK (qs.take i)) (Sum.inr ab.1) (.str ab.2))) p;have A:upd J d (.dK (zw (prK (qs.take i)) (Sum.inr ab.1) (.str ab.2))) d=some (.dK (zw (prK (qs.take i)) (Sum.inr ab.1) (.str ab.2))):=qb;generalize upd J d (.dK (zw (prK (qs.take i)) (Sum.inr ab.1) (.str ab.2)))=O at G A;apply .inr ⟨d,_,rfl,DPut.k (k:=Sum.inr ab.2) A ?_,?_⟩
   .have:=jp (prK (qs.take i)) (Sum.inr ab.1:Key) (.str ab.2);rw[YA];lk
   .show⟨qaC G p,_,_,rfl,by rw[qb,qeX t,u]⟩
  .obtain⟨r,x,z,rfl,a⟩:=m;rw[ya,n,yP] at a;apply q d J r p a
theorem ok_odQ(F:Fun K "_law_odd" "_law_odd" qbh f fd)(T:Txt K mg cc cw)(UA:wq5 1 "_law_room" wqr spRmJ)(Uj:wq5 1 "_law_pieces" wqq spPjJ):wq7 2 f fd wqt spOdQ:=by
 show F.ok uD fun _ _ _ _ H vs Q E hr h=>?_
 .obtain⟨n,bb,d,ss,ns,TI,bs,rfl,O,ac,hd,hO,hj,ad,q⟩:=h;have S:=jX hr;have m:=hO.few;rw[qfm] at q;have B:=qfl (ns:=ns) hO hj ad;obtain⟨gs,N⟩:∃ gs,gs=hbI (TI.map (nmP ss)) ss ns:=⟨_,rfl⟩;rw[<- N] at q B;have few:=yi (qdL bs gs ss.length) m
  have R:∀ c∈pcJ bs gs ss.length,∀ k∈c,k<ss.length:=fun c hc k hk=>by
   unfold pcJ at hc;obtain⟨r,_,rfl⟩:=yI.mp hc;unfold qaJ at hk;show Yo.mp (yp.mp hk).1
  have L:∀ c∈pcJ bs gs ss.length,c.length<=14:=fun c hc=>by
   unfold pcJ at hc;obtain⟨r,_,rfl⟩:=yI.mp hc;unfold qaJ;show yi (qcD _ _) m
  show⟨_,(qc (zJ (sc:=qg qbh) (XN:=wqg) wqR 1 [2,0] rfl rfl rfl (by room) rfl (by room) (i:=3) uD.nd rfl rfl
  (jl rfl T.b_range (qa (qp (jL (K:=K) rfl) rfl T.b_len YE (qa (pv 0) qd)) qd)) (fun _ _ _ _=>(qm (i:=0) (show(wqR:LS).Nodup by room) rfl (yH rfl))) qH
  (fun _ _ _ _=>(qK (qj (jx (K:=K) rfl S) (qr (qt (K:=K) rfl S) (pv 1) (qr (qt (K:=K) rfl S) (pv 2) (pv 0) (fun _ _=>rfl)) (fun _ _=>rfl)) jo (qx _))))
  (fun _ _ _ _=>(pv 0)))
 (qc (qk (i:=4) uD.nd rfl (yH rfl) (qq Uj (hmR hr) qA (qa (qp (jL (K:=K) rfl) rfl T.b_len YE (qa (pv 0) qd)) (qa (pv 1) (qa (qq UA (hmR hr) qA (qa (qp (jL (K:=K) rfl) rfl T.b_len YE (qa (pv 0) qd)) (qa (pv 3) qd))) qd)))))
 (qe (qo (q9 (sc:=qg qbh) (XN:=wqg) wqZ 1 [0] rfl rfl rfl (by room) rfl (by room)
  (qG (K:=K) rfl (pv 4)) (fun _ _ _ _=>(qm (i:=0) (show(wqZ:LS).Nodup by room) rfl (yH rfl))) qH
  (fun _ _ _ _=>(qK (qj (jx (K:=K) rfl S) (qu zu (qp (jL (K:=K) rfl) rfl T.b_len YE (qa (pv 0) qd)) qh) qh (qx _))))
  (fun _ _ _ _=>(pe_compIn ["_law_k","_law_names_here"] 1 [1] rfl (by room) rfl (by room)
  (qG (K:=K) rfl (pv 0)) (fun _ _ _ _=>(qm (i:=0) (show(["_law_k","_law_names_here"]:LS).Nodup by room) rfl (yH rfl))) qH
  (fun _ _ _ _=>zy)
  (fun _ _ _ _=>(qr (qt (K:=K) rfl S) (pv 1) (pv 0) (fun _ _=>rfl)))))))))),?_⟩
  apply zq O ?_;rw[ya];show⟨_,rfl,by lk,by lk,?_⟩;rw[y0];show jW (lo:=0) (fun i ys J=>J=H/\ys=((List.range i).filter fun k=>decide (wdF ss ns (loQ (TI.map (nmP ss)) ss) (tn ss k)="held")).map iV) ⟨rfl,rfl⟩ (fun i ys J Y hp=>?_) fun ys J hp=>?_
  .obtain⟨rfl,rfl⟩:=hp;rw[xB];apply qb5 O Y ?_;show qdm hd (qdh Y) ?_;apply eqS ?_;rw[qen];have l2:((List.range i).filter fun k=>decide (wdF ss ns (loQ (TI.map (nmP ss)) ss) (tn ss k)="held")).length<=i:=qcD _ i;show⟨_,rfl,?_⟩;show qL (fun h=>?_) fun h=>?_
   .rw [yG h];apply⟨by rw[ya];show qi (by lk),rfl,by rw[yu];rfl⟩
   .rw [yB h,Ye];show⟨rfl,rfl⟩
  .obtain⟨rfl,rfl⟩:=hp;have aa:((List.range ss.length).filter fun k=>decide (wdF ss ns (loQ (TI.map (nmP ss)) ss) (tn ss k)="held"))=gs:=N.symm;rw[aa];have hf:=B.few;show⟨by rw[ya];show yX (qi (by lk)),fun g hg=>?_⟩;have Z:=qD (Sr J) (o:=.lst (gs.map iV)) hg;have eg:upd J g (.lst (gs.map iV)) g=some (.lst (gs.map iV)):=qb;generalize upd J g (.lst (gs.map iV))=H1 at Z eg;apply zq (Z _ _ O) ?_;rw[ya];apply zq (Z _ _ O) ?_;rw[ya];apply⟨g,ss.length,gs,rfl,m,eg,fun H2 s2=>?_⟩;have W:=Z.trans s2;apply⟨bb,ss.length,rmJ gs ss.length,bs,rfl,m,W _ _ ac,B.bt.1,B.bt.2.1,B.bt.sym,(qcu gs ss.length).1,fun l ls H3 s3 _ hl I=>?_⟩;have A:=W.trans s3;have I:All2 (fun a ks=>H3 a=some (.lst (ks.map iV))) ls (pcJ bs gs ss.length):=I;generalize pcJ bs gs ss.length=PS at I few q R L;have U:=I.len;have ae:=A _ _ O;apply .inl ⟨⟨_,.of hl⟩,qF (xs:=ls.map V.ref) (fun i ys G=>L2.Same H3 G/\∃ us:LQ,ys=us.map V.ref/\us.length<=i/\All2 (fun u p=>G u=some (.lst (p.map V.str))) us (((PS.take i).filter fun c=>decide (c.length % 2=1)).map fun c=>c.map (tn ss))) ⟨L2.Same.refl _,[],rfl,yh _,.nil⟩ (fun i ys G _ b=>.of (b.1 _ _ hl)) (fun i y ys G hy b=>?_) fun ys G b=>?_⟩
   .obtain⟨C,us,rfl,s,D⟩:=b;rw[yd] at hy;obtain⟨c,hc,rfl⟩:=yn.mp hy;have Y:i<PS.length:=by rw[<- U];show(yc.mp hc).1
    obtain⟨ks,x⟩:∃ ks,PS[i]?=some ks:=⟨_,yb Y⟩;have t:=C _ _ (I.at_ i c _ hc x);have hm:=ye x;have ag:=L ks hm;apply zq t ?_;rw[ya];apply vI (by decide) ?_;apply qa4 ?_;have eo:decide ((ks.length:Int) % 2=1)=decide (ks.length % 2=1):=Yq.mpr (by lk);rw[eo];ext;rw[yK,x,yW]
    have e1:((some ks).toList.filter fun c=>decide (c.length % 2=1))=if decide (ks.length % 2=1)=true then [ks] else []:=by
     show [ks].filter _=_;rw[yL,Yr]
    rw[e1];show qL (fun ho=>?_) (fun ho=>?_)
    .rw [yG ho];apply .inl ⟨⟨_,.of t⟩,qF (xs:=ks.map iV) (fun k zs G'=>G'=G/\zs=((ks.take k).map (tn ss)).map V.str) ⟨rfl,rfl⟩ (fun k zs G' _ b=>by rw[b.1];show .of t) (fun k z zs G' hz b=>?_) fun zs G' b=>?_⟩
     .obtain⟨rfl,rfl⟩:=b;rw[yd] at hz;obtain⟨j,v,rfl⟩:=yn.mp hz;have ah:k<ks.length:=(yc.mp v).1;apply qad ?_;apply qb5 (C _ _ ae) (R ks hm j (ye v)) ?_;show⟨by rw[ya,ya,yQ];show qi (by lk),rfl,by rw[yK,v,yu,yu];rfl⟩
     .obtain⟨rfl,rfl⟩:=b;rw[show(ks.map iV).length=ks.length from ya _,yP];show⟨by rw[ya,ya];show yX (qi (by lk)),fun u af=>?_⟩;have X:=qD (Sr G') (o:=.lst ((ks.map (tn ss)).map V.str)) af;show⟨by rw[ya];show qi (by lk),C.trans X,us++[u],by rw[yu];rfl,by rw[yt];show XF s,?_⟩;rw[yu];show(D.mono fun _ _ e=>X _ _ e).snoc qb
    .rw [yB ho,Ye];show⟨C,us,rfl,Y1 s,D⟩
   .obtain⟨C,us,rfl,s,D⟩:=b;rw[show(ls.map V.ref).length=PS.length by rw[ya,U]] at s D;rw[yP] at D;show⟨by rw[ya];show yX (qi (by lk)),fun g9 M=>?_⟩;have X:=qD (Sr G) (o:=.lst (us.map V.ref)) M;show q g9 us _ ((A.trans C).trans X) ((A.trans C).free M) ⟨qb,D.mono fun _ _ e=>X _ _ e⟩
theorem Ko:FnScope wy wqi (qg jK):=fS
theorem qfU{a:Nat->Bool}:∀ top,∃ v,IsM tps ss a r top v
 | 0=>⟨_,yh _,fun o h=>absurd h (Nat.not_lt_zero o),.inl rfl⟩
 | top+1=>by
  obtain⟨v,h⟩:∃ v,IsM tps ss a r top v:=qfU top;by_cases e:a top=true
  .show⟨_,h.take e⟩
  .show⟨_,h.skip e⟩
structure GI(tps:LP)(ss:LS)(TI:List (Nat×Nat))(low room:Nat)(PI:List (Nat×Nat)):Prop where
 lt:room<2 ^ ss.length
 lo:∀ k,k<low->room.testBit k=false
 cnt:PI.length+tbQ tps ss room=tbQ tps ss (2 ^ ss.length-1)
 inn:∀ q∈PI,q∈TI
 nd:(qew PI).Nodup
 out:∀ k∈qew PI,room.testBit k=false
section
variable{tps:LP}{ss:LS}{TI PI:List (Nat×Nat)}{low room:Nat}
theorem GI.skip(h:GI tps ss TI low room PI)(e:room.testBit low=false):GI tps ss TI (low+1) room PI:=⟨h.lt,fun k a=>by
 by_cases z:k=low
 .rw [z];show e
 .show h.lo k (by lk),h.cnt,h.inn,h.nd,h.out⟩
theorem qdn{k:Nat}(h:m<n):jB m k<n:=Yp (by unfold jB;lk) h
theorem GI.drop(h:GI tps ss TI low room PI)(e:tbQ tps ss (jB room (2 ^ low))=tbQ tps ss room):GI tps ss TI (low+1) (jB room (2 ^ low)) PI:=by
 show⟨qdn h.lt,fun k a=>?_,by rw[e];show h.cnt,h.inn,h.nd,fun k a=>?_⟩
 .rw [jQ,Yl];by_cases z:k=low
  .simp [z]
  .rw [h.lo k (by lk)];rfl
 .rw [jQ,h.out k a];rfl
theorem GI.pair(h:GI tps ss TI low room PI){bs:LN}(p:BtJ ss.length TI bs)(s:TJ ss.length TI)(hl:room.testBit low=true){o:Nat}(i:(jB room (2 ^ low) &&& bs.getD low 0).testBit o=true)(e:1+tbQ tps ss (jB (jB room (2 ^ low)) (2 ^ o))=tbQ tps ss room):GI tps ss TI (low+1) (jB (jB room (2 ^ low)) (2 ^ o)) (PI++[(low,o)]):=by
 rw[Y5,yY,jQ,Yl,yY] at i;obtain⟨⟨h1,l⟩,m⟩:=i;have c:low≠o:=by simpa using l
 have r:low<o:=by
  rcases xv low o with z | z | z
  .show z
  .show absurd z c
  .rw [h.lo o z] at h1;cases h1
 have n:(low,o)∈TI:=by
  rcases(p.2.2 low o).mp m with z | z
  .show z
  .have:=(s.2.1 _ z).1;simp only at this;lk
 have u:low∉qew PI:=fun z=>by rw[h.out low z] at hl;cases hl
 have v:o∉qew PI:=fun z=>by rw[h.out o z] at h1;cases h1
 have en:=qdl PI (low,o);show⟨qdn (qdn h.lt),fun k f=>?_,?_,fun q t=>?_,?_,fun k f=>?_⟩
 .rw [jQ,jQ,Yl];by_cases z:k=low
  .simp [z]
  .rw [h.lo k (by lk)];rfl
 .have:=h.cnt;rw[yt,List.length_singleton];lk
 .rcases yA.mp t with z | z
  .show h.inn q z
  .rw [yy.mp z];show n
 .rw [en];show Yi.mpr ⟨h.nd,by simp[c],fun a g b d j=>?_⟩;subst j;rcases yx.mp d with z | z
  .show u (by rw[<- show a=low from z];show g)
  .show v (by rw[<- show a=o from yy.mp z];show g)
 .rw [en] at f;rw[jQ,jQ,Yl,Yl];rcases yA.mp f with z | z
  .rw [h.out k z];rfl
  .rcases yx.mp z with y | y
   .subst y;simp
   .rw [yy.mp y];simp
end
inductive spGgQ(vs:List V)(H:Hp)(Q:VK)(E:XK):Prop|mk (p lb lt:Addr) (ss:LS) (TI:List (Nat×Nat)) (bs:LN) (_:vs=[.ref p,.int (ss.length:Int),.ref lb,.ref lt]) (_:Pu H p) (_:ss.length<=12) (_:NOk ss) (_:TJ ss.length TI) (_:H lb=some (.lst (zC bs))) (_:BtJ ss.length TI bs) (_:H lt=some (.lst (zC (tbL (TI.map (nmP ss)) ss (2 ^ ss.length))))) (_:lb≠p) (_:lt≠p) (_:(∀ a b,tA (TI.map (nmP ss)) a b->a≠b)) (_:∀(r:Addr) (zs:List (Addr×(Nat×Nat))) (H':Hp),But p H H'->Pu H' p->H r=none->r≠p->IPZ H' r zs->(∀ z∈zs,z.2∈TI)->(qew (zs.map Prod.snd)).Nodup->zs.length=tbQ (TI.map (nmP ss)) ss (2 ^ ss.length-1)->Q (.ref r) H')
theorem ok_ggQ(F:Fun K "_law_greatest" "_law_greatest" jK f fd)(T:Txt K mg cc cw)(Km:wq5 1 "_law_take" wqa spTkP):wq7 2 f fd wqi spGgQ:=by
 show F.ok Ko fun _ _ _ _ H vs Q E hr h=>?_
 .obtain⟨p,lb,lt,ss,TI,bs,rfl,hp,bb,hO,hj,au,ad,am,nb,nt,hi,q⟩:=h;have A:=jX hr;obtain⟨tps,X⟩:∃ tps,tps=TI.map (nmP ss):=⟨_,rfl⟩;rw[<- X] at q am hi;have hn:=hO.nd;have bh:2 ^ ss.length<=4096:=xq (by decide) bb;have p0:0<2 ^ ss.length:=Xq _;have pw:∀ k:Nat,(1*2 ^ ((k:Int)).toNat:Int)=((2 ^ k:Nat):Int):=fun k=>by rw[y0,kI,xO];rfl
  have tg:∀ k,k<2 ^ ss.length->(zC (tbL tps ss (2 ^ ss.length)))[k]?=some (.int (tbQ tps ss k:Nat)):=fun k hk=>by
   rw[ju (by rw[qb0];show hk),qfj hk]
  have ay:∀{i j:Nat} {x y:Str},ss[i]?=some x->ss[j]?=some y->(tA tps x y↔qbn bs i j=true):=fun hx Y=>by rw[X,qgL hn hj hx Y];show(ad.2.2 _ _).symm
  show⟨_,(qc (qk (i:=4) Ko.nd rfl (Y9 rfl) (qu qb7 (qu zv qh (pv 1)) qh))
 (qc (qk (i:=5) Ko.nd rfl (yH rfl) (qS qd))
 (qc (qX yS rfl (jl rfl T.b_range (qa (pv 1) qd)) (qm (i:=6) Ko.nd rfl (Y9 rfl))
 (qe (qR (qj (jx (K:=K) rfl A) (qu jT (qu qbj (pv 4) (pv 6)) qh) qh (qx _)) (qc (qk (i:=7) Ko.nd rfl (Y9 rfl) (qu jT (pv 4) (qaA qbG (qu zv qh (pv 6)))))
 (qc (zJ (sc:=qg jK) (XN:=wy) wqL 1 [7,2,6] rfl rfl rfl (by room) rfl (by room) (i:=8) Ko.nd rfl rfl
  (jl rfl T.b_range (qa (pv 1) qd)) (fun _ _ _ _=>(qm (i:=0) (show(wqL:LS).Nodup by room) rfl (yH rfl))) qH
  (fun _ _ _ _=>(qK (qj (jx (K:=K) rfl A) (qu jT (qu qbj (qu jT (pv 1) (qr (qt (K:=K) rfl A) (pv 2) (pv 3) (fun _ _=>rfl))) (pv 0)) qh) qh (qx _))))
  (fun _ _ _ _=>(pv 0)))
 (qc (zJ (sc:=qg jK) (XN:=wy) wqD 1 [3,4,7] rfl rfl rfl (by room) rfl (by room) (i:=9) Ko.nd rfl rfl
  (qG (K:=K) rfl (pv 8)) (fun _ _ _ _=>(qm (i:=0) (show(wqD:LS).Nodup by room) rfl (yH rfl))) qH
  (fun _ _ _ _=>(qK (qj (jx (K:=K) rfl A) (qu (j6 (K:=K) rfl) qh (qr (qt (K:=K) rfl A) (pv 1) (qu jT (pv 3) (qaA qbG (qu zv qh (pv 0)))) (fun _ _=>rfl))) (qr (qt (K:=K) rfl A) (pv 1) (pv 2) (fun _ _=>rfl)) (qx _))))
  (fun _ _ _ _=>(pv 0)))
 (qe (qR (PW.pt (qbm (qj (jx (K:=K) rfl A) (pv 9) (qS qd) (qx _)) (qah (PW.pt (qbi (qj (jx (K:=K) rfl A) (qr (qt (K:=K) rfl A) (pv 3) (pv 7) (fun _ _=>rfl)) (qr (qt (K:=K) rfl A) (pv 3) (pv 4) (fun _ _=>rfl)) (qx _)) (qba (qj (jx (K:=K) rfl A) (qq Km (hmR hr) qA (qa (pv 0) (qa qh qd))) qh (qx _)))))))) (qe (qk (i:=4) Ko.nd rfl (Y9 rfl) (pv 7))) (qc (qk (i:=10) Ko.nd rfl (yH rfl) (qr (qt (K:=K) rfl A) (pv 9) (qq Km (hmR hr) qA (qa (pv 0) (qa (qp (jL (K:=K) rfl) rfl T.b_len YE (qa (pv 9) qd)) qd))) (fun _ _=>rfl)))
 (qc (qP (qbl (K:=K) rfl yM Yc Yd qN (pv 5) (qa (jU (qa (pv 6) (qa (pv 10) qd))) qd)))
 (qe (qk (i:=4) Ko.nd rfl (Y9 rfl) (qu jT (pv 7) (qaA qbG (qu zv qh (pv 10))))))))))))) qw)))
 (qe (qo (pv 5)))))),?_⟩
  apply vI ⟨by lk,by lk,by decide⟩ ?_;ext;rw[pw];have eF:((2 ^ ss.length:Nat):Int)-1=((2 ^ ss.length-1:Nat):Int):=by lk
  rw[eF];apply⟨wq9,fun l hl=>?_⟩;have s0:=qD (Sr H) (o:=.lst []) hl;have e0:upd H l (.lst []) l=some (.lst []):=qb;have O:l≠p:=hp.apart hl;generalize upd H l (.lst [])=H0 at s0 e0;apply⟨_,rfl,by lk,by lk,?_⟩;rw[y0];have ar:∀{G G':Hp} {c:Addr} {q:Nat×Nat},But p G G'->Pu G p->G c=some (iT q)->G' c=some (iT q):=fun b h ec=>b _ _ (fun z=>by obtain⟨x,y,w,e,_⟩:=h;rw[z,e] at ec;cases ec) ec;have as:GI tps ss TI 0 (2 ^ ss.length-1) []:=⟨by lk,fun k hk=>absurd hk (Nat.not_lt_zero k),xA _,(fun q hq=>by cases hq),Kh,fun k hk=>by cases hk⟩;show j5 (lo:=0) (fun i σ J=>But p H J/\Pu J p/\∃(B:List (Addr×(Nat×Nat))) (a:Nat) (y6 y7 y8 y9 ah:Option V),σ=[some (.ref p),some (.int (ss.length:Int)),some (.ref lb),some (.ref lt),some (.int (a:Int)),some (.ref l),y6,y7,y8,y9,ah]/\IPZ J l B/\GI tps ss TI i a (B.map Prod.snd)/\B.length<=i) ⟨fun c o _ e=>s0 c o e,hp.same s0,[],_,_,_,_,_,_,rfl,⟨e0,fun z hz=>by cases hz⟩,as,yh _⟩ (fun i σ J ak g=>?_) fun σ J g=>?_
  .obtain⟨bJ,Z,B,a,y6,y7,y8,y9,ah,rfl,hZ,L,zl⟩:=g;rw[xB];have al:=bJ _ _ nb au;have W:=bJ _ _ nt am;have rl:=L.lt;apply vI (by lk) ?_;apply qa4 ?_;rw[zZ];apply qL (fun hb=>?_) fun hb=>⟨bJ,Z,B,a,_,_,_,_,_,rfl,hZ,L.skip (by simpa using hb),Y1 zl⟩;have hb:a.testBit i=true:=hb;obtain⟨x,hx⟩:∃ x,ss[i]?=some x:=⟨_,yb ak⟩;apply vI ⟨by lk,by lk,by decide⟩ ?_;apply vU ?_;ext;rw[pw,jG];obtain⟨r,m⟩:∃ r,r=jB a (2 ^ i):=⟨_,rfl⟩;rw[<- m];have ao:r<2 ^ ss.length:=by rw[m];show qdn rl
   obtain⟨M,af⟩:∃ M,M=r &&& bs.getD i 0:=⟨_,rfl⟩
   have aw:∀ o y,ss[o]?=some y->(M.testBit o=true↔(r.testBit o=true/\tA tps x y)):=fun o y Y=>by
    rw[af,Y5,yY,ay hx Y];rfl
   obtain⟨v,hv⟩:∃ v,IsM tps ss (fun o=>M.testBit o) r ss.length v:=qfU ss.length;have ev:v=tbQ tps ss a:=qfh hi hn hx hb (fun o=>M.testBit o) (fun o y Y=>by rw[<- m];show aw o y Y) (m ▸ hv);apply⟨_,rfl,by lk,by lk,?_⟩;rw[y0];show jW (lo:=0) (fun k ys G=>G=J/\ys=((List.range k).filter fun j=>M.testBit j).map iV) ⟨rfl,rfl⟩ (fun k ys G hk g=>?_) fun ys G g=>?_
   .obtain⟨rfl,rfl⟩:=g;rw[xB];have l2:((List.range k).filter fun j=>M.testBit j).length<=k:=qcD _ k;apply .inl (zN al (qv (ju (by rw[ad.1];show ak))) ?_);ext;rw[qdI,<- af];show vI (by lk) ?_;apply qa4 ?_;rw[zZ,qen];apply qL (fun h=>?_) fun h=>?_
    .rw [yG h];apply⟨by rw[ya];show qdi (by lk),rfl,by rw[yu];rfl⟩
    .rw [yB h,Ye];show⟨rfl,rfl⟩
   .obtain⟨rfl,rfl⟩:=g;have nl:((List.range ss.length).filter fun j=>M.testBit j).length<=ss.length:=qcD _ _;obtain⟨near,D⟩:∃ near,near=(List.range ss.length).filter fun j=>M.testBit j:=⟨_,rfl⟩;rw[<- D] at nl ⊢;show⟨by rw[ya];show yX (qdi (by lk)),fun ln av=>?_⟩;have s2:=qD (Sr G) (o:=.lst (near.map iV)) av;have en:upd G ln (.lst (near.map iV)) ln=some (.lst (near.map iV)):=qb;generalize upd G ln (.lst (near.map iV))=G2 at s2 en;obtain⟨R,ag⟩:∃ R:Nat->Bool,R=fun j=>decide (1+tbQ tps ss (jB r (2 ^ j))=tbQ tps ss a):=⟨_,rfl⟩;apply .inl ⟨⟨_,.of en⟩,qF (xs:=near.map iV) (fun k ys G'=>G'=G2/\ys=((near.take k).filter R).map iV) ⟨rfl,rfl⟩ (fun k ys G' _ g=>by rw[g.1];show .of en) (fun k y ys G' Y g=>?_) fun ys G' g=>?_⟩
    .obtain⟨rfl,rfl⟩:=g;rw[yd] at Y;obtain⟨j,ae,rfl⟩:=yn.mp Y;have be:k<near.length:=(yc.mp ae).1;have bd:j<ss.length:=by have:=ye ae;rw[D] at this;show Yo.mp (yp.mp this).1
     have ax:(near.take (k+1)).filter R=(near.take k).filter R++(if R j=true then [j] else []):=by
      rw[yK,ae,yW];show _++[j].filter _=_;rw[yL,Yr]
     have bc:((near.take k).filter R).length<=k:=yi (yF _ _) (by rw[yQ];lk);have U:=s2 _ _ W;apply vI ⟨by lk,by lk,by decide⟩ ?_;apply vU ?_;ext;rw[pw,jG];show .inl (zN U (qv (tg _ (qdn ao))) ?_);apply .inl (zN U (qv (tg _ rl)) ?_);apply qa4 ?_;have ew:decide (1+(tbQ tps ss (jB r (2 ^ j)):Int)=(tbQ tps ss a:Int))=R j:=by rw[ag];show Yq.mpr (by lk)
     rw[ew,ax];apply qL (fun h=>?_) fun h=>?_
     .rw [yG h];apply⟨by rw[ya];show qdi (by lk),rfl,by rw[yu];rfl⟩
     .rw [yB h,Ye];show⟨rfl,rfl⟩
    .obtain⟨rfl,rfl⟩:=g;rw[show(near.map iV).length=near.length from ya _,yP];generalize N:near.filter R=s;have bg:s.length<=12:=by rw[<- N];show yi (yF _ _) (by lk)
     have ba:∀ o∈s,M.testBit o=true/\1+tbQ tps ss (jB r (2 ^ o))=tbQ tps ss a:=fun o ho=>by
      rw[<- N] at ho;obtain⟨h1,S⟩:=yp.mp ho;rw[D] at h1;rw[ag] at S;show⟨(yp.mp h1).2,yk S⟩
     have az:s=[]->tbQ tps ss r=tbQ tps ss a:=fun hz=>by
      rcases hv.at_ with z | ⟨o,h1,S,h3⟩
      .omega
      .have:o∈s:=by
        rw[<- N,D,ag];show yp.mpr ⟨yp.mpr ⟨Yo.mpr h1,S⟩,yD (by lk)⟩
       rw[hz] at this;cases this
     show⟨by rw[ya];show yX (qdi (by lk)),fun lw an=>?_⟩;have s3:=qD (Sr G') (o:=.lst (s.map iV)) an;have ew:upd G' lw (.lst (s.map iV)) lw=some (.lst (s.map iV)):=qb;generalize upd G' lw (.lst (s.map iV))=G3 at s3 ew;apply⟨wq9,fun z hz=>?_⟩;have s4:=qD (Sr G3) (o:=.lst []) hz;have ez:upd G3 z (.lst []) z=some (.lst []):=qb;generalize upd G3 z (.lst [])=G4 at s4 ez;have u:=(s2.trans s3).trans s4;have bi:=s3.trans s4;have aq:=u _ _ W;apply .inl (.inl (eq_nilI (s4 _ _ ew) ez ?_));ext;have drop:∀{C:Hp},But p G C->Pu C p->tbQ tps ss r=tbQ tps ss a->But p H C/\Pu C p/\IPZ C l B/\GI tps ss TI (i+1) r (B.map Prod.snd):=fun I p5 e=>⟨bJ.trans7 I,p5,⟨I _ _ O hZ.1,fun z hz=>ar I Z (hZ.2 z hz)⟩,by rw[m];show L.drop (by rw[<- m];show e)⟩;show qL (fun h=>?_) fun h=>?_
     .have hw:s=[]:=by cases s with
       | nil=>rfl
       | cons _ _=>cases h
      show qad ?_;ext;obtain⟨I,p5,z5,g5⟩:=drop (fun c o _ e=>u c o e) (Z.same u) (az hw);show⟨I,p5,B,r,_,_,_,_,_,rfl,z5,g5,Y1 zl⟩
     .have hw:0<s.length:=by cases s with
       | nil=>show absurd rfl h
       | cons _ _=>show Nat.succ_pos _
      have p4:=Z.same u;apply .inl (zN aq (qv (tg _ ao)) ?_);apply .inl (zN aq (qv (tg _ rl)) ?_);apply qa4 ?_;apply qL (fun S=>?cA) fun S=>?dA
      case' cA =>
       have S:=yk S;apply⟨p,2,rfl,p4,by decide,by decide,fun d C _ I p5=>?_⟩;apply qa4 ?_;apply qL (fun h3=>?bA) fun h3=>?_
      case bA =>
       ext;obtain⟨b6,p6,z6,g6⟩:=drop (fun c o n e=>I c o n (u c o e)) p5 (by lk);show⟨b6,p6,B,r,_,_,_,_,_,rfl,z6,g6,Y1 zl⟩
      case' dA =>
       obtain⟨C,e5⟩:∃ C,C=G4:=⟨_,rfl⟩;have I:But p G4 C:=fun c o _ e=>by rw[e5];show e
       have p5:Pu C p:=by rw[e5];show p4
       rw[<- e5];show qL (fun z=>by cases z) fun _=>?_
      all_goals
       have ap:lw≠p:=(Z.same s2).apart an;have aj:=I _ _ ap (s4 _ _ ew);apply zq aj ?_;rw[ya];apply⟨p,s.length,rfl,p5,hw,by lk,fun d G6 hd b6 p6=>?_⟩;obtain⟨o,ho⟩:∃ o,s[d]?=some o:=⟨_,yb hd⟩;obtain⟨o1,o2⟩:=ba o (ye ho)
       have ol:o<ss.length:=by
        have:=ye ho;rw[<- N,D] at this;show Yo.mp (yp.mp (yp.mp this).1).1
       show .inl (zN (b6 _ _ ap aj) (qv (by rw[yd,ho];rfl)) ?_);have aa:But p G G6:=fun c o n e=>b6 c o n (I c o n (u c o e));have ac:=aa _ _ O hZ.1;apply⟨.inl ⟨rfl,_,.of ac⟩,?_⟩;apply⟨wqqb,fun t ht=>?_⟩;have s7:=qD (Sr G6) (o:=.tup [.int (i:Int),.int (o:Int)]) ht;have et:upd G6 t (.tup [.int (i:Int),.int (o:Int)]) t=some (iT (i,o)):=qb;have bf:t≠l:=fun z=>by rw[z,ac] at ht;cases ht
       generalize upd G6 t (.tup [.int (i:Int),.int (o:Int)])=G7 at s7 et;have ai:=s7 _ _ ac;apply⟨l,_,_,rfl,rfl,ai,by rw[ya];show qi (by lk),?_⟩;apply vI ⟨by lk,by lk,by decide⟩ ?_;apply vU ?_;ext;rw[pw,jG];have kT:∀{c:Addr} {q:Nat×Nat} {o:HO},G7 c=some (iT q)->upd G7 l o c=some (iT q):=fun ec=>by rw[qf (fun z=>by rw[z,ai] at ec;cases ec)];show ec
       show⟨fun c o n e=>?_,?_,B++[(t,(i,o))],_,_,_,_,_,_,rfl,⟨by rw[qb,yu];rfl,fun z hz=>?_⟩,?_,by rw[yt];show XF zl⟩
       .rw [qf (fun z=>by rw[z,hl] at e;cases e)];show s7 _ _ (aa _ _ n (bJ c o n e))
       .obtain⟨a1,a2,a3,e,rr⟩:=p6.same s7;show⟨a1,a2,a3,by rw[qf O.symm];show e,rr⟩
       .rcases yA.mp hz with z' | z'
        .show kT (s7 _ _ (ar aa Z (hZ.2 z z')))
        .rw [yy.mp z'];show kT et
       .rw [yu,m];show L.pair ad hj hb (by rw[<- m,<- af];show o1) (by rw[<- m];show o2)
  .obtain⟨bJ,Z,B,a,y6,y7,y8,y9,ah,rfl,hZ,L,zl⟩:=g;ext
   have m:a=0:=XC fun k=>by
    rw[kX];by_cases z:k<ss.length
    .show L.lo k z
    .show X5 (yj L.lt (xq (by decide) (by lk)))
   have hc:=L.cnt;rw[m,qfi,ya] at hc;show q l B J bJ Z hl O hZ (fun z hz=>L.inn _ (Xa hz)) L.nd hc
theorem KP:FnScope wl wqk (qg qaK):=fS
theorem neS{Q:VK}(q:Q (.bl (!decide (a=b))) H):qfH K true (.str a) (.str b) H Q:=.inl ⟨rfl,rfl,by
 have c:(if (true:Bool)=true then !eqV (.str a) (.str b) else eqV (.str a) (.str b))=!decide (a=b):=by
  rw[yG rfl];show(!(a==b))=_
  congr 1
 rw[c];show q⟩
theorem str_nin{n:Addr}{Q:VK}(a:H n=some (.lst (ss.map V.str)))(q:Q (.bl (!decide (z∈ss))) H):qey K true (.str z) (.ref n) H Q:=
 .inl ⟨n,_,rfl,.inl (.of a),rfl,Yw.mpr fun x b=>by(obtain⟨s,_,rfl⟩:=yI.mp b;rfl),by rw[yG rfl,qco];show q⟩
theorem str_in{n:Addr}{Q:VK}(a:H n=some (.lst (ss.map V.str)))(q:Q (.bl (decide (z∈ss))) H):qey K false (.str z) (.ref n) H Q:=
 .inl ⟨n,_,rfl,.inl (.of a),rfl,Yw.mpr fun x b=>by(obtain⟨s,_,rfl⟩:=yI.mp b;rfl),by rw[yB (by decide),qco];show q⟩
theorem qfV{b:Addr}{Q:VK}(h1:σ[1]?=some (some (.ref d)))(g:σ[4]?=some (some (.ref b)))(h:σ[5]?=some (some (.str s)))(c:H d=some (.dK (fnK (wdS tps ss ns) ss)))(f:H b=some (.dK (prK qs)))(e:pt qs s=some a)(i:a∈ss)(q:Q (.str (wdF ss ns (loQ tps ss) a)) H):qdX (qeA 1) (qdX (qeA 4) (qeA 5) (tC (V.str ""))) (tC (V.str "")) σ H Q:=by
 show qeR (qgu h1 ?_);show⟨d,rfl,.inl ⟨_,.of c⟩,qeR (qgu g ?_)⟩;show⟨b,rfl,.inl ⟨_,.of f⟩,qgu h (vC ?_)⟩;show⟨_,DGet.k (k:=Sum.inr s) f,?_⟩;rw[jq,e];show vC ⟨_,DGet.k (k:=Sum.inr a) c,?_⟩;rw[qcA i];show q
theorem qdO{n:Addr}{b:Str}{Q:VK}(h1:σ[i]?=some (some (.ref n)))(l:qeo 1 [j] σ=[none,some (.ref d)])(f:H n=some (.lst (ss.map V.str)))(few:ss.length<=14)(m:H d=some (.dK (fnK (wdS tps ss ns) ss)))
  (q:∀ g,H g=none->Q (.ref g) (upd H g (.lst ((ss.filter fun s=>decide (wdF ss ns (loQ tps ss) s=b)).map V.str)))):qeO (qgR K (qeA i)) (qb2 0) (qfr (tOp (qge K) (tOp (qgd K) (qeA 1) (qeA 0)) (tC (V.str b)))) (qeA 0) 1 [j] σ H Q:=by
 show qgx (show qeA i σ H _ from qgu h1 ?_);rw[l];show .inl ⟨⟨_,.of f⟩,qF (fun i ys G=>G=H/\ys=((ss.take i).filter fun s=>decide (wdF ss ns (loQ tps ss) s=b)).map V.str) ⟨rfl,rfl⟩ (fun i ys G _ a=>by rw[a.1];show .of f) (fun i y ys G p a=>?_) fun ys G a=>?_⟩
 .obtain⟨rfl,rfl⟩:=a;obtain⟨h,c,rfl⟩:=jc p;have o:=(yc.mp c).1;have e:((ss.take i).filter fun s=>decide (wdF ss ns (loQ tps ss) s=b)).length<=i:=yi (yF _ _) (by rw[yQ];lk);apply qdm m (ye c) ?_;apply eqS ?_;rw[yK,c,yW];show⟨_,rfl,qL (fun h1=>?_) fun h1=>?_⟩
  .ext;show⟨by rw[ya];show qi (by lk),rfl,?_⟩;show _=List.map V.str (_++[h].filter _);rw[yL,yG h1,yu];rfl
  .show⟨rfl,?_⟩;show _=List.map V.str (_++[h].filter _);rw[yL,yB h1,Yr,Ye]
 .obtain⟨rfl,rfl⟩:=a;rw[show(ss.map V.str).length=ss.length from ya _,yP];have e:(ss.filter fun s=>decide (wdF ss ns (loQ tps ss) s=b)).length<=ss.length:=yF _ _;show⟨by rw[ya];show yX (qi (by lk)),q⟩
inductive spFtQ(vs:List V)(H:Hp)(Q:VK)(E:XK):Prop|mk (n d lo l:Addr) (ss:LS) (ns:LN) (tps qs:LP) (us ls:LQ) (od:List (LS)) (_:vs=[.ref n,.ref d,.ref lo,.ref l]) (_:H n=some (.lst (ss.map V.str))) (_:ss.Nodup) (_:ss.length<=14) (_:H d=some (.dK (fnK (wdS tps ss ns) ss))) (_:LLs H lo us od) (_:(∀ p∈od,p.length<=14/\∀ a∈p,a∈ss)) (_:od.length<=14) (_:PL H l ls qs) (_:PGo ss tps qs) (_:Fit tps ss ns od (pt qs)) (_:∀(H':Hp),L2.Same H H'->Q (.bl true) H')
theorem ok_ftQ(F:Fun K "_law_fit" "_law_fit" qaK f fd)(T:Txt K mg cc cw)(u3:wq5 1 "_law_partners" ["_law_pairs"] spPrQ):wq7 2 f fd wqk spFtQ:=by
 show F.ok KP fun _ _ _ s H vs Q E hr h=>?_
 .obtain⟨n,d,lo,l,ss,ns,tps,qs,us,ls,od,rfl,hn,nd,few,hd,hL,an,ap,hP,hG,hF,q⟩:=h;have j:=jX hr;show⟨_,(qc (qk (i:=4) KP.nd rfl (Y9 rfl) (qq u3 (hmR hr) qA (qa (pv 3) qd)))
 (qc (qX yS rfl (qG (K:=K) rfl (pv 0)) (qm (i:=5) KP.nd rfl (yH rfl))
 (qc (qR (PW.pt (qbi (qj (jx (K:=K) rfl j) (qr (qt (K:=K) rfl j) (pv 1) (pv 5) (fun _ _=>rfl)) jo (qx _)) (qba (qj (qaj (K:=K) rfl j) (qbp (qft j) (pv 1) (qbp (qft j) (pv 4) (pv 5) jo ⟨rfl,rfl,rfl,rfl⟩) jo ⟨rfl,rfl,rfl,rfl⟩) jo (qx _))))) (qe (qo jS)) qw)
 (qe (qR (PW.pt (qbi (qj (jx (K:=K) rfl j) (qr (qt (K:=K) rfl j) (pv 1) (pv 5) (fun _ _=>rfl)) jo (qx _)) (qba (qj (qaj (K:=K) rfl j) (qbp (qft j) (pv 1) (qbp (qft j) (pv 4) (pv 5) jo ⟨rfl,rfl,rfl,rfl⟩) jo ⟨rfl,rfl,rfl,rfl⟩) jo (qx _))))) (qe (qo jS)) qw))))
 (qc (qk (i:=6) KP.nd rfl (Y9 rfl) (q9 (sc:=qg qaK) (XN:=wl) ["_law_place","_law_partner"] 1 [4] rfl rfl rfl (by room) rfl (by room)
  (qG (K:=K) rfl (pv 0)) (fun _ _ _ _=>(qm (i:=0) (show(["_law_place","_law_partner"]:LS).Nodup by room) rfl (yH rfl))) qH
  (fun _ _ _ _=>(qK (qj (zz (K:=K) rfl j) (pv 0) (pv 1) (by with_unfolding_all rfl))))
  (fun _ _ _ _=>(pv 0))))
 (qc (qX yS rfl (qG (K:=K) rfl (pv 2)) (qm (i:=7) KP.nd rfl (yH rfl))
 (qc (zJ (sc:=qg qaK) (XN:=wl) wqG 1 [6,1,4] rfl rfl rfl (by room) rfl (by room) (i:=8) KP.nd rfl rfl
  (qG (K:=K) rfl (pv 7)) (fun _ _ _ _=>(qm (i:=0) (show(wqG:LS).Nodup by room) rfl (yH rfl))) qH
  (fun _ _ _ _=>(qK (PW.pt (qbm (qj (qae (K:=K) rfl j) (pv 0) (pv 1) (by with_unfolding_all rfl)) (qah (qj (jx (K:=K) rfl j) (qr (qt (K:=K) rfl j) (pv 2) (qr (qt (K:=K) rfl j) (pv 3) (pv 0) (fun _ _=>rfl)) (fun _ _=>rfl)) jo (qx _)))))))
  (fun _ _ _ _=>(pv 0)))
 (qe (qR (qj (qaj (K:=K) rfl j) (qp (jL (K:=K) rfl) rfl T.b_len YE (qa (pv 8) qd)) qh (qx _)) (qe (qo jS)) qw))))
 (qc (zJ (sc:=qg qaK) (XN:=wl) wqo 1 [1] rfl rfl rfl (by room) rfl (by room) (i:=9) KP.nd rfl rfl
  (qG (K:=K) rfl (pv 0)) (fun _ _ _ _=>(qm (i:=0) (show(wqo:LS).Nodup by room) rfl (yH rfl))) qH
  (fun _ _ _ _=>(qK (qj (jx (K:=K) rfl j) (qr (qt (K:=K) rfl j) (pv 1) (pv 0) (fun _ _=>rfl)) jo (qx _))))
  (fun _ _ _ _=>(pv 0)))
 (qe (qo (ze (jx (K:=K) rfl j) (qp (jL (K:=K) rfl) rfl T.b_len YE (qa (pv 6) qd)) (qu qb7 (qp (jL (K:=K) rfl) rfl T.b_len YE (qa (pv 2) qd)) (qp (jL (K:=K) rfl) rfl T.b_len YE (qa (pv 9) qd))) (qx _))))))))),?_⟩
  apply⟨l,ls,ss,tps,qs,rfl,hP,hG,fun pd H1 s1 _ B=>?_⟩;have A:=s1 _ _ hn;have r:=s1 _ _ hd;apply .inl ⟨⟨_,.of A⟩,qQ (xs:=ss.map V.str) (fun i σ J=>J=H1/\∃ S y6 U W X:Option V,σ=[some (.ref n),some (.ref d),some (.ref lo),some (.ref l),some (.ref pd),S,y6,U,W,X]) ⟨rfl,_,_,_,_,_,rfl⟩ (fun i σ J _ g=>by rw[g.1];show .of A) (fun i y σ J I g=>?_) fun σ J g=>?_⟩
  .obtain⟨rfl,S,y6,U,W,X,rfl⟩:=g;obtain⟨m,D,rfl⟩:=jc I;have M:=ye D;apply qdm r M ?_;apply eqS ?_;ext;by_cases c1:wdF ss ns (loQ tps ss) m="held"
   .obtain⟨a,ha,e,hw⟩:=hF.he m M c1;show qL (fun _=>?_) fun h=>absurd (yD c1) h;show qf2 (vOp (qfV rfl rfl rfl r B e ha (vC (neS ?_))));rw[hw];show⟨_,rfl,qL (fun h=>by cases h) fun _=>?_⟩;apply qdm r M ?_;rw[c1];apply eqS ?_;apply qL (fun h=>by cases h) fun _=>qL (fun h=>by cases h) fun _=>?_;apply⟨rfl,_,_,_,_,_,rfl⟩
   .show qL (fun h=>absurd (yk h) c1) fun _=>qL (fun h=>by cases h) fun _=>?_;apply qdm r M ?_;apply eqS ?_;apply qL (fun h=>?_) fun _=>qL (fun h=>by cases h) fun _=>?_
    .obtain⟨a,ha,e,hw⟩:=hF.fa m M (yk h);show qf2 (vOp (qfV rfl rfl rfl r B e ha (vC (neS ?_))));rw[hw];show⟨_,rfl,qL (fun h=>by cases h) fun _=>?_⟩;apply⟨rfl,_,_,_,_,_,rfl⟩
    .ext;show⟨rfl,_,_,_,_,_,rfl⟩
  .obtain⟨rfl,S,y6,U,W,X,rfl⟩:=g;apply .inl ⟨⟨_,.of A⟩,qF (fun i ys G=>G=J/\ys=(snL (pt qs) (ss.take i)).map V.str) ⟨rfl,rfl⟩ (fun i ys G _ g=>by rw[g.1];show .of A) (fun i y ys G I g=>?_) fun ys G g=>?_⟩
   .obtain⟨rfl,rfl⟩:=g;obtain⟨m,D,rfl⟩:=jc I;have aj:=(yc.mp D).1
    have N:snL (pt qs) (ss.take (i+1))=snL (pt qs) (ss.take i)++(if (!(pt qs m).isSome)=true then [m] else []):=by
     unfold snL;rw[yK,D,yW];show _++[m].filter _=_;rw[yL,Yr]
    have ac:(snL (pt qs) (ss.take i)).length<=i:=yi (yF _ _) (by rw[yQ];lk);apply .inr (.inl ⟨pd,_,rfl,DGet.k (k:=Sum.inr m) B,?_⟩);rw[jq,yG rfl,xt,N];show⟨_,rfl,qL (fun h=>?_) fun h=>?_⟩
    .rw [yG h];apply⟨by rw[ya];show qi (by lk),rfl,by rw[yu];rfl⟩
    .rw [yB h,Ye];show⟨rfl,rfl⟩
   .obtain⟨rfl,rfl⟩:=g;rw[show(ss.map V.str).length=ss.length from ya _,yP];have ac:(snL (pt qs) ss).length<=ss.length:=yF _ _;show⟨by rw[ya];show yX (qi (by lk)),fun al ai=>?_⟩;have s2:=qD (Sr G) (o:=.lst ((snL (pt qs) ss).map V.str)) ai;have ea:upd G al (.lst ((snL (pt qs) ss).map V.str)) al=some (.lst ((snL (pt qs) ss).map V.str)):=qb;generalize upd G al (.lst ((snL (pt qs) ss).map V.str))=H2 at s2 ea;have ag:=s1.trans s2;have x:=hL.same ag;have aa:=s2 _ _ r;have am:=s2 _ _ B;have ak:=s2 _ _ A;have ah:=x.2.len;apply .inl ⟨⟨_,.of x.1⟩,qQ (xs:=us.map V.ref) (fun i σ J=>L2.Same H2 J/\∃ S U W X:Option V,σ=[some (.ref n),some (.ref d),some (.ref lo),some (.ref l),some (.ref pd),S,some (.ref al),U,W,X]) ⟨L2.Same.refl _,_,_,_,_,rfl⟩ (fun i σ J _ g=>.of (g.1 _ _ x.1)) (fun i y σ J I g=>?_) fun σ J g=>?_⟩
    .obtain⟨C,S,U,W,X,rfl⟩:=g;rw[yd] at I;obtain⟨u,af,rfl⟩:=yn.mp I;have hi:i<od.length:=by rw[<- ah];show(yc.mp af).1
     obtain⟨p,ad⟩:∃ p,od[i]?=some p:=⟨_,yb hi⟩;have eu:=C _ _ (x.2.at_ i u p af ad);have ae:=ye ad;obtain⟨aq,ao⟩:=an p ae;have one:=hF.on p ae;obtain⟨t,O⟩:∃ t:Str->Bool,t=fun a=>decide (pt qs a=none)||decide (∃ b∈ss,pt qs a=some b/\wdF ss ns (loQ tps ss) b="held"):=⟨_,rfl⟩;rw[<- O] at one;apply .inl ⟨⟨_,.of eu⟩,qF (fun k ys G=>G=J/\ys=((p.take k).filter t).map V.str) ⟨rfl,rfl⟩ (fun k ys G _ g=>by rw[g.1];show .of eu) (fun k y ys G I g=>?_) fun ys G g=>?_⟩
     .obtain⟨rfl,rfl⟩:=g;obtain⟨m,D,rfl⟩:=jc I;have aj:=(yc.mp D).1;have M:=ao m (ye D)
      have N:(p.take (k+1)).filter t=(p.take k).filter t++(if t m=true then [m] else []):=by
       rw[yK,D,yW];show _++[m].filter _=_;rw[yL,Yr]
      have ac:((p.take k).filter t).length<=k:=yi (yF _ _) (by rw[yQ];lk);rw[N];apply str_in (C _ _ ea) ?_;apply qL (fun h=>?_) fun h=>?_
      .have e0:=(mem_sn.mp (yk h)).2;have L:t m=true:=by rw[O];simp[e0]
       rw[yG L];show qad ?_;apply⟨by rw[ya];show qi (by lk),rfl,by rw[yu];rfl⟩
      .obtain⟨b,Y⟩:∃ b,pt qs m=some b:=by
        cases e:pt qs m with
        | none=>show absurd (yD (mem_sn.mpr ⟨M,e⟩)) h
        | some b=>show⟨b,rfl⟩
       have Z:=hG.mt.inn b m (hG.mt.sym m b Y)
       have L:t m=decide (wdF ss ns (loQ tps ss) b="held"):=by
        rw[O];simp only[Y];rw[Yn];simp only[YJ,yE];show⟨fun z=>z.elim (fun y=>by cases y) fun⟨c,_,e,h⟩=>by cases e;show h,fun h=>.inr ⟨b,Z,rfl,h⟩⟩
       rw[L];apply qez (C _ _ am) (v:=.str b) (by rw[jq,Y];rfl) ?_;show qdm (C _ _ aa) Z ?_;apply eqS ?_;show⟨_,rfl,qL (fun h=>?_) fun h=>?_⟩
       .rw [yG h];apply⟨by rw[ya];show qi (by lk),rfl,by rw[yu];rfl⟩
       .rw [yB h,Ye];show⟨rfl,rfl⟩
     .obtain⟨rfl,rfl⟩:=g;rw[show(p.map V.str).length=p.length from ya _,yP];show⟨by rw[ya,one];decide,fun o ho=>?_⟩;have s3:=qD (Sr G) (o:=.lst ((p.filter t).map V.str)) ho;have eo:upd G o (.lst ((p.filter t).map V.str)) o=some (.lst ((p.filter t).map V.str)):=qb;generalize upd G o (.lst ((p.filter t).map V.str))=J3 at s3 eo;apply zq eo ?_;rw[ya,one];apply .inl ⟨rfl,rfl,⟨_,rfl,qL (fun h=>by cases h) fun _=>?_⟩⟩;apply⟨C.trans s3,_,_,_,_,rfl⟩
    .obtain⟨C,S,U,W,X,rfl⟩:=g;show qg0 (qg1 (qdO rfl rfl (C _ _ ak) few (C _ _ aa) fun b Y=>?_));have s3:=qD (Sr J) (o:=.lst ((heQ tps ss ns).map V.str)) Y;have eb:upd J b (.lst ((heQ tps ss ns).map V.str)) b=some (.lst ((heQ tps ss ns).map V.str)):=qb;have ef:(ss.filter fun s=>decide (wdF ss ns (loQ tps ss) s="held"))=heQ tps ss ns:=rfl;rw[ef];generalize upd J b (.lst ((heQ tps ss ns).map V.str))=J3 at s3 eb;have R:=C.trans s3;have nn:=hF.nn;apply zq (R _ _ ea) ?_;rw[ya];apply zq (R _ _ x.1) ?_;rw[ya,ah];apply zq eb ?_;rw[ya];apply qa4 ?_;have e1:decide (((snL (pt qs) ss).length:Int)=(od.length:Int)-((heQ tps ss ns).length:Int))=true:=yD (by lk);rw[e1];show q _ (ag.trans R)
theorem Kv:FnScope wh wq2 (qg qbo):=fS
theorem qbE{a b:Addr}{ks:LS}(d:H a=some (.lst (ks.map V.str)))(f:H b=some (.lst (ks.map V.str))):EqT K H (m+1) a b true:=by
 have z:=EqT.lst (K:=K) (H:=H) (n:=m) (e:=fun _=>true) (SqL.of d) (SqL.of f) rfl fun j x y h1 c=>by
  rw[h1] at c;cases c;obtain⟨k,_,rfl⟩:=yI.mp (ye h1);have e:eqV (V.str k) (V.str k)=true:=by simp[eqV]
  have:=EqD.flat (K:=K) (H:=H) (n:=m) (x:=V.str k) (y:=V.str k) rfl rfl
  rwa[e] at this
 have e:∀ m:Nat,((List.range m).all fun _=>true)=true:=fun m=>Yw.mpr fun _ _=>rfl;rw[e] at z;show z
theorem eqT_llJ{a b:Addr}{as bs:LQ}(c:LLs H a as ps)(d:LLs H b bs ps):EqT K H 2 a b true:=by
 have z:=EqT.lst (K:=K) (H:=H) (n:=1) (e:=fun _=>true) (SqL.of c.1) (SqL.of d.1) (by rw[ya,ya,c.2.len,d.2.len]) fun j x y h1 g=>by
  rw[yd] at h1 g;obtain⟨u,f,rfl⟩:=yn.mp h1;obtain⟨v,i,rfl⟩:=yn.mp g;have h:j<ps.length:=by rw[<- c.2.len];show(yc.mp f).1
  have t:=qbE (m:=0) (K:=K) (c.2.at_ j u ps[j] f (yb h)) (d.2.at_ j v ps[j] i (yb h));by_cases e:u=v
  .subst e;show .self
  .show .deep t e
 rwa[all_true] at z
theorem neT{a b:Addr}{Q:VK}(c:n<=60)(h:EqT K H n a b true)(q:Q (.bl false) H):qfH K true (.ref a) (.ref b) H Q:=.inr (.inl ⟨a,b,true,n,rfl,rfl,c,h,q⟩)
theorem fnK_keys(g:Str->V)(l:LS):(fnK g l).map Prod.fst=l.map Sum.inr:=by unfold fnK;rw[XG];rfl
theorem Pu.neS{u:Addr}{ks:LS}(h:Pu J p)(e:J u=some (.lst (ks.map V.str))):u≠p:=fun z=>by
 obtain⟨a,b,c,d,_⟩:=h;rw[z,d] at e
 cases ks with
 | nil=>cases e
 | cons k r=>injection e with e;injection e with e;injection e with e;cases e
theorem Pu.neR{u:Addr}{ks:LQ}(h:Pu J p)(e:J u=some (.lst (ks.map V.ref))):u≠p:=fun z=>by
 obtain⟨a,b,c,d,_⟩:=h;rw[z,d] at e
 cases ks with
 | nil=>cases e
 | cons k r=>injection e with e;injection e with e;injection e with e;cases e
theorem Pu.neT{u:Addr}(h:Pu J p)(e:J u=some (.tup xs)):u≠p:=fun z=>by
 obtain⟨a,b,c,d,_⟩:=h;rw[z,d] at e;cases e
theorem LLs.but(h:LLs J l us ps)(a:Pu J p)(b:But p J J'):LLs J' l us ps:=⟨b _ _ (a.neR h.1) h.1,h.2.mono fun _ _ e=>b _ _ (a.neS e) e⟩
theorem PL.butP(h:PL J l us qs)(a:Pu J p)(b:But p J J'):PL J' l us qs:=⟨b _ _ (a.neR h.1) h.1,h.2.mono fun _ _ e=>b _ _ (a.neT e) e⟩
theorem rmN_full:rmN ss (2 ^ ss.length-1)=ss:=by
 unfold rmN;show kz.mpr fun s a=>by rw[Nat.testBit_two_pow_sub_one];show yD (Yt a)
def GoP(ss:LS)(tps:LP)(G:Hp)(v:Addr):Prop:=∃(a:LQ) (qs:LP),PL G v a qs/\PGo ss tps qs/\qs.length=mo tps ss.length ss
theorem GoP.same{v:Addr}(h:GoP ss tps G v)(s:L2.Same G G'):GoP ss tps G' v:=by
 obtain⟨b,qs,h1,a⟩:=h;show⟨b,qs,h1.same s,a⟩
theorem GoP.but{v:Addr}(h:GoP ss tps G v)(c:Pu G p)(b:But p G G'):GoP ss tps G' v:=by
 obtain⟨d,qs,h1,a⟩:=h;show⟨d,qs,h1.butP c b,a⟩
theorem GoP.upd{v b c:Addr}{r:LQ}(h:GoP ss tps G v)(d:G b=some (.lst ((c::r).map V.ref)))(g:GoP ss tps G c):GoP ss tps (L2.upd G b o) v:=by
 obtain⟨f,qs,⟨h1,a⟩,i⟩:=h;obtain⟨_,_,⟨j,_⟩,_⟩:=g
 have m:v≠b:=fun z=>by
  rw[z,d] at h1
  injection h1 with h1
  injection h1 with h1
  cases f with
  | nil=>cases h1
  | cons t ts =>
   injection h1 with e1 e2
   cases e1;obtain⟨q,l⟩:∃ q,qs[0]?=some q:=⟨_,yb (by rw[<- a.len];show Nat.succ_pos _)⟩;have:=a.at_ 0 c q rfl l;rw[j] at this;cases this
 show⟨f,qs,⟨by rw[qf m];show h1,a.mono fun t q e=>by rw[qf (fun z=>by rw[z,d] at e;cases e)];show e⟩,i⟩
theorem atI_lastV{c:V}(h:xs≠[])(e:xs[xs.length-1]?=some c):atI xs (-1)=some c:=by
 have:0<xs.length:=List.length_pos_iff.mpr h;unfold atI
 have a:ixN xs.length (-1)=some (xs.length-1):=by
  unfold ixN;rw[yB (by decide),yG (by lk)]
  congr 1
  lk
 rw[a];show e
theorem neI{a b:Int}{Q:VK}(h:a=b)(q:Q (.bl false) H):qfH K true (.int a) (.int b) H Q:=.inl ⟨rfl,rfl,by
 subst h;have:(if true=true then !eqV (V.int a) (V.int a) else eqV (V.int a) (V.int a))=false:=by simp[eqV]
 rw[this];show q⟩
inductive spLaw(K:W.Frag)(vs:List V)(H:Hp)(Q:VK)(E:XK):Prop|mk (a:Addr) (ns:LX) (_:vs=[.ref a]) (_:SqL K H a (ns.map V.int)) (_:ns.length<=63) (_:∀ H',Q (.bl true) H')
structure LZ(cw p x n bb lt d:Addr)(ss:LS)(ns bs:LN)(TI:List (Nat×Nat))(J:Hp):Prop where
 pu:Pu J p
 wb:WebP (fun a=>a=p) cw J x ss ns
 ad:Adj ss ns (TI.map (nmP ss))
 nm:J n=some (.lst (ss.map V.str))
 bm:J bb=some (.lst (zC bs))
 bp:bb≠p
 tm:J lt=some (.lst (zC (tbL (TI.map (nmP ss)) ss (2 ^ ss.length))))
 tp:lt≠p
 d:J d=some (.dK (fnK (wdS (TI.map (nmP ss)) ss ns) ss))
 o:NOk ss
 few:ss.length<=12
 t:TJ ss.length TI
 b:BtJ ss.length TI bs
 m:∃ qs,PGo ss (TI.map (nmP ss)) qs/\MxF ss (TI.map (nmP ss)) qs
section
variable{cw p x n bb lt d:Addr}{ss:LS}{ns bs:LN}{TI:List (Nat×Nat)}{J J':Hp}
theorem LZ.but(h:LZ cw p x n bb lt d ss ns bs TI J)(b:But p J J')(a:Pu J' p):LZ cw p x n bb lt d ss ns bs TI J':=⟨a,h.wb.keep b,h.ad,b _ _ (h.pu.neS h.nm) h.nm,b _ _ h.bp h.bm,h.bp,b _ _ h.tp h.tm,h.tp,b _ _ (fun z=>by obtain⟨u,v,w,e,_⟩:=h.pu;have:=h.d;rw[z,e] at this;cases this) h.d,h.o,h.few,h.t,h.b,h.m⟩
theorem LZ.same(h:LZ cw p x n bb lt d ss ns bs TI J)(s:L2.Same J J'):LZ cw p x n bb lt d ss ns bs TI J':=h.but (fun c o _ e=>s c o e) (h.pu.same s)
theorem LZ.w3(h:LZ cw p x n bb lt d ss ns bs TI J):W30 cw J x ss ns (TI.map (nmP ss)):=by
 have W:Wt cw J x ss ns (TI.map (nmP ss)):=⟨h.wb.web,h.ad,qev h.o.nd h.t⟩;show⟨W,qfP W.wok h.ad h.t⟩
end
def Sg(a:Addr)(σ:L2.St):Prop:=∃(h i j l m n o p q b c d e f g:Option V),σ=[some (.ref a),h,i,j,l,m,n,o,p,q,b,c,d,e,f,g]
def T108(cw a:Addr)(D:Ends)(σ:L2.St)(J:Hp):Prop:=∃(H1:Hp) (p x n j lt d:Addr) (ss:LS) (ns bs:LN) (TI:List (Nat×Nat)) (l m c e f g h i:Option V),(∀ b J',L2.Same H1 J'->Sg a b->D.nx b J')/\H1 p=none/\L2.Same H1 J/\LZ cw p x n j lt d ss ns bs TI J/\σ=[some (.ref a),l,some (.ref p),some (.int (ss.length:Int)),some (.ref n),m,some (.ref j),some (.ref lt),some (.ref x),some (.ref d),c,e,f,g,h,i]
def qhr(cw a:Addr)(D:Ends)(σ:L2.St)(J:Hp):Prop:=∃(H1:Hp) (p x n h lt d lo i:Addr) (us:LQ) (ss:LS) (ns bs:LN) (TI:List (Nat×Nat)) (j l c e f g:Option V),(∀ b J',L2.Same H1 J'->Sg a b->D.nx b J')/\H1 p=none/\L2.Same H1 J/\LZ cw p x n h lt d ss ns bs TI J/\LLs J lo us (odN bs (TI.map (nmP ss)) ss ns)/\J i=some (.lst ((heQ (TI.map (nmP ss)) ss ns).map V.str))/\σ=[some (.ref a),j,some (.ref p),some (.int (ss.length:Int)),some (.ref n),l,some (.ref h),some (.ref lt),some (.ref x),some (.ref d),some (.ref lo),some (.ref i),c,e,f,g]
theorem ok_law50(F:Fun K "law" "law" qbo f fd)(T:Txt K mg cc cw)(UB:wq5 1 "_law_cell" wqM (spCe K))(Us:wq5 1 "_law_purse" wqW spPu)
  (UC:wq5 2 "_law_many" wqC spMyP) (Ut:wq5 2 "_law_names" wqa spNmJ) (UD:wq5 2 "_law_ties" wqa spTsJ)
  (UE:wq5 7 "_law_made" wqH (spMdJ cw)) (UF:wq5 1 "_law_bits" wqI spBtJ) (Uu:wq5 1 "_law_table" wqJ spTbQ)
  (UJ:wq5 16 "sorts" wqB (spSo cw)) (UK:wq5 2 "_law_odd" wqt spOdQ) (ua:wq5 10 "odd_pieces" wql (spOd cw)) (UG:wq5 15 "is_bar" wqe (spIb cw))
  (Uv:wq5 2 "_law_named" wqs spNdJ) (u4:wq5 2 "_law_greatest" wqi spGgQ) (uW:wq5 17 "leaving_out" wq1 (spLv1 cw)) (UL:wq5 2 "_law_fit" wqk spFtQ):wq7 18 f fd wq2 (spLaw K):=by
 show F.ok Kv fun _ _ _ s H vs Q E I h=>?_
 .obtain⟨a,nz,rfl,hS,dh,q⟩:=h;have R:=jX I;obtain⟨TC108,bc⟩:∃ t:TS,t=T108 cw a:=⟨_,rfl⟩;obtain⟨TC112,am⟩:∃ t:TS,t=qhr cw a:=⟨_,rfl⟩;obtain⟨TC116,an⟩:∃ t:TS,t=qhr cw a:=⟨_,rfl⟩;show⟨_,(qc (qX yS rfl (qG (K:=K) rfl (qu (j6 (K:=K) rfl) (jt (qes (K:=K) rfl) (pv 0) jV (jF qh)) (qS (qa (qq UB (hmR I) qA (qa (pv 0) (qa qh qd))) qd)))) (qm (i:=1) Kv.nd rfl (yH rfl))
 (qc (qk (i:=2) Kv.nd rfl (Y9 rfl) (qq Us (hmR I) qA (qa (pv 1) qd)))
 (qc (qk (i:=3) Kv.nd rfl (Y9 rfl) (qq UC (hmR I) qA (qa (pv 2) (qa qh qd))))
 (qc (qk (i:=4) Kv.nd rfl (Y9 rfl) (qq Ut (hmR I) qA (qa (pv 2) (qa (pv 3) qd))))
 (qc (qk (i:=5) Kv.nd rfl (yH rfl) (qq UD (hmR I) qA (qa (pv 2) (qa (pv 3) qd))))
 (qc (qk (i:=6) Kv.nd rfl (Y9 rfl) (qq UF (hmR I) qA (qa (pv 3) (qa (pv 5) qd))))
 (qc (qk (i:=7) Kv.nd rfl (Y9 rfl) (qq Uu (hmR I) qA (qa (pv 3) (qa (pv 6) qd))))
 (qc (qk (i:=8) Kv.nd rfl (Y9 rfl) (qq UE (hmR I) qA (qa (pv 4) (qa (pv 5) qd))))
 (qc (qk (i:=9) Kv.nd rfl (Y9 rfl) (qq UJ (hmR I) qA (qa (pv 8) qd)))
 (qbZ TC108 (qc (qR (qj (qaj (K:=K) rfl R) (qp (qcm (K:=K) rfl rfl) rfl T.b_sorted boot_sorted (qa (pv 9) qd)) (qp (qcm (K:=K) rfl rfl) rfl T.b_sorted boot_sorted (qa (pv 4) qd)) (qx _)) (qe (qo jS)) qw)
 (qc (qR (qj (qaj (K:=K) rfl R) (q9 (sc:=qg qbo) (XN:=wh) ["_law_name","_law_words"] 1 [9] rfl rfl rfl (by room) rfl (by room)
  (qG (K:=K) rfl (pv 4)) (fun _ _ _ _=>(qm (i:=0) (show(["_law_name","_law_words"]:LS).Nodup by room) rfl (yH rfl))) qH
  (fun _ _ _ _=>(qK (qj (zz (K:=K) rfl R) (qr (qt (K:=K) rfl R) (pv 1) (pv 0) (fun _ _=>rfl)) (qS (qa jo (qa jo (qa jo qd)))) (by with_unfolding_all rfl))))
  (fun _ _ _ _=>(pv 0))) (qS qd) (qx _)) (qe (qo jS)) qw)
 (qc (qk (i:=10) Kv.nd rfl (yH rfl) (qq UK (hmR I) qA (qa (pv 4) (qa (pv 6) (qa (pv 9) qd)))))
 (qc (zJ (sc:=qg qbo) (XN:=wh) wqo 1 [9] rfl rfl rfl (by room) rfl (by room) (i:=11) Kv.nd rfl rfl
  (qG (K:=K) rfl (pv 4)) (fun _ _ _ _=>(qm (i:=0) (show(wqo:LS).Nodup by room) rfl (yH rfl))) qH
  (fun _ _ _ _=>(qK (qj (jx (K:=K) rfl R) (qr (qt (K:=K) rfl R) (pv 1) (pv 0) (fun _ _=>rfl)) jo (qx _))))
  (fun _ _ _ _=>(pv 0)))
 (qbZ TC112 (qc (qk (i:=12) Kv.nd rfl (yH rfl) (qS qd))
 (qc (qX yS rfl (qG (K:=K) rfl (pv 10)) (qm (i:=13) Kv.nd rfl (yH rfl))
 (qe (qP (qbl (K:=K) rfl yM xl xm zP (pv 12) (qa (pv 13) qd)))))
 (qc (qR (qj (qaj (K:=K) rfl R) (qp (qcm (K:=K) rfl rfl) rfl T.b_sorted boot_sorted (qa (pv 12) qd)) (qp (qcm (K:=K) rfl rfl) rfl T.b_sorted boot_sorted (qa (q9 (sc:=qg qbo) (XN:=wh) wqo 1 [9] rfl rfl rfl (by room) rfl (by room)
  (qG (K:=K) rfl (pv 4)) (fun _ _ _ _=>(qm (i:=0) (show(wqo:LS).Nodup by room) rfl (yH rfl))) qH
  (fun _ _ _ _=>(qK (qj (jx (K:=K) rfl R) (qr (qt (K:=K) rfl R) (pv 1) (pv 0) (fun _ _=>rfl)) jo (qx _))))
  (fun _ _ _ _=>(pv 0))) qd)) (qx _)) (qe (qo jS)) qw)
 (qc (qR (PW.pt (qbm (qj (qaj (K:=K) rfl R) (qq ua (hmR I) qA (qa (pv 8) (qa (pv 11) qd))) (pv 10) (qx _)) (qah (qj op_isnot (qq UG (hmR I) qA (qa (pv 8) (qa (pv 11) qd))) jS (qx _))))) (qe (qo jS)) qw)
 (qbZ TC116 (qc (zJ (sc:=qg qbo) (XN:=wh) wqj 1 [2,4,3,6,7] rfl rfl rfl (by room) rfl (by room) (i:=14) Kv.nd rfl rfl
  (jl rfl T.b_range (qa qh qd)) (fun _ _ _ _=>(qm (i:=0) (show(wqj:LS).Nodup by room) rfl (yH rfl))) qH
  (fun _ _ _ _=>zy)
  (fun _ _ _ _=>(qq Uv (hmR I) qA (qa (pv 1) (qa (pv 2) (qa (qq u4 (hmR I) qA (qa (pv 1) (qa (pv 3) (qa (pv 4) (qa (pv 5) qd))))) qd))))))
 (qc (qP (qbl (K:=K) rfl yM xl xm zP (pv 14) (qa (q9 (sc:=qg qbo) (XN:=wh) wqU 1 [8,9] rfl rfl rfl (by room) rfl (by room)
  (qG (K:=K) rfl (pv 4)) (fun _ _ _ _=>(qm (i:=0) (show(wqU:LS).Nodup by room) rfl (yH rfl))) qH
  (fun _ _ _ _=>(qK (qj (jx (K:=K) rfl R) (qr (qt (K:=K) rfl R) (pv 2) (pv 0) (fun _ _=>rfl)) jo (qx _))))
  (fun _ _ _ _=>(qq uW (hmR I) qA (qa (pv 1) (qa (pv 0) qd))))) qd)))
 (qe (qX yS rfl (qG (K:=K) rfl (pv 14)) (qm (i:=15) Kv.nd rfl (yH rfl))
 (qc (qR (PW.pt (qbm (jk (jd (qp (qcd (K:=K) rfl) rfl T.b_isinstance Y4 (qa (pv 15) (qa (zd (v:=.ty "list") rfl T.b_list Xu rfl) qd))))) (qah (qj (qaj (K:=K) rfl R) (qp (jL (K:=K) rfl) rfl T.b_len YE (qa (pv 15) qd)) (qr (qt (K:=K) rfl R) (pv 7) (qaA qaN qh) (fun _ _=>rfl)) (qx _))))) (qe (qo jS)) qw)
 (qe (qR (jk (jd (qq UL (hmR I) qA (qa (pv 4) (qa (pv 9) (qa (pv 10) (qa (pv 15) qd))))))) (qe (qo jS)) qw))))))) ?cut116))))) ?cut112))))) ?cut108))))))))))
 (qe (qo jS))),?_⟩
  case cut116 =>
   intro D σ J h;rw[an] at h;obtain⟨H1,p,x,n,bb,lt,d,lo,br,us,ss,ns,bs,TI,y1,y5,ak,Z,al,aa,hD,N,sJ,L,hU,aq,rfl⟩:=h;have few:=L.few;obtain⟨rs,hG,hM⟩:=L.m;have ir:=L.w3.1.ir;obtain⟨f1,f2,f3,f4⟩:=qdk L.w3.1 L.o L.t L.b hG hM
   have dr:mo (TI.map (nmP ss)) ss.length ss<=6:=by
    rw[<- qdg ir L.o.nd hG hM];have:=hG.cnt L.o.nd;have:=qac (f:=pt rs) (ss:=ss);lk
   have cz:(loQ (TI.map (nmP ss)) ss).length<=ss.length:=yF _ _;have fl:=f1.length_eq
   have bx:(odN bs (TI.map (nmP ss)) ss ns).length<=14:=by
    rw[qfm,ya];show yi (yF _ _) (yi (qdL _ _ _) (by lk))
   have bt:∀ q∈odN bs (TI.map (nmP ss)) ss ns,q.length<=14/\∀ b∈q,b∈ss:=fun q hq=>⟨by have:=(List.sublist_flatten_of_mem hq).length_le;lk,fun b hb=>(yp.mp (f1.mem_iff.mp (XH.mpr ⟨q,hq,hb⟩))).1⟩;have ay:tbQ (TI.map (nmP ss)) ss (2 ^ ss.length-1)=mo (TI.map (nmP ss)) ss.length ss:=by unfold tbQ;rw[rmN_full]
   obtain⟨od,ac⟩:∃ od,od=odN bs (TI.map (nmP ss)) ss ns:=⟨_,rfl⟩;rw[<- ac] at hU f4 bx bt;apply⟨3,rfl,by decide,by decide,?_⟩;show jW (lo:=0) (n:=3) (fun i ys G=>But p J G/\Pu G p/\∃ vs:LQ,ys=vs.map V.ref/\vs.length=i/\∀ v∈vs,GoP ss (TI.map (nmP ss)) G v) ⟨fun c o _ e=>e,L.pu,[],rfl,rfl,fun v hv=>by cases hv⟩ (fun i ys G hi j=>?_) fun ys G j=>?_
   .obtain⟨bG,pG,vs,rfl,ag,hV⟩:=j;have LG:=L.but bG pG;apply qad ?_;apply⟨p,bb,lt,ss,TI,bs,rfl,pG,few,L.o,L.t,LG.bm,L.b,LG.tm,L.bp,L.tp,ir,fun r zs G1 b1 p1 dm ct hZ cx cy bw=>?_⟩;rw[ay] at bw;have L1:=LG.but b1 p1;apply⟨p,n,r,ss,TI,zs,rfl,p1,L1.nm,L1.pu.neS L1.nm,L.o,L.t,hZ,ct,cx,cy,by lk,fun r2 dc qs O b2 p2 hP hQ hl=>?_⟩;have ax:=b1.trans7 b2;show⟨by rw[ya];show qi (by lk),bG.trans7 ax,p2,vs++[r2],by rw[yu];rfl,by rw[yt,ag];rfl,fun v hv=>?_⟩;rcases yA.mp hv with z | z
    .show(hV v z).but pG ax
    .rw [yy.mp z];show⟨dc,qs,hP,hQ,by rw[hl,bw]⟩
   .obtain⟨bG,pG,vs,rfl,ag,hV⟩:=j;have LG:=L.but bG pG;have H1G:L2.Same H1 G:=fun c o e=>bG c o (fun z=>by rw[z,N] at e;cases e) (sJ c o e)
    obtain⟨U,X,rfl⟩:∃ U X,vs=U::X:=by
     cases vs with
     | nil=>cases ag
     | cons v r=>show⟨v,r,rfl⟩
    show⟨by rw[ya,ag];decide,fun so bu=>?_⟩;have S:=qD (Sr G) (o:=.lst ((U::X).map V.ref)) bu;have e1:upd G so (.lst ((U::X).map V.ref)) so=some (.lst ((U::X).map V.ref)):=qb;generalize upd G so (.lst ((U::X).map V.ref))=G1 at S e1;have L1:=LG.same S;apply⟨.inl ⟨rfl,_,.of e1⟩,?_⟩;apply .inl ⟨⟨_,.of L1.nm⟩,qF (xs:=ss.map V.str) (fun i ys G'=>L2.Same G1 G'/\∃ C:LQ,ys=C.map V.ref/\C.length<=i/\∀ v∈C,GoP ss (TI.map (nmP ss)) G' v) ⟨L2.Same.refl _,[],rfl,yh _,fun v hv=>by cases hv⟩ (fun i ys G' _ j=>.of (j.1 _ _ L1.nm)) (fun i y ys G' hy j=>?_) fun ys G' j=>?_⟩
    .obtain⟨M,C,rfl,ah,af⟩:=j;obtain⟨sy,gi,rfl⟩:=jc hy;have di:=(yc.mp gi).1;have A:=L1.same M;apply qdm A.d (ye gi) ?_;apply eqS ?_;show⟨_,rfl,qL (fun h1=>?_) fun h1=>⟨M,C,rfl,Y1 ah,af⟩⟩;apply⟨x,ss,ns,_,sy,rfl,A.w3,wd_lo.mp (yk h1),fun qs l ls G3 s3 hP hQ hl=>?_⟩;show⟨by rw[ya];show qi (by lk),M.trans s3,C++[l],by rw[yu];rfl,by rw[yt];show XF ah,fun v hv=>?_⟩;rcases yA.mp hv with z | z
     .show(af v z).same s3
     .rw [yy.mp z];show⟨ls,qs,hP,hQ,hl⟩
    .obtain⟨M,C,rfl,ah,af⟩:=j;rw[ya] at ah;show⟨by rw[ya];show yX (qi (by lk)),fun g hg=>?_⟩;have s2:=qD (Sr G') (o:=.lst (C.map V.ref)) hg;have e2:upd G' g (.lst (C.map V.ref)) g=some (.lst (C.map V.ref)):=qb;generalize upd G' g (.lst (C.map V.ref))=O at s2 e2;have ad:=M.trans s2;have ap:=ad _ _ e1;apply⟨so,g,_,_,rfl,rfl,ap,e2,by rw[ya,ya];show yX (qi (by lk)),?_⟩;have sA:=S.trans ad;have A:=LG.same sA;have h0:=(hV U yU).same sA;have all:∀ v∈(U::X)++C,GoP ss (TI.map (nmP ss)) (upd O so (.lst ((U::X).map V.ref++C.map V.ref))) v:=fun v hv=>(yA.mp hv).elim (fun z=>((hV v z).same sA).upd ap h0) fun z=>((af v z).same s2).upd ap h0;have sB:L2.Same G (upd O so (.lst ((U::X).map V.ref++C.map V.ref))):=qaC sA bu;have eB:upd O so (.lst ((U::X).map V.ref++C.map V.ref)) so=some (.lst (((U::X)++C).map V.ref)):=by rw[qb,yu]
     generalize upd O so (.lst ((U::X).map V.ref++C.map V.ref))=G3 at all sB eB;generalize (U::X)++C=vs at all eB;have L3:=LG.same sB;have U3:=(hU.but L.pu bG).same sB;apply .inl ⟨⟨_,.of eB⟩,qQ (xs:=vs.map V.ref) (fun i σ G'=>L2.Same G3 G'/\∃ aa,σ=[some (.ref a),y1,some (.ref p),some (.int (ss.length:Int)),some (.ref n),y5,some (.ref bb),some (.ref lt),some (.ref x),some (.ref d),some (.ref lo),some (.ref br),ak,Z,some (.ref so),aa]) ⟨L2.Same.refl _,_,rfl⟩ (fun i σ G' _ j=>.of (j.1 _ _ eB)) (fun i y σ G' hy j=>?_) fun σ G' j=>?_⟩
     .obtain⟨Y,dg,rfl⟩:=j;rw[yd] at hy;obtain⟨v,hv,rfl⟩:=yn.mp hy;obtain⟨ls,qs,hP,hQ,hl⟩:=(all v (ye hv)).same Y;have L4:=L3.same Y;apply qet (.inl (.lst hP.1)) rfl (qbd K "list" (by simp) "list" (by simp)) ?_;apply yq ?_;apply zq hP.1 ?_;rw[ya,hP.2.len,hl];apply vU ?_;have tl:(zC (tbL (TI.map (nmP ss)) ss (2 ^ ss.length))).length=2 ^ ss.length:=by unfold zC;rw[ya,qb0]
      have ds:0<2 ^ ss.length:=Xq _;show .inl (zN L4.tm (atI_lastV (c:=.int (mo (TI.map (nmP ss)) ss.length ss:Nat)) (fun z=>by rw[z] at tl;simp at tl;lk) ?_) ?_)
      .rw [tl,ju (by rw[qb0];lk),qfj (by lk),ay]
      .show neI rfl ?_;show⟨_,rfl,qL (fun h=>by cases h) fun _=>?_⟩;apply⟨n,d,lo,v,ss,ns,_,qs,us,ls,od,rfl,L4.nm,L.o.nd,by lk,L4.d,U3.same Y,bt,bx,hP,hQ,f4 _ hQ.mt (by rw[<- hQ.cnt L.o.nd,hl]),fun G4 s4=>?_⟩;apply yq ?_;apply⟨Y.trans s4,_,rfl⟩
     .obtain⟨Y,dg,rfl⟩:=j;show hD _ _ (H1G.trans (sB.trans Y)) ⟨_,_,_,_,_,_,_,_,_,_,_,_,_,_,_,rfl⟩
  case cut112 =>
   intro D σ J h;rw[am] at h;obtain⟨H1,p,x,n,bb,lt,d,lo,br,us,ss,ns,bs,TI,y1,y5,ak,Z,al,aa,hD,N,sJ,L,hU,aq,rfl⟩:=h;have few:=L.few;obtain⟨rs,hG,hM⟩:=L.m;obtain⟨f1,f2,f3,_⟩:=qdk L.w3.1 L.o L.t L.b hG hM;have cz:(loQ (TI.map (nmP ss)) ss).length<=ss.length:=yF _ _;have fl:=f1.length_eq;apply⟨wq9,fun li bj=>?_⟩;have S:=qD (Sr J) (o:=.lst []) bj;have e1:upd J li (.lst []) li=some (.lst []):=qb;generalize upd J li (.lst [])=J1 at S e1;obtain⟨od,ac⟩:∃ od,od=odN bs (TI.map (nmP ss)) ss ns:=⟨_,rfl⟩;rw[<- ac] at hU f1 f2 fl;have ck:=hU.same S;have cb:=hU.2.len;apply .inl ⟨⟨_,.of ck.1⟩,qQ (xs:=us.map V.ref) (fun i σ G=>L2.Same J G/\∃ Z,σ=[some (.ref a),y1,some (.ref p),some (.int (ss.length:Int)),some (.ref n),y5,some (.ref bb),some (.ref lt),some (.ref x),some (.ref d),some (.ref lo),some (.ref br),some (.ref li),Z,al,aa]/\G li=some (.lst ((od.take i).flatten.map V.str))) ⟨S,_,rfl,e1⟩ (fun i σ G _ j=>.of (j.1 _ _ hU.1)) (fun i y σ G hy j=>?_) fun σ G j=>?_⟩
   .obtain⟨M,df,rfl,eG⟩:=j;rw[yd] at hy;obtain⟨u,bv,rfl⟩:=yn.mp hy;have hi:i<od.length:=by rw[<- cb];show(yc.mp bv).1
    obtain⟨q1,hq⟩:∃ q1,od[i]?=some q1:=⟨_,yb hi⟩;have eu:=M _ _ (hU.2.at_ i u q1 bv hq)
    have e2:(od.take (i+1)).flatten=(od.take i).flatten++q1:=by
     rw[yK,hq,List.flatten_append];simp
    have l2:(od.take i).flatten.length+q1.length<=ss.length:=by
     have h1:((od.take (i+1)).flatten++(od.drop (i+1)).flatten).length=od.flatten.length:=by rw[<- List.flatten_append,X6]
     rw[yt,e2,yt] at h1;lk
    apply⟨.inl ⟨rfl,_,.of eG⟩,?_⟩;apply⟨li,u,_,_,rfl,rfl,eG,eu,by rw[ya,ya];show yX (qi (by lk)),?_⟩;show⟨qaC M bj,_,rfl,by rw[qb,e2,yu]⟩
   .obtain⟨M,df,rfl,eG⟩:=j;rw[show(us.map V.ref).length=od.length by rw[ya,cb],yP] at eG;have LG:=L.same M;apply⟨li,_,rfl,.inl (.of eG),by lk,fun l1 u1 ar p1 o1=>?_⟩;have s2:=qD (Sr G) (o:=.lst (u1.map V.str)) ar;have e2:upd G l1 (.lst (u1.map V.str)) l1=some (.lst (u1.map V.str)):=qb;generalize upd G l1 (.lst (u1.map V.str))=O at s2 e2;have A:=LG.same s2;show vCB (qgv (qdO rfl rfl A.nm (by lk) A.d fun b hb=>?_));have s3:=qD (Sr O) (o:=.lst ((loQ (TI.map (nmP ss)) ss).map V.str)) hb;have e3:upd O b (.lst ((loQ (TI.map (nmP ss)) ss).map V.str)) b=some (.lst ((loQ (TI.map (nmP ss)) ss).map V.str)):=qb
    have ef:(ss.filter fun s=>decide (wdF ss ns (loQ (TI.map (nmP ss)) ss) s="loose"))=loQ (TI.map (nmP ss)) ss:=by
     have:∀ s,decide (wdF ss ns (loQ (TI.map (nmP ss)) ss) s="loose")=decide (s∈loQ (TI.map (nmP ss)) ss):=fun s=>Yq.mpr wd_lo;rw[Yx fun s _=>this s];unfold loQ;show Yx fun s hs=>?_;rw[Yn,yE,yp];show⟨fun z=>z.2,fun z=>⟨hs,z⟩⟩
    rw[ef];generalize upd O b (.lst ((loQ (TI.map (nmP ss)) ss).map V.str))=G3 at s3 e3;apply⟨b,_,rfl,.inl (.of e3),by lk,fun l2 u2 as p2 o2=>?_⟩;have s4:=qD (Sr G3) (o:=.lst (u2.map V.str)) as;have e4:upd G3 l2 (.lst (u2.map V.str)) l2=some (.lst (u2.map V.str)):=qb;generalize upd G3 l2 (.lst (u2.map V.str))=G4 at s4 e4;have eu:=qc7 o1 o2 (p1.trans (f1.trans p2.symm));subst eu;show neT (n:=1) (by decide) (qbE ((s3.trans s4) _ _ e2) e4) ?_;show⟨_,rfl,qL (fun h=>by cases h) fun _=>?_⟩;have au:=M.trans ((s2.trans s3).trans s4);have L4:=L.same au;have B:=qfl (ns:=ns) L.o L.t L.b;have hW:∀{G},L2.Same J G->WBar cw G x br ss ns TI bs (hbI (TI.map (nmP ss)) ss ns):=fun s=>⟨(L.same s).w3.1,B,by rw[qfk];show s _ _ aq⟩;apply⟨x,br,ss,ns,TI,bs,_,rfl,hW au,fun l5 v5 G5 s5 e5 _ h5=>?_⟩;rw[<- qfm,<- ac] at h5;have av:=au.trans s5;apply neT (n:=2) (by decide) (eqT_llJ ⟨e5,h5⟩ (hU.same av)) ?_;show⟨_,rfl,qL (fun h=>by cases h) fun _=>?_⟩;apply⟨x,br,ss,ns,TI,bs,_,rfl,hW av,fun r6 G6 s6 g6 m6=>?_⟩
    have em:qff bs (hbI (TI.map (nmP ss)) ss ns) ss.length r6.length=true:=yD (by
     rw[qdg L.w3.1.ir L.o.nd g6 m6,<- qdg L.w3.1.ir L.o.nd hG hM];lk)
    rw[em];apply⟨_,_,rfl,rfl,?_⟩;apply yq ?_;ext;have ai:=av.trans s6;rw[an];show⟨H1,p,x,n,bb,lt,d,lo,br,us,ss,ns,bs,TI,_,_,_,_,_,_,hD,N,sJ.trans ai,L.same ai,by rw[<- ac];show hU.same ai,ai _ _ aq,rfl⟩
  case cut108 =>
   intro D σ J h;rw[bc] at h;obtain⟨H1,p,x,n,bb,lt,d,ss,ns,bs,TI,y1,y5,dd,de,ak,Z,al,aa,hD,N,sJ,L,rfl⟩:=h;have few:=L.few;apply⟨d,ss,rfl,.inr ⟨_,L.d,fnK_keys _ _⟩,by lk,fun l1 u1 ar p1 o1=>?_⟩;have S:=qD (Sr J) (o:=.lst (u1.map V.str)) ar;have e1:upd J l1 (.lst (u1.map V.str)) l1=some (.lst (u1.map V.str)):=qb;generalize upd J l1 (.lst (u1.map V.str))=J1 at S e1;apply⟨n,ss,rfl,.inl (.of (S _ _ L.nm)),by lk,fun l2 u2 as p2 o2=>?_⟩;have s2:=qD (Sr J1) (o:=.lst (u2.map V.str)) as;have e2:upd J1 l2 (.lst (u2.map V.str)) l2=some (.lst (u2.map V.str)):=qb;generalize upd J1 l2 (.lst (u2.map V.str))=J2 at s2 e2;have eu:=qc7 o1 o2 (p1.trans p2.symm);subst eu;show neT (n:=1) (by decide) (qbE (s2 _ _ e1) e2) ?_;show⟨_,rfl,qL (fun h=>by cases h) fun _=>?_⟩;have bz:=S.trans s2;have A:=L.same bz;apply .inl ⟨⟨_,.of A.nm⟩,qF (xs:=ss.map V.str) (fun i ys G=>L2.Same J2 G/\ys=[]) ⟨L2.Same.refl _,rfl⟩ (fun i ys G _ j=>.of (j.1 _ _ A.nm)) (fun i y ys G hy j=>?_) fun ys G j=>?_⟩
   .obtain⟨M,rfl⟩:=j;obtain⟨sy,gi,rfl⟩:=jc hy;apply qdm (M _ _ A.d) (ye gi) ?_;apply⟨by show 3<=sizeLine;decide,fun g hg=>?_⟩;have sg:=qD (Sr G) (o:=.lst [.str "loose",.str "held",.str "fast"]) hg;have eg:upd G g (.lst [.str "loose",.str "held",.str "fast"]) g=some (.lst ((["loose","held","fast"]:LS).map V.str)):=qb;generalize upd G g (.lst [.str "loose",.str "held",.str "fast"])=O at sg eg;show str_nin eg ?_
    have em:wdF ss ns (loQ (TI.map (nmP ss)) ss) sy∈(["loose","held","fast"]:LS):=by
     by_cases h1:wdF ss ns (loQ (TI.map (nmP ss)) ss) sy="loose"
     .rw [h1];simp
     .by_cases h2:wdF ss ns (loQ (TI.map (nmP ss)) ss) sy="held"
      .rw [h2];simp
      .rw [qgM h1 h2];simp
    rw[yD em];show⟨_,rfl,qL (fun h=>by cases h) fun _=>⟨M.trans sg,rfl⟩⟩
   .obtain⟨M,rfl⟩:=j;show⟨wq9,fun g1 cm=>?_⟩;have s3:=qD (Sr G) (o:=.lst []) cm;have e3:upd G g1 (.lst []) g1=some (.lst []):=qb;generalize upd G g1 (.lst [])=O at s3 e3;apply⟨wq9,fun g2 cn=>?_⟩;have s4:=qD (Sr O) (o:=.lst []) cn;have e4:upd O g2 (.lst []) g2=some (.lst []):=qb;generalize upd O g2 (.lst [])=G3 at s4 e4;show neT (n:=1) (by decide) (qbE (ks:=[]) (s4 _ _ e3) e4) ?_;show⟨_,rfl,qL (fun h=>by cases h) fun _=>?_⟩;have ca:=(M.trans s3).trans s4;have L3:=A.same ca;apply⟨n,bb,d,ss,ns,TI,bs,rfl,L3.nm,L3.bm,L3.d,L3.o,L3.t,L3.b,fun lo us J4 s5 _ hU=>?_⟩;have L4:=L3.same s5;show qg0 (qg1 (qdO rfl rfl L4.nm (by lk) L4.d fun br hb=>?_));have s6:=qD (Sr J4) (o:=.lst ((heQ (TI.map (nmP ss)) ss ns).map V.str)) hb;have e6:upd J4 br (.lst ((heQ (TI.map (nmP ss)) ss ns).map V.str)) br=some (.lst ((heQ (TI.map (nmP ss)) ss ns).map V.str)):=qb;have ef:(ss.filter fun s=>decide (wdF ss ns (loQ (TI.map (nmP ss)) ss) s="held"))=heQ (TI.map (nmP ss)) ss ns:=rfl;rw[ef];generalize upd J4 br (.lst ((heQ (TI.map (nmP ss)) ss ns).map V.str))=J5 at s6 e6;rw[am];show⟨H1,p,x,n,bb,lt,d,lo,br,us,ss,ns,bs,TI,_,_,_,_,_,_,hD,N,sJ.trans (bz.trans ((ca.trans s5).trans s6)),L4.same s6,hU.same s6,e6,rfl⟩
  .ext;show .inl ⟨a,_,rfl,hS,fun k co=>?_⟩
   obtain⟨W,cg,dl⟩:∃ W:LX,qcQ (nz.map V.int) none (some 3)=W.map V.int/\W.length<=3:=by
    have:=qaX (nz.map V.int) 3;rw[show((3:Nat):Int)=3 from rfl] at this;show⟨nz.take 3,by rw[this,List.map_take],by rw[yQ];lk⟩
   rw[cg];have S:=qD (Sr H) (o:=.lst (W.map V.int)) co;have bg:upd H k (.lst (W.map V.int)) k=some (.lst (W.map V.int)):=qb;generalize upd H k (.lst (W.map V.int))=H1 at S bg;apply⟨a,nz,3,rfl,S.seq hS,by decide,fun c8=>?_⟩;apply⟨wqqa,fun k2 bi=>?_⟩;have ad:=qD (Sr H1) (o:=.lst [.int c8]) bi;have bh:upd H1 k2 (.lst [.int c8]) k2=some (.lst [.int c8]):=qb;generalize upd H1 k2 (.lst [.int c8])=H2 at ad bh;show .inl ⟨k,k2,_,_,rfl,rfl,ad _ _ bg,bh,by rw[ya];show yX (qi (by simp only[yJ,YW];lk)),fun lc dj=>?_⟩;have cf:W.map V.int++[.int c8]=(W++[c8]).map V.int:=by rw[yu];rfl
   rw[cf];have e3:upd H2 lc (.lst ((W++[c8]).map V.int)) lc=some (.lst ((W++[c8]).map V.int)):=qb;generalize upd H2 lc (.lst ((W++[c8]).map V.int))=H3 at e3;generalize W++[c8]=cs at e3;show .inl ⟨⟨_,.of e3⟩,qQ (xs:=cs.map V.int) (fun i σ J=>L2.Same H3 J/\Sg a σ) ⟨L2.Same.refl H3,_,_,_,_,_,_,_,_,_,_,_,_,_,_,_,rfl⟩ (fun i σ J _ j=>.of (j.1 _ _ e3)) (fun i y σ J hy j=>?_) fun σ J j=>?_⟩
   .obtain⟨sJ,y1,y2,y3,y4,y5,y6,y7,y8,y9,dd,de,ak,Z,al,aa,rfl⟩:=j;rw[yd] at hy;obtain⟨c,hc,rfl⟩:=yn.mp hy;apply⟨c,rfl,fun p J1 db N ch=>?_⟩;have bq:H3 p=none:=sJ.free N;have cd:But p H3 J1:=fun c o _ e=>db c o (sJ c o e);apply⟨p,12,rfl,ch,by decide,fun m J2 hm b2 ci=>?_⟩;have ao:m<=12:=by lk
    apply⟨p,m,rfl,ci,by lk,fun n ss J3 b3 cj dk cr cq hO cu=>?_⟩;subst cu;apply⟨p,ss.length,rfl,cj,by lk,fun t ts TI J4 b4 ae dp dq hI hT=>?_⟩;have bo:=b4 _ _ cr cq;apply⟨t,ss.length,ts,TI,rfl,by lk,hI,hT,fun bb bs J5 s5 bf be az=>?_⟩;apply⟨bb,ss,TI,bs,rfl,ao,hO.nd,hT,be,az,fun lt J6 s6 bn cp=>?_⟩;have aj:=s5.trans s6;have ba:=ae.same aj;apply⟨n,t,ss,ts,TI,rfl,aj _ _ bo,hO,hI.same aj,hT,fun x ns J7 s7 cv hW bd=>?_⟩;have cl:WebP (fun z=>z=p) cw J7 x ss ns:=hW.apart (ba.apart cv) (fun z e=>by subst e;obtain⟨u,v,w,e,_⟩:=ba;rw[e];show fun z=>by cases z);have da:=aj.trans s7;apply⟨x,ss,ns,_,rfl,bd,fun d J8 s8 _ hd hX=>?_⟩;have aw:=da.trans s8;have ce:But p H3 J8:=(((cd.trans7 b2).trans7 b3).trans7 b4).trans7 fun c o _ e=>aw c o e;ext;rw[bc];show⟨H3,p,x,n,bb,lt,d,ss,ns,bs,TI,_,_,_,_,_,_,_,_,fun dt J' s' g'=>⟨s',g'⟩,bq,fun c o e=>ce c o (fun z=>by rw[z,bq] at e;cases e) e,⟨ae.same aw,cl.keep fun b o _ e=>s8 b o e,bd.adj,aw _ _ bo,((s6.trans s7).trans s8) _ _ be,ae.apart bf,(s7.trans s8) _ _ cp,(ae.same s5).apart bn,hd,hO,ao,hT,az,hX⟩,rfl⟩
   .ext;show q _
end
theorem all_mk{l:W.OpenLaw}{w:World}{h:Heap}{n:Str->Option Value}{fa f c :Addr}{o p q:Tok}(X:K.In h)(G:h.Ns mainGlobals n)(z:n "law"=some (.ref fa))
  (Cw_:W.nsIn K mainGlobals "Web"=some (some (.ref f)))
  (Cf_:W.nsIn K mainGlobals "Forest"=some (some (.ref c)))
  (vZ:FG K "are_pairs" qaa)
  (vv:FG K "partners_in" zh)
  (vJ:FG K "told_pairs" j9)
  (Vr:FG K "singles" qan)
  (VQ:FG K "is_row" qbt)
  (UV:FG K "are_unlike_places" jj)
  (va:FG K "goes_by_turns" qY)
  (v9:FG K "can_turn" qaw)
  (VR:FG K "turned" qa2)
  (Va:FG K "greatest" qax)
  (Vb:FG K "count_of" qay)
  (vb:FG K "greatest_from" jP)
  (WB:FG K "sorts" qcy)
  (Vc:FG K "word_for" zT)
  (WC:FG K "loose" qcz)
  (vw:FG K "leaving_out" zm)
  (vx:FG K "leaving_all" zn)
  (vc:FG K "pieces_beside" jR)
  (vK:FG K "odd_pieces" za)
  (Vs:FG K "lack_of" qa7)
  (WD:FG K "shows" qcB)
  (VS:FG K "is_bar" qbD)
  (Vt:FG K "is_name" qak)
  (Vu:FG K "has_bit" qaY)
  (Vd:FG K "is_place" qas)
  (U1:FG K "are_two_places" jD)
  (vL:FG K "numbers_of" zA)
  (Vv:FG K "near_of" qaZ)
  (vn:FG K "piece_around" j3)
  (VT:FG K "_law_cell" qbw)
  (Vw:FG K "_law_purse" qa3)
  (VU:FG K "_law_take" qbx)
  (Vx:FG K "_law_names" qam)
  (VV:FG K "_law_ties" qbz)
  (VW:FG K "_law_many" qby)
  (VX:FG K "_law_made" qbA)
  (VY:FG K "_law_bits" qbB)
  (Vy:FG K "_law_table" qa8)
  (Ve:FG K "_law_pieces" zo)
  (VZ:FG K "_law_room" qa5)
  (vM:FG K "_law_greatest" jK)
  (Vz:FG K "_law_named" qa9)
  (vN:FG K "_law_partners" zI)
  (WE:FG K "_law_fit" qaK)
  (WF:FG K "_law_odd" qbh)
  (WM:FG K "law" qbo)
  (O:FM K f "__init__" "Web.__init__" qat)
  (Vf:FM K f "places" "Web.places" zD)
  (V0:FM K f "ties" "Web.ties" qav)
  (vy:FM K f "has_place" "Web.has_place" jM)
  (v6:FM K f "has_tie" "Web.has_tie" zg)
  (vz:FM K f "number_of" "Web.number_of" jN)
  (Vg:FM K f "beside" "Web.beside" zE)
  (ve:FM K f "bits_beside" "Web.bits_beside" jv)
  (V1:FM K f "tied" "Web.tied" qau)
  (Vh:FM K f "pieces" "Web.pieces" zF)
  (vO:FM K f "names_in" "Web.names_in" jA)
  (v7:FM K f "without" "Web.without" jw)
  (vA:FM K c "__init__" "Forest.__init__" zj)
  (V2:FM K c "row" "Forest.row" zH)
  (vP:FM K c "reached" "Forest.reached" jm)
  (VA:FM K c "grow" "Forest.grow" zi)
  (Vi:FM K c "reach" "Forest.reach" j4)
  (U2:FM K c "look_around" "Forest.look_around" jf)
  (UW:FM K c "bring_together" "Forest.bring_together" qM)
  (UR:FM K c "bases_down_from" "Forest.bases_down_from" qV)
  (U4:FM K c "reach_round" "Forest.reach_round" je)
  (VB:FM K c "fold" "Forest.fold" jO)
  (w1:W.plainGet K f Str.empty=true)
  (w2:W.hasDictIn K f=true)
  (w3:W.plainOver K f=true)
  (w4:W.findIn K (.ref f) "__setattr__"=some (some (.builtin "object.__setattr__")))
  (w5:W.makesIn K f=true)
  (w6:W.keepIn K (.ref f)=true)
  (w7:W.findIn K (.ref f) "numbers"=some none)
  (w8:W.findIn K (.ref f) "order"=some none)
  (w9:W.findIn K (.ref f) "near"=some none)
  (B:W.plainGet K c Str.empty=true)
  (C:W.hasDictIn K c=true)
  (D:W.plainOver K c=true)
  (E:W.findIn K (.ref c) "__setattr__"=some (some (.builtin "object.__setattr__")))
  (F:W.makesIn K c=true)
  (H:W.keepIn K (.ref c)=true)
  (aa:W.findIn K (.ref c) "board"=some none)
  (ac:W.findIn K (.ref c) "partners"=some none)
  (ad:W.findIn K (.ref c) "rows"=some none)
  (ae:W.findIn K (.ref c) "parents"=some none)
  (af:W.findIn K (.ref c) "bases"=some none)
  (ag:W.findIn K (.ref c) "rings"=some none)
  (ah:W.findIn K (.ref c) "waiting"=some none)
  (ai:W.findIn K (.ref c) "longer"=some none)
  (Y:W.nsIn K mainGlobals "zip"=some none)
  (u:W.nsIn K mainGlobals "sum"=some none)
  (r:W.nsIn K mainGlobals "any"=some none)
  (t:W.nsIn K mainGlobals "sorted"=some none)
  (z0:W.nsIn K mainGlobals "len"=some none)
  (z1:W.nsIn K mainGlobals "int"=some none)
  (z2:W.nsIn K mainGlobals "enumerate"=some none)
  (z3:W.nsIn K mainGlobals "all"=some none)
  (z4:W.nsIn K mainGlobals "max"=some none)
  (z5:W.nsIn K mainGlobals "min"=some none)
  (z6:W.nsIn K mainGlobals "isinstance"=some none)
  (z7:W.nsIn K mainGlobals "bool"=some none)
  (z8:W.nsIn K mainGlobals "str"=some none)
  (z9:W.nsIn K mainGlobals "range"=some none)
  (S:W.nsIn K mainGlobals "list"=some none)
  (U:W.nsIn K mainGlobals "tuple"=some none)
  (u0:W.nsIn K mainGlobals "LONGEST_NAME"=some (some (.int 6 o)))
  (u1:W.nsIn K mainGlobals "MOST_PLACES"=some (some (.int 14 p)))
  (u2:W.nsIn K mainGlobals "MOST_TIES"=some (some (.int 30 q))) :
  ∃ fd:FuncData,(∀(s:Shared) (v:Value),BindsTo s fd ⟨[v],[]⟩ [("_law_script",v)])/\∀ d:Heap,K.In d->d.Ns mainGlobals n->FnOk l.prog w K n d CX0 18 fa fd wq2 (spLaw K):=by
 obtain⟨_,_,v8,wj⟩:=vZ;obtain⟨_,_,vD,wm⟩:=vv;obtain⟨_,_,vQ,wq⟩:=vJ;obtain⟨_,_,VC,wu⟩:=Vr;obtain⟨_,_,V3,wv⟩:=VQ;obtain⟨_,_,UX,ww⟩:=UV;obtain⟨_,_,vf,wz⟩:=va;obtain⟨_,_,Vj,wA⟩:=v9;obtain⟨_,_,V4,wB⟩:=VR;obtain⟨_,_,Vk,wC⟩:=Va;obtain⟨_,_,Vl,wD⟩:=Vb;obtain⟨_,_,vg,wE⟩:=vb;obtain⟨_,_,WG,wF⟩:=WB;obtain⟨_,_,Vm,wG⟩:=Vc;obtain⟨_,_,WH,wH⟩:=WC;obtain⟨_,_,vE,wI⟩:=vw;obtain⟨_,_,vF,wJ⟩:=vx;obtain⟨_,_,vh,wK⟩:=vc;obtain⟨_,_,vR,wL⟩:=vK;obtain⟨_,_,VD,wM⟩:=Vs;obtain⟨_,_,WI,wN⟩:=WD;obtain⟨_,_,V5,wO⟩:=VS;obtain⟨_,_,VE,wP⟩:=Vt;obtain⟨_,_,VF,wQ⟩:=Vu;obtain⟨_,_,Vn,wR⟩:=Vd;obtain⟨_,_,U5,wS⟩:=U1;obtain⟨_,_,vS,wT⟩:=vL;obtain⟨_,_,VG,wU⟩:=Vv;obtain⟨_,_,vo,wV⟩:=vn;obtain⟨_,_,V6,wW⟩:=VT;obtain⟨_,_,VH,wX⟩:=Vw;obtain⟨_,_,V7,wY⟩:=VU;obtain⟨_,_,VI,wZ⟩:=Vx;obtain⟨_,_,V8,Wa⟩:=VV;obtain⟨_,_,V9,Wc⟩:=VW;obtain⟨_,_,wa,Wd⟩:=VX;obtain⟨_,_,wc,We⟩:=VY;obtain⟨_,_,VJ,Wf⟩:=Vy;obtain⟨_,_,Vo,Wg⟩:=Ve;obtain⟨_,_,we,Wh⟩:=VZ;obtain⟨_,_,vT,Wi⟩:=vM;obtain⟨_,_,VL,Wj⟩:=Vz;obtain⟨_,_,vV,Wk⟩:=vN;obtain⟨_,_,WJ,Wl⟩:=WE;obtain⟨_,_,WK,Wm⟩:=WF;obtain⟨_,_,WN,Wn⟩:=WM;obtain⟨_,_,P,R,WL⟩:=O;obtain⟨_,_,WO,WP,Wo⟩:=Vf;obtain⟨_,_,WQ,WR,Wp⟩:=V0;obtain⟨_,_,WS,WT,Wq⟩:=vy;obtain⟨_,_,WV,WW,Wr⟩:=v6;obtain⟨_,_,WX,WY,Ws⟩:=vz;obtain⟨_,_,WZ,W0,Wu⟩:=Vg;obtain⟨_,_,W3,W4,Ww⟩:=ve;obtain⟨_,_,W6,W7,Wx⟩:=V1;obtain⟨_,_,W8,I,Wy⟩:=Vh;obtain⟨_,_,J,L,Wz⟩:=vO;obtain⟨_,_,M,N,WA⟩:=v7;obtain⟨_,_,vG,vH,UU⟩:=vA;obtain⟨_,_,wf,wg,vW⟩:=V2;obtain⟨_,_,vX,vY,Z⟩:=vP;obtain⟨_,_,VM,VN,vp⟩:=VA;obtain⟨_,_,Vp,Vq,vm⟩:=Vi;obtain⟨_,_,U6,U7,UP⟩:=U2;obtain⟨_,_,UY,UZ,UO⟩:=UW;obtain⟨_,_,US,UT,UM⟩:=UR;obtain⟨_,_,U8,U9,UQ⟩:=U4;obtain⟨_,_,VO,VP,vq⟩:=VB;have e:=z.symm.trans (W.mg_of X G WN);cases e;have g:Cls K f:=⟨w1,w2,w3,w4⟩;have j:Cls K c:=⟨B,C,D,E⟩
 have A:∀ a∈fAtt,NoAttr K c a:=fun a y=>by
  unfold fAtt at y;simp only[yx,Yb,YH] at y;rcases y with rfl | rfl | rfl | rfl | rfl | rfl | rfl | rfl<;>assumption
 have T:Txt K n (fun i=>c) f:=⟨YI X G z0,
  YI X G z1,
  YI X G z2,
  YI X G z3,
  YI X G z4,
  YI X G z5,
  YI X G z6,
  YI X G z7,
  YI X G z8,
  YI X G z9,
  YI X G S,
  YI X G U,
  ⟨o,W.mg_of X G u0⟩,
  ⟨p,W.mg_of X G u1⟩,
  ⟨q,W.mg_of X G u2⟩,
  g,
  w7,
  w8,
  w9,
  W.mg_of X G Cw_,
  W.mg_of X G Cf_,
  j,
  A,
  YI X G Y,
  YI X G u,
  YI X G r,
  YI X G t⟩
 obtain⟨oc,od,kV,x,pm,an,cd,ct,sl,rfl,lk,hc⟩:=Wn.ex;show⟨W.fnOf "law" "law" (qaG qbo) (qai qbo) (qg qbo) .none kV x pm an cd ct,fun s v=>.of_eq rfl,fun d _ _=>?_⟩;have b:=@fg_mk l.prog w K n d h;have m:=@fm_mk l.prog w K n d;have fw:=@fw_mk l.prog w K n d h;have d_name:=b X G VE wP (ok_name wP T);have d_place:=b X G Vn wR (ok_place wR d_name);have d_two:=b X G U5 wS (ok_two wS T d_place);have d_bit:=b X G VF wQ (ok_bit wQ);have d_nums:=b X G vS wT (ok_nums wT T d_name);have d_near:=b X G VG wU (ok_near wU T d_two d_bit);have q_web:MakeOk l.prog w K n d CX0 5 f "Web" wqu (spWeb f):=fw X G Cw_ w5 w6 P R WL (ok_web WL T d_nums d_near);have m_has:=m g WS WT Wq (ok_has Wq T d_place);have m_num:=m g WX WY Ws (ok_num Ws T m_has);have m_bb:=m g W3 W4 Ww (ok_bb Ww T m_num);have m_nin:=m g J L Wz (ok_nin Wz T d_bit);have m_bs:=m g WZ W0 Wu (ok_bs Wu T m_bb m_nin);have m_tied:=m g W6 W7 Wx (ok_tied Wx T m_bb m_num d_bit);have m_pls:=m g WO WP Wo (ok_pls Wo T);have m_ts:=m g WQ WR Wp (ok_ts Wp T m_bs);have m_ht:=m g WV WW Wr (ok_ht Wr T d_two m_tied);have d_pc:=b X G vo wV (ok_pc wV T d_bit);have m_pcs:=m g W8 I Wy (ok_pcs Wy T d_bit d_pc m_nin);have m_wo:=m g M N WA (ok_wo WA T m_num m_ts q_web);have d_ap:=b X G v8 wj (ok_ap wj T m_ht);have d_pn:=b X G vD wm (ok_pn wm T d_ap);have d_tp:=b X G vQ wq (ok_tp wq T d_pn m_ts);have d_ul:=b X G UX ww (ok_ul ww T m_has);have d_gt:=b X G vf wz (ok_gt wz T m_ht);have d_ir:=b X G V3 wv (ok_ir wv T d_pn d_ul d_gt);have d_ct:=b X G Vj wA (ok_ct wA T d_pn d_ir);have d_tu:=b X G V4 wB (ok_tu wB T d_pn m_ts d_ct);have p_re:=m j Vp Vq vm (ok_re vm T);have p_bd:=m j US UT UM (ok_bd UM T);have p_rr:=m j U8 U9 UQ (ok_rr UQ T p_re);have p_fd:=m j VO VP vq (ok_fdF vq T m_pls);have p_bt:=m j UY UZ UO (ok_bt UO T p_bd p_rr p_fd);have p_la:=m j U6 U7 UP (ok_la UP T m_bs p_bt p_re);have p_gw:=m j VM VN vp (ok_gw vp T m_pls p_re p_la);have p_mk:MakeOk l.prog w K n d CX0 10 c "Forest" wqA (spFi (fun i=>c) f):=fw X G Cf_ F H vG vH UU (ok_fi UU T d_pn p_gw);have p_row:=m j wf wg vW (ok_fr vW T);have p_rch:=m j vX vY Z (ok_fd2 Z T m_pls);have d_gf:=b X G vg wE (ok_gf wE T d_tp p_mk p_row d_tu);have d_gr:=b X G Vk wC (ok_gr wC T d_gf);have d_lo:=b X G WH wH (ok_lo wH T d_gr p_mk p_rch);have d_wf:=b X G Vm wG (ok_wf wG T m_bs);have d_so:=b X G WG wF (ok_so wF T d_lo d_wf m_pls);have d_si:=b X G VC wu (ok_si wu T d_pn m_pls);have d_pb:=b X G vh wK (ok_pb wK T d_ul m_wo m_pcs);have d_od:=b X G vR wL (ok_od wL T d_pb);have d_lk:=b X G VD wM (ok_lk wM T d_od);have d_shw:=b X G WI wN (ok_shw wN T d_ap d_ul d_si d_lk);have d_ib:=b X G V5 wO (ok_ib wO T d_gr d_shw);have d_co:=b X G Vl wD (ok_co wD T d_gr);have d_lv:=b X G vF wJ (ok_lvQ wJ T m_wo d_gr d_co);have d_l1:=b X G vE wI (ok_lv1 wI T d_lv);have d_tk:=b X G V7 wY (ok_tkp wY T);have d_tb:=b X G VJ Wf (ok_tbQ Wf T);have d_oq:=b X G WK Wm (ok_odQ Wm T (b X G we Wh (ok_rmJ Wh T)) (b X G Vo Wg (ok_pjJ Wg T)));have d_ft:=b X G WJ Wl (ok_ftQ Wl T (b X G vV Wk (ok_prQ Wk T)));show ok_law50 Wn T (b X G V6 wW (ok_ce wW T)) (b X G VH wX (ok_pu wX T)) (b X G V9 Wc (ok_my Wc T d_tk)) (b X G VI wZ (ok_nmJ wZ T d_tk)) (b X G V8 Wa (ok_tsJ Wa T d_tk)) (b X G wa Wd (ok_mdJ Wd T q_web)) (b X G wc We (ok_btJ We T)) d_tb d_so d_oq d_od d_ib (b X G VL Wj (ok_ndJ Wj T d_tk)) (b X G vT Wi (ok_ggQ Wi T d_tk)) d_l1 d_ft
theorem walk{l:PySem.W.OpenLaw}{q:Program}{loose:LS}{XP:(Str->Option Value)->Heap->Prop}{YP:World->Heap->Prop}{d:DefRec}{K:Params->yg}(o:l.most=some 63)(e:d.params.defaults=[])
  (m:∀(w:World) (h:Heap),YP w h->(K w.params).In h)
  (F:∀(w:World) (c:Str->Option Value) (g:Addr) (h:Heap),(K w.params).In h->h.Ns mainGlobals c->c d.name=some (.ref g) ->
   ∃ i:FuncData,(∀(s:Shared) (u:Value),BindsTo s i ⟨[u],[]⟩ [("_law_script",u)])/\∀ b:Heap,(K w.params).In b->b.Ns mainGlobals c->FnOk l.prog w (K w.params) c b CX0 18 g i wq2 (spLaw (K w.params))) :
  PySem.W.WalkO q loose XP YP l.row.toRowW d [] (fun f vs=>PySem.call f vs):=
 L2.walk_of (n:=63) (k:=18) (x:="_law_script") (CX:=fun _=>CX0) (sp:=fun w=>spLaw (K w.params)) o (by decide) e ⟨rfl,by decide,by decide,rfl⟩ m F (fun _ _ a ns hl _ j=>⟨a,ns,rfl,j,hl,fun _=>rfl⟩) fun _ _ _ _ _ z=>z
end K50
set_option maxRecDepth 100000 in
set_option maxHeartbeats 0 in
theorem PySem.Challenge.cw_onceroad_k50_whole_three_sorts_holds : PySem.Challenge.rw_onceroad_k50_whole_three_sorts.Holds := by
  w_on; o_law
  show PySem.W.holds_open (q := K50.Q) (loose := []) (Xt := K50.Xt) (XP := PySem.W.XL K50.Q []) (Yf := PySem.W.Hook.obs K50.Hk) (Ya := PySem.W.Hook.val K50.Hk) (YP := PySem.W.Hook.says (PySem.W.kHook K50.Kf K50.ks K50.ks_eq)) (N := K50.NN) K50.hl (PySem.W.Hook.of K50.Hk) (PySem.W.Hook.keeps K50.Hk) (fun s e => PySem.W.xl_of s (Bool.and_eq_true_iff.mp e).1) PySem.W.XL.keeps (by rfl) (by rfl) (by rfl) (fun s e => PySem.W.recFacts_of (Bool.and_eq_true_iff.mp e).2) (by rfl) (by first | assumption | room) (by room) ⟨rfl, rfl, rfl, rfl, rfl, by room⟩ ?hw ?hc
  (case hw => w_witness2)
  k_fill
  show K50.walk (l := PySem.Challenge.rw_onceroad_k50_whole_three_sorts) rfl rfl (fun w h Y => PySem.W.kIn_of Y) ?F
  case F =>
    intro w mg fa h KX G hmg
    refine' K50.all_mk KX G hmg ?_ ?_ ?_ ?_ ?_ ?_ ?_ ?_ ?_ ?_ ?_ ?_ ?_ ?_ ?_ ?_ ?_ ?_ ?_ ?_ ?_ ?_ ?_ ?_ ?_ ?_ ?_ ?_ ?_ ?_ ?_ ?_ ?_ ?_ ?_ ?_ ?_ ?_ ?_ ?_ ?_ ?_ ?_ ?_ ?_ ?_ ?_ ?_ ?_ ?_ ?_ ?_ ?_ ?_ ?_ ?_ ?_ ?_ ?_ ?_ ?_ ?_ ?_ ?_ ?_ ?_ ?_ ?_ ?_ ?_ ?_ ?_ ?_ ?_ ?_ ?_ ?_ ?_ ?_ ?_ ?_ ?_ ?_ ?_ ?_ ?_ ?_ ?_ ?_ ?_ ?_ ?_ ?_ ?_ ?_ ?_ ?_ ?_ ?_ ?_ ?_ ?_ ?_ ?_ ?_ ?_ ?_ ?_ ?_ ?_ ?_ ?_
    any_goals first | k_is | decide
    any_goals first | k_is | decide | show⟨_, _, by k_is, L2.fun_mk (by k_is) (by k_is) (by k_is)⟩ | show⟨_, _, by k_is, by k_is, L2.fun_mk (by k_is) (by k_is) (by k_is)⟩ | show⟨_, _, _, _, _, _, _, _, _, _, _, _, _, _, _, by k_is⟩ | show⟨by k_is, by k_is, by k_is, by k_is, by k_is, by k_is, by k_is, by k_is⟩ | kernel_rfl | fail
