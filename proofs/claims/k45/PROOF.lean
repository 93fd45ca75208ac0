import PyProof.Rows.All
import Wide.All
import OpenK.AllK
import Wide.FinOn
import PyProof.EqAt
import PyProof.EqKinds
import PyProof.TupleCall
import Lean
import PySem.Challenge.RW_onceroad_k45_papers_walked
set_option Elab.async false
set_option linter.all false
set_option maxRecDepth 100000
local macro_rules | `(tactic| show $e)=>`(tactic| refine $e)
abbrev LQ:=List Int
abbrev LI:=List PySem.Addr
abbrev LN:=List Nat
abbrev LS:=List PySem.Str
abbrev LP:=List (PySem.Str×PySem.Str)
local macro_rules | `(tactic| room)=>`(tactic| decide +kernel)
local macro_rules | `(tactic| lk)=>`(tactic| first | lia | omega)
set_option hygiene false
local macro_rules | `(wq9 $a $b $c $d)=>`(DefOk P w K mg base CX0 $a $b $c $d)
local macro_rules | `(wqqa $a $b $c $d $e)=>`(MethOk P w K mg base CX0 $a $b $c $d $e)
local macro_rules | `(wqqb $a $b $c $d $e)=>`(FnOk P w K mg base CX0 $a $b $c $d $e)
set_option hygiene true
noncomputable section
abbrev wh:LS:=["_law_names_here","_law_bits_here","_law_pairs","_law_bar","_law_many_here","_law_gone","_law_partner","_law_one","_law_other","_law_due_here","_law_piece","_law_places","_law_alone","_law_out","_law_word"]
abbrev wy:LS:=["_law_purse_here","_law_many_here"]
abbrev wqa:LS:=["_law_script","_law_cell_here","_law_purse_here","_law_many_here","_law_names_here","_law_ties_here","_law_bits_here","_law_table_here","_law_web","_law_pairs","_law_bar","_law_turn","_law_some_here","_law_due_here","_law_kept","_law_found","_law_place","_law_word","_law_some_names"]
abbrev wqb:LS:=["_law_purse_here","_law_many_here","_law_bits_here","_law_table_here","_law_room_here","_law_found","_law_low","_law_rest","_law_near_here","_law_ways","_law_other"]
abbrev wqc:LS:=["_law_purse_here","_law_web","_law_names_here","_law_bits_here","_law_pairs","_law_bar","_law_odds","_law_odd","_law_things","_law_thing","_law_some_here","_law_fewer","_law_other"]
abbrev wqd:LS:=["_law_many_here","_law_bits_here","_law_room_here","_law_found","_law_k","_law_piece","_law_line","_law_fresh"]
abbrev wqe:LS:=["_law_names_here","_law_bits_here","_law_bar","_law_many_here","_law_gone","_law_pieces_here"]
abbrev wqf:LS:=["_law_purse_here","_law_web","_law_names_here","_law_bits_here","_law_pairs","_law_bar"]
abbrev wqg:LS:=["numbers","thing"]
abbrev wqh:LS:=["_law_purse_here","_law_many_here","_law_letters","_law_first","_law_step","_law_way","_law_stem","_law_found","_law_k","_law_sign"]
abbrev wqi:LS:=["self","place"]
abbrev wqj:LS:=["_law_names_here","_law_bits_here","_law_pairs","_law_bar"]
abbrev wqk:LS:=["_law_purse_here","_law_names_here","_law_bits_here","_law_pairs","_law_bar"]
abbrev wql:LS:=["web","thing"]
abbrev wqm:LS:=["_law_purse_here","_law_names_here","_law_bits_here","_law_pairs","_law_bar","_law_turn","_law_some_here"]
abbrev wqn:LS:=["_law_purse_here","_law_many_here","_law_bits_here","_law_table_here"]
abbrev wqo:List String:=["NoneType","bool","int","str","list","tuple","dict"]
abbrev wqp:LS:=["_law_many_here","_law_bits_here","_law_room_here"]
abbrev wqq:LS:=["web","bar"]
abbrev wqr:LS:=["self","thing"]
abbrev wqs:LS:=["_law_names_here","_law_bits_here","_law_bar"]
abbrev wqt:LS:=["_law_many_here","_law_gone"]
abbrev wqu:LS:=["_law_k","_law_names_here"]
abbrev wqv:LS:=["self","found"]
abbrev wqw:LS:=["_law_many_here","_law_bits_here","_law_table_here"]
abbrev wqx:LS:=["_law_purse_here","_law_names_here","_law_pairs"]
abbrev wqy:LS:=["_law_purse_here","_law_many_here","_law_thin","_law_found","_law_turn"]
abbrev wqz:LS:=["_law_purse_here","_law_many_here","_law_thin"]
abbrev wqA:LS:=["_law_bits_here","_law_free_here","_law_found"]
abbrev wqB:LS:=["_law_web","_law_pairs","_law_bar"]
abbrev wqC:LS:=["_law_many_here","_law_bits_here","_law_table_here","_law_room_here"]
abbrev wqD:LS:=["self","names","ties"]
abbrev wqE:LS:=["self","places","out","place","names","kept"]
abbrev wqF:LS:=["bits","number"]
abbrev wqG:LS:=["web","pairs"]
abbrev wqH:LS:=["_law_place","_law_names_here"]
abbrev wqI:LS:=["_law_purse_here","_law_most"]
abbrev wqJ:LS:=["_law_j","_law_table_here","_law_room_here","_law_rest"]
abbrev wqK:LS:=["_law_names_here","_law_ties_here"]
abbrev wqL:LS:=["_law_many_here","_law_ties_here"]
abbrev wqM:LS:=["_law_many_here","_law_bits_here"]
abbrev wqN:LS:=["_law_bits_here","_law_free_here"]
abbrev wqO:LS:=["partners","piece","bar"]
abbrev wqP:LS:=["piece","partners","bar"]
abbrev wqQ:List String:=["ValueError","Exception","BaseException","object"]
abbrev wqR:LS:=["_law_j","_law_rest","_law_bits_here","_law_low"]
abbrev wqS:LS:=["_law_script","_law_k"]
abbrev wqT:LS:=["web","pairs","bar","partners"]
abbrev wqU:LS:=["self","text"]
abbrev wqV:LS:=["self","bits"]
abbrev wqW:LS:=["_law_k","_law_table_here","_law_room_here"]
abbrev wqX:LS:=["self","one","other"]
abbrev wqY:LS:=["_law_k","_law_free_here","_law_bits_here"]
abbrev wqZ:LS:=["_law_k","_law_letters","_law_purse_here"]
abbrev wq0:LS:=["web","pairs","bar"]
abbrev wq1:LS:=["thing"]
abbrev wq2:LS:=["self"]
abbrev wq3:LS:=["_law_k","_law_purse_here","_law_thin"]
abbrev wq4:LS:=["_law_place","_law_partner","_law_bar"]
abbrev wq5:LS:=["_law_cell_here"]
abbrev wq6:LS:=["_law_j","_law_bits_here","_law_k"]
abbrev wq7:LS:=["_law_script"]
abbrev wq8:LS:=["numbers","ties"]
theorem wqqc:0<=PySem.sizeLine:=by decide
theorem wqqd:1<=PySem.sizeLine:=by decide
theorem wqqe:2<=PySem.sizeLine:=by decide
theorem wqqf:3<=PySem.sizeLine:=by decide
theorem ya{b c:Type}{a:List b}(f:b→c):(a.map f).length=a.length:=List.length_map f
theorem yb{a:Type}{l:List a}{i:Nat}(h:i<l.length):l[i]?=some l[i]:=List.getElem?_eq_getElem h
theorem yc{b:Type}{l:List b}{i:Nat}{a:b}:l[i]?=some a↔∃h:i<l.length,l[i]=a:=List.getElem?_eq_some_iff
theorem yd{a b:Type}{f:a→b}{l:List a}{i:Nat}:(l.map f)[i]?=l[i]?.map f:=List.getElem?_map
theorem ye{b:Type}{l:List b}{i:Nat}{a:b}(h:l[i]?=some a):a∈l:=List.mem_of_getElem? h
theorem yf{b:Type}{a:b}{l:List b}(h:a∈l):∃i:Nat,l[i]?=some a:=List.getElem?_of_mem h
abbrev yg:=PySem.W.Frag
theorem yh(n:Nat):n≤n:=Nat.le_refl n
theorem yi{a b c:Nat}(h:a≤b)(k:b≤c):a≤c:=Nat.le_trans h k
theorem yj{a b c:Nat}(h:a<b)(k:b≤c):a<c:=Nat.lt_of_lt_of_le h k
theorem yk{p:Prop}[Decidable p](h:decide p=true):p:=of_decide_eq_true h
theorem yl{p:Prop}[Decidable p](h:¬p):decide p=false:=decide_eq_false h
theorem ym{c:Type}{a b:c}(h:some a=some b):a=b:=Option.some.inj h
theorem yn{c d:Type}{f:c→d}{x:Option c}{b:d}:x.map f=some b↔∃a,x=some a∧f a=b:=Option.map_eq_some_iff
theorem yo{b:Type}{a:b}{l:List b}:(a::l).Nodup↔a∉l∧l.Nodup:=List.nodup_cons
theorem yp{a:Type}{p:a→Bool}{b:List a}{x:a}:x∈b.filter p↔x∈b∧p x=true:=List.mem_filter
theorem yq{A B:Prop}(h:B):if false=true then A else B:=h
def yr:=@PySem.wpAny_bind
def yt:=@List.map_append
def yu:=@List.length_append
def yv:=@List.mem_cons
def yw:=@PySem.Heap.get?_push_of_some
def yx:=@List.length_cons
def yy:=@List.mem_cons_of_mem
def yz:=@decide_eq_true
def yA:=@List.size_toArray
def yB:=@List.mem_map
def yC:=@List.mem_singleton
def yD:=@if_neg
def yE:=@PySem.wpAny_pure
def yF:=@Or.inl
def yG:=@List.mem_append
def yH:=@if_pos
def yI:=@List.length_filter_le
def yJ:=@decide_eq_true_iff
def yK:=@List.length_take
def yL:=@Bool.and_eq_true
def yM:=@List.mem_cons_self
def yN:=@Nat.le_of_lt
def yO:=@List.take_add_one
def yP:=@List.filter_cons
def yQ:=@List.not_mem_nil
def yR:=@List.mem_append_right
def yS:=@Int.toNat_natCast
def yT:=@List.take_length
def yU:=@PySem.Heap.lt_size
def yV:=@PySem.F.plainAttrs_list
def yW:=@PySem.PassesOwn.never
def yX:=@Classical.byContradiction
def yY:=@List.getElem?_append_right
def yZ:=@List.filter_append
def Yb:=@PySem.F.slot_list_append
def Yc:=@PySem.F.type_list_append
def Yd:=@List.mem_append_left
def Ye:=@PySem.Heap.get?_push_size
def Yg:=@List.append_nil
def Yh:=@List.mem_range
def Yi:=@List.getElem?_append_left
def Yj:=@Nat.testBit_two_pow
def Yk:=@List.nodup_append
def Yl:=@Nat.ne_of_lt
def Ym:=@beq_iff_eq
def Yn:=@Bool.false_ne_true
def Yo:=@decide_eq_decide
def Yp:=@List.append_of_mem
def Yq:=@List.getD_eq_getElem?_getD
def Yr:=@List.all_eq_true
def Ys:=@List.contains_cons
def Yt:=@PySem.boot_len
def Yu:=@Bool.eq_iff_iff
def Yv:=@List.length_nil
def Yw:=@or_false
def Yx:=@Nat.zero_le
def Yy:=@beq_eq_false_iff_ne
def Yz:=@PyProof.Rows.boot_isinstance
def YA:=@List.filter_nil
def YB:=@List.range_succ
def YC:=@PySem.Heap.get?_update_other
def YD:=@Bool.not_eq_true'
def YE:=@List.length_range
def YF:=@Nat.lt_irrefl
def YG:=@List.map_cons
def YH:=@Nat.lt_of_le_of_lt
def YI:=@Ne.symm
def YJ:=@PySem.wpAny_mono
def YK:=@PySem.wpAny_loadPart_at
def YL:=@List.filter_congr
def YM:=@List.pairwise_map
def YN:=@List.idxOf_lt_length_of_mem
def YO:=@PySem.W.mg_none_of
def YQ:=@PySem.W.looks_findIn
def YR:=@True.intro
def YS:=@Nat.testBit_or
def YT:=@PySem.wpAny_holding
def YU:=@List.length_drop
def YV:=@List.any_eq_true
def YW:=@List.take_of_length_le
def YX:=@Option.isSome_iff_exists
def YY:=@PySem.F.slot_NoneType_eq
def Y4:=@List.length_erase_of_mem
def Y5:=@Bool.or_eq_true
def Y6:=@Nat.testBit_and
def Y7:=@Nat.pow_le_pow_right
def Y8:=@decide_eq_false_iff_not
def Y9:=@PySem.F.excBase_ValueError
def xi:=@Int.zero_add
def xj:=@List.length_pos_of_mem
def xk:=@List.length_reverse
def xm:=@PySem.wpAny_of_eq
def xn:=@List.pairwise_iff_getElem
def xo:=@List.length_replicate
def xp:=@PySem.F.slot_dict_get
def xq:=@List.lookup_cons
def xr:=@List.Pairwise.imp_of_mem
def xt:=@PySem.sizeLine_eq
def xu:=@PySem.Heap.size_push
def xv:=@Nat.pow_lt_pow_right
def xw:=@List.flatten_cons
def xx:=@Nat.or_lt_two_pow
def xy:=@List.countP_eq_length_filter
def xz:=@List.replicate_succ
def xA:=@PySem.W.looks_mroIn
def xB:=@PySem.wpAny_isSubtype_exc
def xC:=@List.flatMap_append
def xD:=@List.mem_map_of_mem
def xE:=@PyProof.Rows.callWith_type1
def xF:=@PySem.Calls.callWith_builtin
def xG:=@List.filter_eq_nil_iff
def xH:=@List.cons.inj
def xI:=@List.mem_flatMap
def xJ:=@PySem.wpAny_Call_Name_kw
def xK:=@PySem.W.callWith_K
def xL:=@PySem.tupleKind_room_in1
def xM:=@List.lookup_append
def xN:=@Bool.false_eq_true
def xO:=@Array.getElem?_eq_some_iff
def xP:=@List.getElem_idxOf
def xQ:=@PySem.Heap.get?_update_self
def xR:=@List.take_append_drop
def xS:=@PySem.wpAny_passesOwn
def xT:=@List.find?_cons
def xU:=@Int.natCast_pow
def xV:=@Nat.le_antisymm
def xW:=@PySem.wpAny_truthy_bool
def xX:=@PySem.wpAny_newObj_type
def xY:=@PySem.codeAny_call_builtin
def xZ:=@Nat.zero_add
def x0:=@Nat.lt_trichotomy
def Xa:=@PyProof.Rows.slot_tuple_getitem
def Xb:=@Array.length_toList
def Xc:=@PySem.mem_of_lookup
def Xd:=@PySem.W.any_some
def Xe:=@List.getElem?_replicate
def Xf:=@Prod.ext
def Xg:=@Or.inr
def Xh:=@beq_self_eq_true
def Xi:=@PySem.wpAny_getItem_str_slice
def Xj:=@List.getElem_mem
def Xk:=@List.filter_cons_of_pos
def Xl:=@List.getElem?_set_self
def Xm:=@Nat.ne_of_gt
def Xn:=@PySem.wpAny_call
def Xo:=@PySem.F.entry_dict_get
def Xp:=@Int.emod_lt_of_pos
def Xq:=@Nat.two_pow_pos
def Xr:=@List.map_take
def Xs:=@PySem.W.methodCall_KW
def Xu:=@if_true
def Xv:=@List.append_assoc
def Xw:=@Option.isSome_map
def Xx:=@List.getElem?_set_ne
def Xy:=@PySem.Calls.evalArgs_plain
def Xz:=@List.getLast?_append
def XA:=@List.mem_erase_of_ne
def XC:=@List.mem_of_mem_take
def XD:=@Nat.eq_of_testBit_eq
def XE:=@List.perm_ext_iff_of_nodup
def XF:=@PySem.codeAny_mono
def XG:=@PyProof.Rows.boot_list
def XH:=@List.map_map
def XI:=@List.filterMap_cons
def XJ:=@List.getElem_of_mem
def XM:=@PySem.wpAny_standAt
def XR:=@PySem.wpAny_getItem_list_slice
def XS:=@List.length_set
def XT:=@Int.emod_nonneg
def XU:=@PySem.Calls.spliced_cons
def XV:=@Option.isSome_some
def XW:=@PyProof.Rows.boot_tuple
def XY:=@Nat.le_succ
def XZ:=@PySem.wpAny_field
def kc:=@PySem.F.slot_list_index
def ke:=@List.filter_cons_of_neg
def kf:=@List.pairwise_singleton
def kg:=@Nat.le_of_eq
def kh:=@List.take_sublist
def ki:=@if_false
def kj:=@PySem.slot_list_getitem
def km:=@PyProof.Rows.bitAnd_m1
def kn:=@Nat.testBit_lt_two_pow
def ko:=@List.perm_append_comm
def kr:=@Nat.min_le_right
def kx:=@List.mem_reverse
def ky:=@List.all_cons
def kz:=@List.any_cons
def kA:=@PySem.Value.ref.inj
def kB:=@List.map_drop
def kC:=@Sum.inr.inj
def kD:=@PySem.wpAny_execs_nil
def kE:=@PySem.SeqAt.EqAt.same
def kF:=@Option.map_some
def kG:=@PySem.post_val_or_str
def kH:=@List.all_append
def kI:=@List.filter_map
def kJ:=@PySem.W.plainGet_of
def kK:=@PySem.W.looks_clsIn
def kL:=@List.filter_eq_self
def kM:=@List.all_map
def kN:=@Bool.or_true
def kO:=@PySem.Heap.IsSliceOf.new
def kP:=@PySem.call_meets
def kQ:=@Option.isSome_none
def kR:=@List.filter_filter
def kS:=@PySem.Calls.spliced_nil
def kU:=@PySem.wpAny_pyIter_list
def kW:=@Bool.eq_false_iff
def kX:=@PySem.Heap.get?_push_at
def kY:=@Int.one_mul
def kZ:=@List.reverse_perm
def Ka:=@PySem.W.mg_of
def Kb:=@PySem.W.mg_of
def Kc:=@List.sum_cons
def Kd:=@Nat.lt_succ_self
def Ke:=@List.cons_append
def Kg:=@PySem.wpAny_askSetting
def Kh:=@Nat.min_eq_right
def Ki:=@List.drop_length
def Kj:=@Nat.zero_testBit
def Kk:=@PyProof.Rows.boot_repr
def Kl:=@List.mem_flatten
def Km:=@Nat.lt_trans
def Kn:=@PySem.call_meetsIn
def Ko:=@PySem.Txt.slice_le
def Kp:=@List.of_mem_zip
def Kq:=@Nat.min_eq_left
def Kr:=@Nat.le_max_left
def Ks:=@Nat.testBit_xor
def Kt:=@Nat.and_le_left
def Ku:=@Bool.or_false
def Kv:=@Prod.mk.injEq
def Kw:=@decide_false
def Kx:=@Nat.sub_zero
def Ky:=@not_or
namespace L2
open PySem PySem.Spec PyProof.Rows
def jC(s:Stmt)(j:Nat):Stmt:=match s with
 | .ClassDef _ _ _ body _ _ _ _ _ _ _=>body.getD j (.Pass ⟨0,0,0,0⟩)
 | _=>.Pass ⟨0,0,0,0⟩
def qaA(s:Stmt):Arguments:=match s with
 | .FunctionDef _ a _ _ _ _ _ _ _ _=>a
 | _=>{ posonlyargs:=[],args:=[],vararg:=none,kwonlyargs:=[],kw_defaults:=[],kwarg:=none,defaults:=[] }
def zN(s:Stmt):List Stmt:=match s with
 | .FunctionDef _ _ b _ _ _ _ _ _ _=>b
 | _=>[]
def qg(s:Stmt):Scope:=match s with
 | .FunctionDef _ _ _ _ _ _ sc _ _ _=>sc
 | _=>{ kind:=.function,names:=[],isGenerator:=false,isCoroutine:=false }
end L2
namespace K45
open PySem L2 PyProof.Rows
def top(i:Nat):Stmt:=PySem.Challenge.pw_onceroad_k45_papers_walked.main.body.getD i (.Pass ⟨0,0,0,0⟩)
abbrev jz:Stmt:=jC (top 2) 0
abbrev jX:Stmt:=jC (top 8) 0
abbrev zt:Stmt:=jC (top 9) 0
abbrev zg:Stmt:=top 25
abbrev qaU:Stmt:=top 30
abbrev zI:Stmt:=top 31
abbrev q8:Stmt:=top 32
abbrev zu:Stmt:=top 33
abbrev qao:Stmt:=jC (top 29) 0
abbrev qaV:Stmt:=top 34
abbrev zw:Stmt:=jC (top 29) 1
abbrev ji:Stmt:=jC (top 29) 4
abbrev jO:Stmt:=jC (top 29) 6
abbrev zx:Stmt:=jC (top 29) 7
abbrev jq:Stmt:=jC (top 29) 8
abbrev qap:Stmt:=jC (top 29) 9
abbrev jy:Stmt:=jC (top 29) 12
abbrev zy:Stmt:=jC (top 29) 10
abbrev jY:Stmt:=top 35
abbrev qar:Stmt:=jC (top 29) 2
abbrev zi:Stmt:=top 11
abbrev jP:Stmt:=jC (top 29) 5
abbrev jQ:Stmt:=top 12
abbrev qbA:Stmt:=top 37
abbrev qaZ:Stmt:=top 38
abbrev qbB:Stmt:=top 39
abbrev qbC:Stmt:=top 42
abbrev qai:Stmt:=top 40
abbrev qbD:Stmt:=top 41
abbrev qbE:Stmt:=top 43
abbrev qbF:Stmt:=top 44
abbrev qa1:Stmt:=top 48
abbrev qa2:Stmt:=top 47
abbrev zc:Stmt:=top 46
abbrev js:Stmt:=jC (top 29) 13
abbrev qa4:Stmt:=top 45
abbrev qa5:Stmt:=top 50
abbrev qa7:Stmt:=top 52
abbrev qat:Stmt:=top 53
abbrev qZ:Stmt:=top 15
abbrev qak:Stmt:=top 13
abbrev jR:Stmt:=top 17
abbrev j3:Stmt:=top 18
abbrev qa9:Stmt:=top 19
abbrev qcI:Stmt:=top 20
abbrev qau:Stmt:=top 51
abbrev jI:Stmt:=top 49
abbrev jV:Stmt:=top 21
abbrev zW:Stmt:=top 22
abbrev qal:Stmt:=top 54
abbrev qbI:Stmt:=top 55
abbrev qb5:Stmt:=top 56
abbrev zn:Stmt:=top 57
abbrev qdl:Stmt:=top 58
end K45
namespace Hd
open PySem PySem.W PySem.Calls PyProof.Rows
variable{p:Program}{α:Type}
def qgp(c:String->Option Builtin)(p:Program)(w:World)(a:Nat)(b:Option Value):Nat->SharedT->Thread->Option SharedT
 | 0,_,_=>none
 | n+1,s,t=>match through t with
  | true=>some s
  | false=>match stepOk a b t with
   | false=>none
   | true=>match stepT (denote c) p w s t with
    | some (s',t')=>qgp c p w a b n s' t'
    | none=>none
theorem qgc{d:String->Option Builtin}{w:World}{a:Nat}{b:Option Value}:∀{n:Nat} {s s':SharedT} {t:Thread},qgp d p w a b n s t=some s'->topRun d p w a b n s.abs t=some s'.abs
 | 0,_,_,_,h=>by cases h
 | n+1,s,s',t,h=>by
  unfold qgp at h;unfold topRun
  cases e:through t with
  | true=>rw[e] at h;cases h;rfl
  | false =>
   rw[e] at h
   cases f:stepOk a b t with
   | false=>rw[f] at h;cases h
   | true =>
    rw[f] at h
    cases c:stepT (denote d) p w s t with
    | none=>rw[c] at h;cases h
    | some r=>obtain⟨g,i⟩:=r;rw[c] at h;rw[stepT_spec c];show qgc h
def qdP:List Obj->Nat->BT->BT
 | [],_,t=>t
 | o::r,n,t=>qdP r (n+1) (t.ins n o)
def qfx(P:Params)(a:OsState):SharedT:=⟨qdP (boot_heap P).objs.toList 0 .nil,(boot_heap P).objs.size,(boot_heap P).life,Array.mk [],boot_drawn,boot_toks,a⟩
theorem boot_abs(P:Params):absHeap (qdP (boot_heap P).objs.toList 0 .nil) (boot_heap P).objs.size (boot_heap P).life=boot_heap P:=by kernel_rfl
def qfM(p q:Program)(Xt:Shared->Bool){α:Type}(Yf:Shared->α)(N:Nat)(w:World)(a:OsState):=match (boot_heap w.params).isNs mainGlobals&&(Array.mk []:Array GenState).size==0 with
 | true=>(qgp treeTable p w (boot_heap w.params).objs.size ((boot_heap w.params).nsMap mainGlobals "__annotations__") N (qfx w.params a) (topStub p)).bind λs=>match staticsOk (importedModules p.main.body) (boot_heap w.params) s.abs.heap&&namesBound p s.abs.heap&&gensDone s.abs&&laidKept (boot_heap w.params) s.abs.heap with
   | true=>some (openSeen q [] (importedModules p.main.body) Xt true s.abs,Yf s.abs)
   | false=>none
 | false=>none
noncomputable def lookS(p:Program)(N:Nat)(w:World)(a:OsState):Option Shared:=match (boot_heap w.params).isNs mainGlobals&&(Array.mk []:Array GenState).size==0 with
 | true=>(qgp treeTable p w (boot_heap w.params).objs.size ((boot_heap w.params).nsMap mainGlobals "__annotations__") N (qfx w.params a) (topStub p)).bind λs=>match staticsOk (importedModules p.main.body) (boot_heap w.params) s.abs.heap&&namesBound p s.abs.heap&&gensDone s.abs&&laidKept (boot_heap w.params) s.abs.heap with
   | true=>some s.abs
   | false=>none
 | false=>none
theorem lookT_map(p q:Program)(Xt:Shared->Bool)(Yf:Shared->α)(N:Nat)(w:World)(a:OsState):qfM p q Xt Yf N w a=(lookS p N w a).map λs=>(openSeen q [] (importedModules p.main.body) Xt true s,Yf s):=by
 unfold qfM lookS
 cases (boot_heap w.params).isNs mainGlobals&&(Array.mk []:Array GenState).size==0 with
 | false=>rfl
 | true =>
  dsimp only
  cases qgp treeTable p w (boot_heap w.params).objs.size ((boot_heap w.params).nsMap mainGlobals "__annotations__") N (qfx w.params a) (topStub p) with
  | none=>rfl
  | some s =>
   show(match _ with | true=>_ | false=>_)=Option.map _ (match _ with | true=>_ | false=>_);cases staticsOk (importedModules p.main.body) (boot_heap w.params) s.abs.heap&&namesBound p s.abs.heap&&gensDone s.abs&&laidKept (boot_heap w.params) s.abs.heap<;>rfl
theorem packs{b A B C D E Y:Type}{o:Option b}{f:b->A×B×C×D×E}{g:b->Y}{x:A×B×C×D×E}{y:Y}(h1:o.map (λs=>((f s).1,(f s).2.1,(f s).2.2.1,(f s).2.2.2.1))=some (x.1,x.2.1,x.2.2.1,x.2.2.2.1))(h:o.map (λs=>(f s).2.2.2.2)=some x.2.2.2.2)(c:o.map g=some y):o.map (λs=>(f s,g s))=some (x,y):=by
 cases o with
 | none=>cases c
 | some s =>
  have a:=ym h1;have d:=ym h;have e:=ym c;have i:=congrArg Prod.fst a;have j:=congrArg (λz=>z.2.1) a;have l:=congrArg (λz=>z.2.2.1) a;have m:=congrArg (λz=>z.2.2.2) a;show congrArg some (Xf (Xf i (Xf j (Xf l (Xf m d)))) e)
theorem left_of{q:Program}{Xt:Shared->Bool}{Yf:Shared->α}{Ya:World->α}{N:Nat}(e:opening p=plainProg p.main.scope.names)(n:Nat.ble 600 N=true)(f:∀ s,fenceModules? p s=some s)
  (h:∀ w a,qfM p q Xt Yf N w a=some (openGood q [],Ya w)):LeftO p q [] Xt Yf Ya N:=λw=>by
 obtain⟨⟨m,l,d,k,a⟩,i,j⟩:=yn.mp (boot_open e n f w);obtain⟨rfl,rfl,rfl,rfl⟩:m=boot_heap w.params/\l=Array.mk []/\d=boot_drawn/\k=boot_toks:=by simpa using j
 have b:=h w a;unfold qfM at b;unfold openEnds;rw[i];show(topFrom treeTable p w N _).map _=_;unfold topFrom;dsimp only;split at b
 .rename_i z
  rw[z];obtain⟨s,o,c⟩:=Option.bind_eq_some_iff.mp b;have r:=qgc o
  have g:(qfx w.params a).abs=⟨boot_heap w.params,Array.mk [],boot_drawn,boot_toks,a⟩:=by
   unfold qfx SharedT.abs;dsimp only;rw[boot_abs]
  rw[g] at r;dsimp only;rw[r];split at c
  .rename_i z2
   show((match staticsOk (importedModules p.main.body) (boot_heap w.params) s.abs.heap&&namesBound p s.abs.heap&&gensDone s.abs&&laidKept (boot_heap w.params) s.abs.heap with | true=>some s.abs | false=>none):Option Shared).map _=_;rw[z2];show c
  .cases c
 .cases b
end Hd
namespace K45
open PySem L2 PyProof.Rows PySem.W
abbrev NN:Nat:=20000
def Q:Program:=view PySem.Challenge.pw_onceroad_k45_papers_walked [0,2,3,4,5,6,7,8,9,11,12,13,15,17,18,19,20,21,22,24,25,27,28,29,30,31,32,33,34,35,37,38,39,40,41,42,43,44,45,46,47,48,49,50,51,52,53,54,55,56,57,58]
noncomputable def en(P:Params)(t:Tok)(v:Value)(k:Str):DictEntry:=⟨PyData.keyHash P k,.str k t,v⟩
noncomputable def cO(t a b r:Nat)(x y z v:Value)(e u:Nat)(q n:Str):Obj:=⟨.type "code",none,.fields #[.str n t,.str q (t+1),.str "/claim/cut.py" (t+2),.int a 0,.int b 0,.int 0 0,.int 0 0,.int 3 0,.ref r,.bool true,.int 181 0,x,y,z,v,.ref e,.int u 0,.int a 0,.str "/claim/cut.py" (u+1)],#[]⟩
noncomputable def cE(t b a r:Nat)(x y z v:Value)(e u:Nat)(n:Str):Obj:=cO t b a r x y z v e u n n
noncomputable def fO(k c:Nat)(s:Stmt)(m q n:Str):Obj:=⟨.type "function",none,.func (fnOf n q (qaA s) (zN s) (qg s) .none .none .none (.str m k) none (.ref c) .none),#[]⟩
noncomputable def fE(k c:Nat)(s:Stmt)(m n:Str):Obj:=fO k c s m n n
noncomputable def Kf(P:Params):Frag:=
 (nat_lit 1,(⟨(.type "dict"),none,.dict #[en P 162 (.ref 4) "builtins",en P 163 (.ref 5) "__main__"] 2,#[]⟩:Obj)) ::
 (nat_lit 2,(⟨.none,none,.dict #[] 0,#[]⟩:Obj)) ::
 (nat_lit 3,(⟨(.type "dict"),none,.dict #[en P 165 (.str "law_onceroad_k45_papers_walked" 722) "__name__",en P 166 .none "__doc__",en P 167 .none "__package__",en P 168 (.builtin "__main__.__loader__#opaque") "__loader__",en P 169 .none "__spec__",en P 170 (.ref 6) "__annotations__",en P 171 (.ref 4) "__builtins__",en P 173 (.str "/claim/cut.py" 172) "__file__",en P 174 .none "__cached__",en P 193 (.ref 21) "_wall",en P 221 (.ref 38) "OnceError",en P 246 (.ref 58) "NoName",en P 271 (.ref 77) "Twice",en P 296 (.ref 96) "NoPlace",en P 321 (.ref 115) "NoTie",en P 346 (.ref 134) "TooMany",en P 371 (.ref 153) "NoPairs",en P 396 (.ref 172) "NoBar",en P 408 (.ref 181) "are_pairs",en P 418 (.ref 188) "partners_in",en P 424 (.ref 193) "singles",en P 436 (.ref 200) "are_unlike_places",en P 446 (.ref 207) "pieces_beside",en P 452 (.ref 212) "odd_pieces",en P 460 (.ref 219) "lack_of",en P 468 (.ref 226) "shows",en P 474 (.ref 231) "parts_of",en P 485 (.ref 238) "part_with",en P 489 (.int 6 488) "LONGEST_NAME",en P 495 (.ref 243) "is_name",en P 499 (.int 14 498) "MOST_PLACES",en P 501 (.int 30 500) "MOST_TIES",en P 663 (.ref 368) "Web",en P 671 (.ref 379) "has_bit",en P 679 (.ref 386) "is_place",en P 688 (.ref 393) "are_two_places",en P 697 (.ref 400) "numbers_of",en P 709 (.ref 407) "near_of",en P 721 (.ref 414) "piece_around",en P 731 (.ref 421) "_law_cell",en P 738 (.ref 428) "_law_purse",en P 748 (.ref 435) "_law_take",en P 754 (.ref 440) "_law_names",en P 768 (.ref 447) "_law_ties",en P 776 (.ref 454) "_law_many",en P 787 (.ref 461) "_law_made",en P 798 (.ref 468) "_law_bits",en P 813 (.ref 475) "_law_table",en P 819 (.ref 480) "_law_pieces",en P 825 (.ref 485) "_law_some",en P 831 (.ref 490) "_law_room",en P 837 (.ref 495) "_law_greatest",en P 850 (.ref 502) "_law_named",en P 856 (.ref 507) "_law_lack",en P 862 (.ref 512) "_law_free",en P 868 (.ref 517) "_law_near",en P 874 (.ref 522) "_law_due",en P 885 (.ref 529) "_law_said",en P 891 (.ref 534) "_law_met",en P 897 (.ref 539) "_law_refused",en P 903 (.ref 544) "law"] 61,#[]⟩:Obj)) ::
 (nat_lit 34,cO 208 7 2 29 (.ref 30) .none (.ref 31) (.ref 32) 33 213 "OnceError.__init__" "__init__") ::
 (nat_lit 35,fO 194 34 jz "onceroad.errors" "OnceError.__init__" "__init__") ::
 (nat_lit 37,(⟨(.type "dict"),none,.dict #[en P 203 (.str "onceroad.errors" 194) "__module__",en P 207 (.int 5 206) "__firstlineno__",en P 215 (.ref 35) "__init__",en P 216 (.ref 36) "__static_attributes__",en P 218 (.ref 39) "__weakref__",en P 219 .none "__doc__"] 3,#[]⟩:Obj)) ::
 (nat_lit 38,(⟨(.type "type"),none,.cls { name:="OnceError",bases:=[(.type "ValueError")],mro:=[(.ref 38),(.type "ValueError"),(.type "Exception"),(.type "BaseException"),(.type "object")],ns:=37,qualname:="OnceError",hasDict:=true,slotNames:=[],subclasses:=[(.ref 58),(.ref 77),(.ref 96),(.ref 115),(.ref 134),(.ref 153),(.ref 172)],abstract:=false,collection:=none,hasDel:=false },#[(some (.ref 22)),none,(some (.str "OnceError" 196)),(some (.str "OnceError" 204)),(some (.builtin "ValueError.__new__")),(some (.bool true))]⟩:Obj)) ::
 (nat_lit 95,(⟨(.type "dict"),none,.dict #[en P 279 (.str "onceroad.errors" 194) "__module__",en P 283 (.int 19 282) "__firstlineno__",en P 291 (.ref 93) "__init__",en P 293 (.ref 94) "__static_attributes__",en P 294 .none "__doc__"] 2,#[]⟩:Obj)) ::
 (nat_lit 96,(⟨(.type "type"),none,.cls { name:="NoPlace",bases:=[(.ref 38)],mro:=[(.ref 96),(.ref 38),(.type "ValueError"),(.type "Exception"),(.type "BaseException"),(.type "object")],ns:=95,qualname:="NoPlace",hasDict:=true,slotNames:=[],subclasses:=[],abstract:=false,collection:=none,hasDel:=false },#[(some (.ref 80)),none,(some (.str "NoPlace" 272)),(some (.str "NoPlace" 280)),(some (.builtin "ValueError.__new__")),(some (.bool true))]⟩:Obj)) ::
 (nat_lit 149,cO 359 36 2 144 (.ref 145) .none (.ref 146) (.ref 147) 148 364 "NoPairs.__init__" "__init__") ::
 (nat_lit 150,fO 194 149 jX "onceroad.errors" "NoPairs.__init__" "__init__") ::
 (nat_lit 152,(⟨(.type "dict"),none,.dict #[en P 354 (.str "onceroad.errors" 194) "__module__",en P 358 (.int 34 357) "__firstlineno__",en P 366 (.ref 150) "__init__",en P 368 (.ref 151) "__static_attributes__",en P 369 .none "__doc__"] 2,#[]⟩:Obj)) ::
 (nat_lit 153,(⟨(.type "type"),none,.cls { name:="NoPairs",bases:=[(.ref 38)],mro:=[(.ref 153),(.ref 38),(.type "ValueError"),(.type "Exception"),(.type "BaseException"),(.type "object")],ns:=152,qualname:="NoPairs",hasDict:=true,slotNames:=[],subclasses:=[],abstract:=false,collection:=none,hasDel:=false },#[(some (.ref 137)),none,(some (.str "NoPairs" 347)),(some (.str "NoPairs" 355)),(some (.builtin "ValueError.__new__")),(some (.bool true))]⟩:Obj)) ::
 (nat_lit 168,cO 384 41 2 163 (.ref 164) .none (.ref 165) (.ref 166) 167 389 "NoBar.__init__" "__init__") ::
 (nat_lit 169,fO 194 168 zt "onceroad.errors" "NoBar.__init__" "__init__") ::
 (nat_lit 171,(⟨(.type "dict"),none,.dict #[en P 379 (.str "onceroad.errors" 194) "__module__",en P 383 (.int 39 382) "__firstlineno__",en P 391 (.ref 169) "__init__",en P 393 (.ref 170) "__static_attributes__",en P 394 .none "__doc__"] 2,#[]⟩:Obj)) ::
 (nat_lit 172,(⟨(.type "type"),none,.cls { name:="NoBar",bases:=[(.ref 38)],mro:=[(.ref 172),(.ref 38),(.type "ValueError"),(.type "Exception"),(.type "BaseException"),(.type "object")],ns:=171,qualname:="NoBar",hasDict:=true,slotNames:=[],subclasses:=[],abstract:=false,collection:=none,hasDel:=false },#[(some (.ref 156)),none,(some (.str "NoBar" 372)),(some (.str "NoBar" 380)),(some (.builtin "ValueError.__new__")),(some (.bool true))]⟩:Obj)) ::
 (nat_lit 180,cE 399 45 2 175 (.ref 176) .none (.ref 177) (.ref 178) 179 406 "are_pairs") ::
 (nat_lit 181,fE 397 180 zi "onceroad.pairs" "are_pairs") ::
 (nat_lit 187,cE 409 55 2 182 (.ref 183) .none (.ref 184) (.ref 185) 186 416 "partners_in") ::
 (nat_lit 188,fE 397 187 jQ "onceroad.pairs" "partners_in") ::
 (nat_lit 192,cE 419 63 2 189 (.ref 190) .none .none .none 191 422 "singles") ::
 (nat_lit 193,fE 397 192 qak "onceroad.pairs" "singles") ::
 (nat_lit 199,cE 427 67 2 194 (.ref 195) .none (.ref 196) (.ref 197) 198 434 "are_unlike_places") ::
 (nat_lit 200,fE 425 199 qZ "onceroad.rows" "are_unlike_places") ::
 (nat_lit 206,cE 439 77 2 201 (.ref 202) .none (.ref 203) (.ref 204) 205 444 "pieces_beside") ::
 (nat_lit 207,fE 437 206 jR "onceroad.bars" "pieces_beside") ::
 (nat_lit 211,cE 447 81 2 208 (.ref 209) .none .none .none 210 450 "odd_pieces") ::
 (nat_lit 212,fE 437 211 j3 "onceroad.bars" "odd_pieces") ::
 (nat_lit 218,cE 453 83 2 213 (.ref 214) .none (.ref 215) (.ref 216) 217 458 "lack_of") ::
 (nat_lit 219,fE 437 218 qa9 "onceroad.bars" "lack_of") ::
 (nat_lit 225,cE 461 85 2 220 (.ref 221) .none (.ref 222) (.ref 223) 224 466 "shows") ::
 (nat_lit 226,fE 437 225 qcI "onceroad.bars" "shows") ::
 (nat_lit 230,cE 469 91 3 227 (.ref 228) .none .none .none 229 472 "parts_of") ::
 (nat_lit 231,fE 437 230 jV "onceroad.bars" "parts_of") ::
 (nat_lit 237,cE 475 96 3 232 (.ref 233) .none (.ref 234) (.ref 235) 236 483 "part_with") ::
 (nat_lit 238,fE 437 237 zW "onceroad.bars" "part_with") ::
 (nat_lit 242,cE 490 106 1 239 (.ref 240) .none .none .none 241 493 "is_name") ::
 (nat_lit 243,fE 486 242 zg "onceroad.names" "is_name") ::
 (nat_lit 256,cO 514 115 3 251 (.ref 252) .none (.ref 253) (.ref 254) 255 520 "Web.__init__" "__init__") ::
 (nat_lit 257,fO 496 256 qao "onceroad.webs" "Web.__init__" "__init__") ::
 (nat_lit 263,cO 523 120 1 258 (.ref 259) .none (.ref 260) (.ref 261) 262 527 "Web.places" "places") ::
 (nat_lit 264,fO 496 263 zw "onceroad.webs" "Web.places" "places") ::
 (nat_lit 270,cO 530 123 1 265 (.ref 266) .none (.ref 267) (.ref 268) 269 537 "Web.ties" "ties") ::
 (nat_lit 271,fO 496 270 qar "onceroad.webs" "Web.ties" "ties") ::
 (nat_lit 284,cO 547 134 2 279 (.ref 280) .none (.ref 281) (.ref 282) 283 552 "Web.has_place" "has_place") ::
 (nat_lit 285,fO 496 284 ji "onceroad.webs" "Web.has_place" "has_place") ::
 (nat_lit 291,cO 555 137 2 286 (.ref 287) .none (.ref 288) (.ref 289) 290 560 "Web.has_tie" "has_tie") ::
 (nat_lit 292,fO 496 291 jP "onceroad.webs" "Web.has_tie" "has_tie") ::
 (nat_lit 298,cO 563 140 2 293 (.ref 294) .none (.ref 295) (.ref 296) 297 568 "Web.number_of" "number_of") ::
 (nat_lit 299,fO 496 298 jO "onceroad.webs" "Web.number_of" "number_of") ::
 (nat_lit 305,cO 571 145 2 300 (.ref 301) .none (.ref 302) (.ref 303) 304 576 "Web.beside" "beside") ::
 (nat_lit 306,fO 496 305 zx "onceroad.webs" "Web.beside" "beside") ::
 (nat_lit 312,cO 579 148 2 307 (.ref 308) .none (.ref 309) (.ref 310) 311 584 "Web.bits_beside" "bits_beside") ::
 (nat_lit 313,fO 496 312 jq "onceroad.webs" "Web.bits_beside" "bits_beside") ::
 (nat_lit 319,cO 587 151 3 314 (.ref 315) .none (.ref 316) (.ref 317) 318 594 "Web.tied" "tied") ::
 (nat_lit 320,fO 496 319 qap "onceroad.webs" "Web.tied" "tied") ::
 (nat_lit 326,cO 597 155 1 321 (.ref 322) .none (.ref 323) (.ref 324) 325 605 "Web.pieces" "pieces") ::
 (nat_lit 327,fO 496 326 zy "onceroad.webs" "Web.pieces" "pieces") ::
 (nat_lit 338,cO 615 168 2 335 (.ref 336) .none .none .none 337 618 "Web.names_in" "names_in") ::
 (nat_lit 339,fO 496 338 jy "onceroad.webs" "Web.names_in" "names_in") ::
 (nat_lit 343,cO 621 171 2 340 (.ref 341) .none .none .none 342 624 "Web.without" "without") ::
 (nat_lit 344,fO 496 343 js "onceroad.webs" "Web.without" "without") ::
 (nat_lit 367,(⟨(.type "dict"),none,.dict #[en P 509 (.str "onceroad.webs" 496) "__module__",en P 513 (.int 113 512) "__firstlineno__",en P 522 (.ref 257) "__init__",en P 529 (.ref 264) "places",en P 539 (.ref 271) "ties",en P 546 (.ref 278) "how_many",en P 554 (.ref 285) "has_place",en P 562 (.ref 292) "has_tie",en P 570 (.ref 299) "number_of",en P 578 (.ref 306) "beside",en P 586 (.ref 313) "bits_beside",en P 596 (.ref 320) "tied",en P 607 (.ref 327) "pieces",en P 614 (.ref 334) "told",en P 620 (.ref 339) "names_in",en P 626 (.ref 344) "without",en P 634 (.ref 351) "with_place",en P 643 (.ref 358) "with_tie",en P 652 (.ref 365) "without_tie",en P 656 (.ref 366) "__static_attributes__",en P 658 (.ref 369) "__dict__",en P 660 (.ref 370) "__weakref__",en P 661 .none "__doc__"] 4,#[]⟩:Obj)) ::
 (nat_lit 368,(⟨(.type "type"),none,.cls { name:="Web",bases:=[(.type "object")],mro:=[(.ref 368),(.type "object")],ns:=367,qualname:="Web",hasDict:=true,slotNames:=[],subclasses:=[],abstract:=false,collection:=none,hasDel:=false },#[none,none,(some (.str "Web" 502)),(some (.str "Web" 510)),(some (.builtin "object.__new__")),(some (.bool true))]⟩:Obj)) ::
 (nat_lit 378,cE 664 189 2 373 (.ref 374) .none (.ref 375) (.ref 376) 377 669 "has_bit") ::
 (nat_lit 379,fE 496 378 qaU "onceroad.webs" "has_bit") ::
 (nat_lit 385,cE 672 191 2 380 (.ref 381) .none (.ref 382) (.ref 383) 384 677 "is_place") ::
 (nat_lit 386,fE 496 385 zI "onceroad.webs" "is_place") ::
 (nat_lit 392,cE 680 193 2 387 (.ref 388) .none (.ref 389) (.ref 390) 391 686 "are_two_places") ::
 (nat_lit 393,fE 496 392 q8 "onceroad.webs" "are_two_places") ::
 (nat_lit 399,cE 689 198 1 394 (.ref 395) .none (.ref 396) (.ref 397) 398 695 "numbers_of") ::
 (nat_lit 400,fE 496 399 zu "onceroad.webs" "numbers_of") ::
 (nat_lit 406,cE 698 211 2 401 (.ref 402) .none (.ref 403) (.ref 404) 405 707 "near_of") ::
 (nat_lit 407,fE 496 406 qaV "onceroad.webs" "near_of") ::
 (nat_lit 413,cE 710 227 2 408 (.ref 409) .none (.ref 410) (.ref 411) 412 719 "piece_around") ::
 (nat_lit 414,fE 496 413 jY "onceroad.webs" "piece_around") ::
 (nat_lit 420,cE 724 237 2 415 (.ref 416) .none (.ref 417) (.ref 418) 419 729 "_law_cell") ::
 (nat_lit 421,fE 722 420 qbA "law_onceroad_k45_papers_walked" "_law_cell") ::
 (nat_lit 427,cE 732 241 1 422 (.ref 423) .none (.ref 424) (.ref 425) 426 736 "_law_purse") ::
 (nat_lit 428,fE 722 427 qaZ "law_onceroad_k45_papers_walked" "_law_purse") ::
 (nat_lit 434,cE 739 243 2 429 (.ref 430) .none (.ref 431) (.ref 432) 433 746 "_law_take") ::
 (nat_lit 435,fE 722 434 qbB "law_onceroad_k45_papers_walked" "_law_take") ::
 (nat_lit 439,cE 749 253 2 436 (.ref 437) .none .none .none 438 752 "_law_names") ::
 (nat_lit 440,fE 722 439 qai "law_onceroad_k45_papers_walked" "_law_names") ::
 (nat_lit 446,cE 755 271 2 441 (.ref 442) .none (.ref 443) (.ref 444) 445 766 "_law_ties") ::
 (nat_lit 447,fE 722 446 qbD "law_onceroad_k45_papers_walked" "_law_ties") ::
 (nat_lit 453,cE 769 283 2 448 (.ref 449) .none (.ref 450) (.ref 451) 452 774 "_law_many") ::
 (nat_lit 454,fE 722 453 qbC "law_onceroad_k45_papers_walked" "_law_many") ::
 (nat_lit 460,cE 777 285 2 455 (.ref 456) .none (.ref 457) (.ref 458) 459 785 "_law_made") ::
 (nat_lit 461,fE 722 460 qbE "law_onceroad_k45_papers_walked" "_law_made") ::
 (nat_lit 467,cE 788 290 2 462 (.ref 463) .none (.ref 464) (.ref 465) 466 796 "_law_bits") ::
 (nat_lit 468,fE 722 467 qbF "law_onceroad_k45_papers_walked" "_law_bits") ::
 (nat_lit 474,cE 799 296 2 469 (.ref 470) .none (.ref 471) (.ref 472) 473 811 "_law_table") ::
 (nat_lit 475,fE 722 474 qa4 "law_onceroad_k45_papers_walked" "_law_table") ::
 (nat_lit 479,cE 814 310 3 476 (.ref 477) .none .none .none 478 817 "_law_pieces") ::
 (nat_lit 480,fE 722 479 zc "law_onceroad_k45_papers_walked" "_law_pieces") ::
 (nat_lit 484,cE 820 323 3 481 (.ref 482) .none .none .none 483 823 "_law_some") ::
 (nat_lit 485,fE 722 484 qa2 "law_onceroad_k45_papers_walked" "_law_some") ::
 (nat_lit 489,cE 826 327 2 486 (.ref 487) .none .none .none 488 829 "_law_room") ::
 (nat_lit 490,fE 722 489 qa1 "law_onceroad_k45_papers_walked" "_law_room") ::
 (nat_lit 494,cE 832 329 4 491 (.ref 492) .none .none .none 493 835 "_law_greatest") ::
 (nat_lit 495,fE 722 494 jI "law_onceroad_k45_papers_walked" "_law_greatest") ::
 (nat_lit 501,cE 838 344 3 496 (.ref 497) .none (.ref 498) (.ref 499) 500 848 "_law_named") ::
 (nat_lit 502,fE 722 501 qa5 "law_onceroad_k45_papers_walked" "_law_named") ::
 (nat_lit 506,cE 851 350 3 503 (.ref 504) .none .none .none 505 854 "_law_lack") ::
 (nat_lit 507,fE 722 506 qau "law_onceroad_k45_papers_walked" "_law_lack") ::
 (nat_lit 511,cE 857 355 3 508 (.ref 509) .none .none .none 510 860 "_law_free") ::
 (nat_lit 512,fE 722 511 qa7 "law_onceroad_k45_papers_walked" "_law_free") ::
 (nat_lit 516,cE 863 358 2 513 (.ref 514) .none .none .none 515 866 "_law_near") ::
 (nat_lit 517,fE 722 516 qat "law_onceroad_k45_papers_walked" "_law_near") ::
 (nat_lit 521,cE 869 361 4 518 (.ref 519) .none .none .none 520 872 "_law_due") ::
 (nat_lit 522,fE 722 521 qal "law_onceroad_k45_papers_walked" "_law_due") ::
 (nat_lit 528,cE 875 376 3 523 (.ref 524) .none (.ref 525) (.ref 526) 527 883 "_law_said") ::
 (nat_lit 529,fE 722 528 qbI "law_onceroad_k45_papers_walked" "_law_said") ::
 (nat_lit 533,cE 886 387 5 530 (.ref 531) .none .none .none 532 889 "_law_met") ::
 (nat_lit 534,fE 722 533 qb5 "law_onceroad_k45_papers_walked" "_law_met") ::
 (nat_lit 538,cE 892 393 6 535 (.ref 536) .none .none .none 537 895 "_law_refused") ::
 (nat_lit 539,fE 722 538 zn "law_onceroad_k45_papers_walked" "_law_refused") ::
 (nat_lit 543,cE 898 412 1 540 (.ref 541) .none .none .none 542 901 "law") ::
 (nat_lit 544,fE 722 543 qdl "law_onceroad_k45_papers_walked" "law") ::
 []
noncomputable def ks:LI:=[1,2,3,34,35,37,38,95,96,149,150,152,153,168,169,171,172,180,181,187,188,192,193,199,200,206,207,211,212,218,219,225,226,230,231,237,238,242,243,256,257,263,264,270,271,284,285,291,292,298,299,305,306,312,313,319,320,326,327,338,339,343,344,367,368,378,379,385,386,392,393,399,400,406,407,413,414,420,421,427,428,434,435,439,440,446,447,453,454,460,461,467,468,474,475,479,480,484,485,489,490,494,495,501,502,506,507,511,512,516,517,521,522,528,529,533,534,538,539,543,544]
theorem ks_eq:∀ P,ks=(Kf P).map (·.1):=λP=>by kernel_rfl
abbrev Hk:Hook:=kHook Kf ks ks_eq
abbrev Xt(s:Shared):Bool:=xlAt Q [] s&&recOk [] s
abbrev sn(s:Shared):=openSeen Q [] (importedModules PySem.Challenge.pw_onceroad_k45_papers_walked.main.body) Xt true s
noncomputable def runA(w:World)(a:OsState):=(Hd.lookS PySem.Challenge.pw_onceroad_k45_papers_walked NN w a).map λs=>((sn s).1,(sn s).2.1,(sn s).2.2.1,(sn s).2.2.2.1)
noncomputable def runB(w:World)(a:OsState):=(Hd.lookS PySem.Challenge.pw_onceroad_k45_papers_walked NN w a).map λs=>(sn s).2.2.2.2
noncomputable def runC(w:World)(a:OsState):=(Hd.lookS PySem.Challenge.pw_onceroad_k45_papers_walked NN w a).map λs=>ks.map s.heap.get?
noncomputable def gdA(_:World)(_:OsState):=some ((openGood Q []).1,(openGood Q []).2.1,(openGood Q []).2.2.1,(openGood Q []).2.2.2.1)
noncomputable def gdB(_:World)(_:OsState):=some (openGood Q []).2.2.2.2
noncomputable def gdC(w:World)(_:OsState):=some ((Kf w.params).map λp=>some p.2)
noncomputable def tag{a:Type}(f g:World->OsState->a):Bool:=true
theorem tag1:(tag runA gdA&&(tag runB gdB&&tag runC runC))=true:=by k_qdec
theorem hA1(w:World)(a:OsState):runA w a=gdA w a:=by
 rw[PySem.W.Fast.te11420380446953889047,PySem.W.Fast.te5961988646569678809]
 kernel_rfl
theorem hB1(w:World)(a:OsState):runB w a=gdB w a:=by
 rw[PySem.W.Fast.te3636060945043857684,PySem.W.Fast.te8078771921443642390]
 kernel_rfl
theorem hC1(w:World)(a:OsState):runC w a=gdC w a:=by
 rw[PySem.W.Fast.te12438564148418449917]
 kernel_rfl
theorem hl:LeftO PySem.Challenge.pw_onceroad_k45_papers_walked Q [] Xt (Hook.obs Hk) (Hook.val Hk) NN:=Hd.left_of (by kernel_rfl) (by decide) (λs=>by kernel_rfl) λw a=>(Hd.lookT_map ..).trans (Hd.packs (hA1 w a) (hB1 w a) (hC1 w a))
end K45
namespace L2
open PySem PySem.Spec PyProof.Rows
variable{A:Around}{C a b dx it:Addr}{CX:CXT}{D:Ends}{E:Value->Shared->Prop}{H:Hp}{M:Model}{N ps:LS}{P:Program}{X:Cx}{base h:Heap}{body:List Stmt}{c e tg:Expr}{ch fp:LI}{d':Drawn}{es:List Expr}{f:Value->Value->Sem Value}{g:TG}{g':Array GenState}{i j n t':Nat}{kindOf:Str->Option NameKind}{kw:List (Str×Value)}{lo:Int}{mA mg:Str->Option Value}{o:HO}{op op':CmpOp}{outer:List Env}{p pos:Pos}{pins:List (Addr×Obj)}{qual x:Str}{r r':R2}{s s':Shared}{sc scope:Scope}{t te:TE}{ta:TA}{tb:TS}{tc:TT}{u:Value}{us:List Value}{v y:V}{vs xs:List V}{w:World}{α:Type}{σ:St}
abbrev Key:=Sum Int Str
def qdn:Key->Value->Bool
 | .inl k,v=>Value.isInt k v
 | .inr x,v=>Value.isStrOf x v
def keyH(w:World):Key->Int
 | .inl k=>hashInt k
 | .inr x=>hashStr w x
theorem qU:∀{k:Key} {v:Value},qdn k v=true->(∃ i t,k=Sum.inl i/\v=Value.int i t)\/(∃ x t,k=Sum.inr x/\v=Value.str x t)
 | .inl i,v,h=>by
  obtain⟨t,e⟩:=Value.isInt_shape (k:=i) (v:=v) h;show .inl ⟨i,t,rfl,e⟩
 | .inr x,v,h=>by
  obtain⟨t,e⟩:=Value.isStrOf_shape (x:=x) (v:=v) h;show .inr ⟨x,t,rfl,e⟩
theorem keyIs_int(i:Int)(t:Tok):qdn (.inl i) (.int i t)=true:=by simp[qdn,Value.isInt]
theorem keyIs_str(x:Str)(t:Tok):qdn (.inr x) (.str x t)=true:=by simp[qdn,Value.isStrOf]
theorem key_ll(a b:Int):decide ((Sum.inl a:Key)=Sum.inl b)=(a==b):=by
 by_cases e:a=b
 .subst e;simp
 .have h:¬ (Sum.inl a:Key)=Sum.inl b:=λq=>e (Sum.inl.inj q);rw[yl h];show(Yy.mpr e).symm
theorem key_rr(a b:Str):decide ((Sum.inr a:Key)=Sum.inr b)=decide (a=b):=by
 by_cases e:a=b
 .subst e;simp
 .have h:¬ (Sum.inr a:Key)=Sum.inr b:=λq=>e (kC q);rw[yl h,yl e]
theorem key_lr(a:Int)(b:Str):decide ((Sum.inl a:Key)=Sum.inr b)=false:=yl (λq=>nomatch q)
theorem key_rl(a:Str)(b:Int):decide ((Sum.inr a:Key)=Sum.inl b)=false:=yl (λq=>nomatch q)
def jc(prog:Program)(w:World):PySem.KeyKind prog w Key where
 is:=qdn
 hash:=keyH w
 inj:=λv a b c hb=>by
  rcases qU c with⟨i,t,rfl,rfl⟩ | ⟨x,t,rfl,rfl⟩
  .rcases qU hb with⟨j,u,rfl,e⟩ | ⟨y,u,rfl,e⟩
   .injection e with e1 _;rw[e1]
   .show nomatch e
  .rcases qU hb with⟨j,u,rfl,e⟩ | ⟨y,u,rfl,e⟩
   .show nomatch e
   .injection e with e1 _;rw[e1]
 byValue:=λk v h=>by
  rcases qU h with⟨i,t,rfl,rfl⟩ | ⟨x,t,rfl,rfl⟩<;>rfl
 pyHash:=λhv h=>by
  rcases qU hv with⟨i,t,rfl,rfl⟩ | ⟨x,t,rfl,rfl⟩
  .show wpAny_pyHash_int h
  .show wpAny_pyHash_str h
 eqBool:=λd hv h=>by
  rcases qU d with⟨i,t,rfl,rfl⟩ | ⟨x,t,rfl,rfl⟩
  .rcases qU hv with⟨j,u,rfl,rfl⟩ | ⟨y,u,rfl,rfl⟩
   .rw [key_ll] at h;show wpAny_eqBool_int h
   .rw [key_lr] at h;show SeqAt.EqAt.int_str i t y u _ _ _ _ h
  .rcases qU hv with⟨j,u,rfl,rfl⟩ | ⟨y,u,rfl,rfl⟩
   .rw [key_rl] at h;show SeqAt.EqAt.str_int x t j u _ _ _ _ h
   .rw [key_rr] at h;show wpAny_eqBool_str h
 «strs»:=λk x t v h=>by
  rcases qU h with⟨i,u,rfl,e⟩ | ⟨y,u,rfl,e⟩
  .show nomatch e
  .injection e with e1 _
   subst e1;cases v<;>rfl
theorem mixKind_int(prog:Program)(w:World)(i:Int)(t:Tok):(jc prog w).is (.inl i) (.int i t)=true:=keyIs_int i t
theorem mixKind_str(prog:Program)(w:World)(x:Str)(t:Tok):(jc prog w).is (.inr x) (.str x t)=true:=keyIs_str x t
inductive V where
 | non | bl (b:Bool) | int (i:Int) | str (x:Str) | byt (b:Array UInt8) | flt (b:UInt64) | ref (a:Addr) | ty (n:String)
 deriving DecidableEq
def RelV:V->Value->Prop
 | .non,u=>u=Value.none
 | .bl b,u=>u=Value.bool b
 | .int i,u=>∃ t,u=Value.int i t
 | .str x,u=>∃ t,u=Value.str x t
 | .byt b,u=>∃ t,u=Value.bytes b t
 | .flt b,u=>∃ t,u=Value.float b t
 | .ref a,u=>u=Value.ref a
 | .ty n,u=>u=Value.type n
abbrev Vals:List V->List Value->Prop:=Paired RelV
theorem Vals.length(r:Vals xs us):xs.length=us.length:=Paired.length r
theorem Vals.get:∀{xs:List V} {us:List Value} {i:Nat} {x:V},Vals xs us->xs[i]?=some x->∃ u,us[i]?=some u/\RelV x u
 | _,_,_,_,.nil,e=>by simp at e
 | _,_,0,_,.cons r _,e=>by simp at e;subst e;show⟨_,rfl,r⟩
 | _,_,i+1,x,.cons _ t,e=>by
  obtain⟨u,h1,a⟩:=Vals.get (i:=i) (x:=x) t (by simpa using e);show⟨u,by simpa using h1,a⟩
theorem Vals.set{x:V}(r:RelV x u):∀{xs:List V} {us:List Value} (i:Nat),Vals xs us->Vals (xs.set i x) (us.set i u)
 | _,_,_,.nil=>.nil
 | _,_,0,.cons _ t=>.cons r t
 | _,_,i+1,.cons q t=>.cons q (Vals.set r i t)
theorem Vals.append:∀{xs b:List V} {us a:List Value},Vals xs us->Vals b a->Vals (xs++b) (us++a)
 | _,_,_,_,.nil,s=>s
 | _,_,_,_,.cons r t,s=>.cons r (Vals.append t s)
theorem Vals.take:∀{xs:List V} {us:List Value} (n:Nat),Vals xs us->Vals (xs.take n) (us.take n)
 | _,_,0,_=>.nil
 | _,_,_+1,.nil=>.nil
 | _,_,n+1,.cons r t=>.cons r (Vals.take n t)
theorem Vals.drop:∀{xs:List V} {us:List Value} (n:Nat),Vals xs us->Vals (xs.drop n) (us.drop n)
 | _,_,0,r=>r
 | _,_,_+1,.nil=>.nil
 | _,_,n+1,.cons _ t=>Vals.drop n t
def RelO:Option V->Option Value->Prop
 | some v,some u=>RelV v u
 | none,none=>True
 | _,_=>False
def KV{a:Type}:List (a×V)->List (a×Value)->Prop:=Paired λ(p:a×V) (q:a×Value)=>p.1=q.1/\RelV p.2 q.2
def kV:Key->V
 | .inl i=>.int i
 | .inr x=>.str x
inductive HO where
 /-- a list -/
 | lst (xs:List V)
 /-- a tuple (never changes) -/
 | tup (xs:List V)
 /-- a dict whose keys are ints and texts;one whose keys are tuples of ints and texts (the empty one is both) -/
 | dK (kvs:List (Key×V)) | dT (kvs:List (List Key×V))
 /-- a set of ints: its members,its size -/
 | set (S:Int->Bool) (n:Nat)
 /-- an instance of the class at C,its dict at dx,its attributes -/
 | ins (C dx:Addr) (fs:List (Str×V))
 /-- the dict of the instance at x -/
 | own (x:Addr)
 /-- the dict of an exception -/
 | xd (fs:List (Str×V))
 /-- a bound method,f of x -/
 | met (f x:Addr)
 /-- a range object lo,lo+1,.. below hi -/
 | rng (lo hi:Int)
 /-- a thing that is known to the object (the script;a dict while a loop walks it): read,never written while it is so -/
 | frz (o:Obj) (u:HO)
 /-- a code object's table -/
 | tbl (ps:Array Value)
 /-- any other thing,by what is true of its one object (a def of one's own: SetO a S n:=HO.ext λh=>..) -/
 | ext (φ:Heap->Prop)
abbrev Hp:=Addr->Option HO
def upd(H:Hp)(a:Addr)(o:HO):Hp:=λb=>if b=a then some o else H b
theorem qb:upd H a o a=some o:=by unfold upd;rw[yH rfl]
theorem qi(h:b≠a):upd H a o b=H b:=by unfold upd;rw[yD h]
theorem qeJ{u:HO}(h:H a=some o)(h':H b=some u)(d:o≠u):a≠b:=by
 intro e;subst e;rw[h] at h';show d (ym h')
theorem qD(h:H a=some o)(h':H b=none):a≠b:=by
 intro e;subst e;rw[h] at h';cases h'
section
variable(P:Program)(w:World)
def ObjOk(H:Hp)(h:Heap)(a:Addr):HO->Prop
 | .lst xs=>xs.length<=sizeLine/\∃(b:List Value) (n:Nat),Vals xs b/\h.get? a=some { cls:=.type "list",data:=.seq b.toArray n }
 | .tup xs=>xs.length<=sizeLine/\∃ b:List Value,Vals xs b/\IsTup h a b.toArray
 | .dK kvs=>kvs.length<=sizeLine/\(a==sysModules)=false/\∃ vs,KV kvs vs/\h.DictOf (jc P w) a vs
 | .dT kvs=>kvs.length<=sizeLine/\(a==sysModules)=false/\∃ xs:List (List Key×Addr×Value),
   Paired (λ(p:List Key×V) (q:List Key×Addr×Value)=>p.1=q.1/\H q.2.1=some (.tup (p.1.map kV))/\RelV p.2 q.2.2) kvs xs /\
   ∃ o es ep,h.get? a=some o/\o.ExactDict/\o.data=.dict es ep/\es.toList=xs.map (entryOfKey (tupleKind (jc P w)))/\(xs.map (·.1)).Nodup
 | .set S n=>h.SetOf (intKind P w) a S n
 | .ins C dx fs=>H dx=some (.own a)/\fs.length<=1000/\dx≠a/\h.get? a=some (PySem.W.instObj C dx) /\
   ∃ mA,h.Ns1 dx mA/\(∀ f,RelO (fs.lookup f) (mA f))/\PySem.Within mA (fs.map (·.1))
 | .own _=>∃ o,h.get? a=some o
 | .xd fs=>∃ mA,h.Ns1 a mA/\∀ f,RelO (fs.lookup f) (mA f)
 | .rng lo hi=>∃ t u v,h.get? a=some { cls:=.type "range",data:=.fields #[.int lo t,.int hi u,.int 1 v] }
 | .frz o u=>h.get? a=some o/\ObjOk H h a u
 | .tbl ps=>h.get? a=some { cls:=.none,data:=.fields ps }
 | .met f x=>h.get? a=some (PySem.W.methodObj (.ref f) (.ref x))
 | .ext φ=>φ h/\(∃ o,h.get? a=some o)/\∀ h1 c:Heap,φ h1->(∀ o,h1.get? a=some o->c.get? a=some o)->φ c
def HOk(H:Hp)(h:Heap):Prop:=∀ a o,H a=some o->ObjOk P w H h a o
end
section
variable{P:Program}{w:World}{H H':Hp}{h h':Heap}{a:Addr}{o:HO}
theorem ObjOk.lt(x:ObjOk P w H h a o):a<h.objs.size:=by
 cases o with
 | lst xs=>obtain⟨_,_,_,_,e⟩:=x;show yU e
 | tup xs=>obtain⟨_,_,_,p⟩:=x;show p.lt
 | dK kvs=>obtain⟨_,_,_,_,o,_,_,e,_⟩:=x;show yU e
 | dT kvs=>obtain⟨_,_,_,_,o,_,_,e,_⟩:=x;show yU e
 | set S n=>obtain⟨o,_,_,_,e,_⟩:=x;show yU e
 | ins C dx fs=>obtain⟨_,_,_,e,_⟩:=x;show yU e
 | own y=>obtain⟨_,e⟩:=x;show yU e
 | xd fs=>obtain⟨_,⟨_,_,_,e,_⟩,_⟩:=x;show yU e
 | rng lo hi=>obtain⟨_,_,_,e⟩:=x;show yU e
 | frz ob u=>obtain⟨e,_⟩:=x;show yU e
 | tbl ps=>show yU (show h.get? a=some _ from x)
 | met f y=>show yU (show h.get? a=some _ from x)
 | ext φ=>obtain⟨_,⟨_,e⟩,_⟩:=x;show yU e
theorem Paired.mapP{c:Type}{F G:α->c->Prop}:∀{l₁:List α} {l₂:List c},Paired F l₁ l₂->(∀ a b,F a b->G a b)->Paired G l₁ l₂
 | _,_,.nil,_=>.nil
 | _,_,.cons r t,f=>.cons (f _ _ r) (Paired.mapP t f)
theorem ObjOk.stay(x:ObjOk P w H h a o)(k:∀ b u,(b=a\/H b=some (.own a))->h.get? b=some u->h'.get? b=some u)
  (l:∀ b,H b=some (.own a)->H' b=some (.own a)) (m:∀ b xs,H b=some (.tup xs)->H' b=some (.tup xs)):ObjOk P w H' h' a o:=by
 induction o with
 | lst xs=>obtain⟨z,i,n,r,e⟩:=x;show⟨z,i,n,r,k _ _ (.inl rfl) e⟩
 | tup xs=>obtain⟨z,i,r,g,e,c⟩:=x;show⟨z,i,r,g,k _ _ (.inl rfl) e,c⟩
 | dK kvs=>obtain⟨z,y,vs,r,g,es,ep,e,c⟩:=x;show⟨z,y,vs,r,g,es,ep,k _ _ (.inl rfl) e,c⟩
 | dT kvs =>
  obtain⟨z,y,xs,r,g,es,ep,e,c⟩:=x;show⟨z,y,xs,Paired.mapP r λp q z=>⟨z.1,m _ _ z.2.1,z.2.2⟩,g,es,ep,k _ _ (.inl rfl) e,c⟩
 | set S n=>obtain⟨g,es,ep,t,e,c⟩:=x;show⟨g,es,ep,t,k _ _ (.inl rfl) e,c⟩
 | ins C dx fs =>
  obtain⟨d,z,ne,e,mA,⟨od,es,ep,j,c⟩,r⟩:=x;show⟨l _ d,z,ne,k _ _ (.inl rfl) e,mA,⟨od,es,ep,k _ _ (.inr d) j,c⟩,r⟩
 | own y=>obtain⟨g,e⟩:=x;show⟨g,k _ _ (.inl rfl) e⟩
 | xd fs=>obtain⟨mA,⟨od,es,ep,e,c⟩,r⟩:=x;show⟨mA,⟨od,es,ep,k _ _ (.inl rfl) e,c⟩,r⟩
 | rng lo hi=>obtain⟨t,u,v,e⟩:=x;show⟨t,u,v,k _ _ (.inl rfl) e⟩
 | frz g u ih=>obtain⟨e,q⟩:=x;show⟨k _ _ (.inl rfl) e,ih q⟩
 | tbl ps =>
  have e:h.get? a=some { cls:=.none,data:=.fields ps }:=x;show h'.get? a=some { cls:=.none,data:=.fields ps };show k a _ (.inl rfl) e
 | met f y =>
  have e:h.get? a=some (PySem.W.methodObj (.ref f) (.ref y)):=x;show h'.get? a=some (PySem.W.methodObj (.ref f) (.ref y));show k a _ (.inl rfl) e
 | ext φ=>obtain⟨p,⟨o,e⟩,st⟩:=x;show⟨st _ _ p λo q=>k _ _ (.inl rfl) q,⟨o,k _ _ (.inl rfl) e⟩,st⟩
theorem HOk.lt(x:HOk P w H h)(e:H a=some o):a<h.objs.size:=(x a o e).lt
theorem HOk.fresh(x:HOk P w H h)(e:h.objs.size<=a):H a=none:=by
 cases q:H a with
 | none=>rfl
 | some u=>show absurd (yj (x.lt q) e) (YF _)
theorem HOk.kept(x:HOk P w H h)(k:∀ b u,h.get? b=some u->h'.get? b=some u):HOk P w H h':=λa o e =>
 (x a o e).stay (λb u _ q=>k b u q) (λ_ q=>q) λ_ _ q=>q
theorem HOk.laid(x:HOk P w H h)(k:∀ b u,h.get? b=some u->h'.get? b=some u)(f:h.objs.size<=a)(new:ObjOk P w (upd H a o) h' a o):HOk P w (upd H a o) h':=λb u e=>by
 have d:=x.fresh f;by_cases hb:b=a
 .subst hb;rw[qb] at e;cases e;show new
 .rw [qi hb] at e;show(x b u e).stay (λc v _ q=>k c v q) (λc q=>by rw[qi (qD q d)];show q) λc xs q=>by rw[qi (qD q d)];show q
end
def Rd(H:Hp)(a:Addr)(u:HO):Prop:=H a=some u\/∃ o,H a=some (.frz o u)
theorem Rd.ok{u:HO}(r:Rd H a u)(x:HOk P w H h):ObjOk P w H h a u:=by
 rcases r with r | ⟨o,r⟩
 .show x a u r
 .obtain⟨_,q⟩:=x a _ r;show q
def Mut:Option HO->Prop
 | some (.lst _)=>True
 | some (.dK _)=>True
 | some (.dT _)=>True
 | some (.set _ _)=>True
 | some (.ins _ _ _)=>True
 | some (.ext _)=>True
 | _=>False
section
variable{P:Program}{w:World}{H:Hp}{h h':Heap}{x e:Addr}{o':HO}
theorem HOk.write(ok:HOk P w H h)(g:Mut (H x))(j:e=x\/H e=some (.own x))(k:∀ b u,b≠e->h.get? b=some u->h'.get? b=some u)(i:∃ u,h'.get? e=some u)
  (new:ObjOk P w (upd H x o') h' x o'):HOk P w (upd H x o') h':=λb u q=>by
 have d:∀ c y,H c=some (.own y)->c≠x:=λc y r z=>by subst z;rw[r] at g;show g
 have f:∀ c xs,H c=some (.tup xs)->c≠x:=λc xs r z=>by subst z;rw[r] at g;show g
 by_cases hb:b=x
 .subst hb;rw[qb] at q;cases q;show new
 .rw [qi hb] at q;by_cases a:b=e
  .have l:H b=some (.own x):=by
    rcases j with z | z
    .show absurd (a.trans z) hb
    .rw [a];show z
   rw[q] at l;cases l;obtain⟨v,hv⟩:=i;show⟨v,by rw[a];show hv⟩
  .show(ok b u q).stay (λc v hc r=>k c v ?_ r) (λc r=>by rw[qi (d c b r)];show r) λc xs r=>by rw[qi (f c xs r)];show r
   rcases hc with rfl | hc
   .show a
   .rintro rfl;rcases j with z | z
    .show d c b hc z
    .rw [hc] at z;cases z;show hb rfl
end
structure Un(fs ex:LI)(H H':Hp)(h h':Heap):Prop where
 keep:∀ b o,h.get? b=some o->H b=none->b∉fs->b∉ex->h'.get? b=some o
 slot:∀ b o,h.get? b=some o->H b=none->b∈fs->b∉ex->∃ sl,h'.get? b=some { o with slots:=sl }
 free:∀ b o,h.get? b=some o->H b=none->b∉ex->H' b=none
 there:∀ b o,h.get? b=some o->b∉ex->∃ o',h'.get? b=some o'
 tups:∀ b xs,H b=some (.tup xs)->H' b=some (.tup xs)
 frzs:∀ b o u,H b=some (.frz o u)->H' b=some (.frz o u)
 tbls:∀ b ps,H b=some (.tbl ps)->∃ more,H' b=some (.tbl (ps++more))
section
variable{fs fs' ex ex':LI}{H H1 H2:Hp}{h h1 h2 h':Heap}{a x e:Addr}{o:HO}
theorem Un.any(u:Un fs ex H H1 h h1){a:Obj}(q:h.get? b=some a)(n:H b=none)(c:b∉ex):∃ d,h1.get? b=some { a with slots:=d }:=by
 by_cases hb:b∈fs
 .show u.slot b a q n hb c
 .show⟨a.slots,u.keep b a q n hb c⟩
theorem Un.kept(k:∀ b u,h.get? b=some u->h'.get? b=some u):Un fs ex H H h h':=
 ⟨λb a q _ _ _=>k b a q,λb a q _ _ _=>⟨a.slots,k b a q⟩,λ_ _ _ n _=>n,λb a q _=>⟨a,k b a q⟩,λ_ _ q=>q,λ_ _ _ q=>q,λ_ ps q=>⟨#[],by rw[q];simp⟩⟩
theorem Un.refl:Un fs ex H H h h:=Un.kept λ_ _ q=>q
theorem Un.laid(k:∀ b u,h.get? b=some u->h'.get? b=some u)(d:h.objs.size<=a)(c:H a=none):Un fs ex H (upd H a o) h h' where
 keep:=λb u q _ _ _=>k b u q
 slot:=λb u q _ _ _=>⟨u.slots,k b u q⟩
 free:=λb u q n _=>by rw[qi (Yl (yj (yU q) d))];show n
 there:=λb u q _=>⟨u,k b u q⟩
 tups:=λb xs q=>by rw[qi (qD q c)];show q
 frzs:=λb u xs q=>by rw[qi (qD q c)];show q
 tbls:=λb ps q=>⟨#[],by rw[qi (qD q c),q];simp⟩
theorem Un.write(c:Mut (H x))(i:e=x\/H e=some (.own x))(k:∀ b u,b≠e->h.get? b=some u->h'.get? b=some u)(d:∃ u,h'.get? e=some u):Un fs ex H (upd H x o) h h':=by
 have g:∀ b,H b=none->b≠x:=λb n z=>by subst z;rw[n] at c;show c
 have hb:∀ b,H b=none->b≠e:=λb n z=>by
  subst z;rcases i with r | r
  .show g b n r
  .rw [n] at r;cases r
 have f:∀ b u,H b=some u->¬ Mut (some u)->b≠x:=λb u q nm z=>by subst z;rw[q] at c;show nm c
 show⟨λb u q n _ _=>k b u (hb b n) q,λb u q n _ _=>⟨u.slots,k b u (hb b n) q⟩,λb u q n _=>by rw[qi (g b n)];show n,λb u q _=>?_,
  λb xs q=>by rw[qi (f b _ q λz=>z)];show q,λb u xs q=>by rw[qi (f b _ q λz=>z)];show q,λb ps q=>⟨#[],by rw[qi (f b _ q λz=>z),q];simp⟩⟩
 by_cases a:b=e
 .subst a;show d
 .show⟨u,k b u a q⟩
end
def trk(h:Heap)(H:Hp):LI:=(List.range h.objs.size).filter λa=>(H a).isSome
def qfA(h:Heap)(H:Hp):Heap:=PySem.W.hideAll h (trk h H)
theorem hidT_size(h:Heap)(H:Hp):(qfA h H).objs.size=h.objs.size:=PySem.W.hideAll_size _ _
theorem hidT_get{o:Obj}(e:h.get? b=some o)(n:H b=none):(qfA h H).get? b=some o:=
 PySem.W.hideAll_get _ e λa=>by
  have q:(H b).isSome=true:=(yp.mp a).2;rw[n] at q;simp at q
theorem of_hidT{o:Obj}(e:(qfA h H).get? b=some o):h.get? b=some o/\H b=none:=by
 have a:h.get? b=some o:=PySem.W.of_hideAll (trk h H) e;show⟨a,?_⟩
 cases q:H b with
 | none=>rfl
 | some x =>
  have c:b∈trk h H:=yp.mpr ⟨Yh.mpr (yU a),by simp[q]⟩;have z:(qfA h H).get? b=none:=PySem.W.hideAll_none (trk h H) c;rw[z] at e;cases e
def allNews(g h:Heap)(L:Addr):List (Addr×Obj):=(List.range h.objs.size).filterMap λa=>if a=L\/(g.get? a).isSome=true then none else(h.get? a).map λo=>(a,o)
def rest(g h:Heap)(L d:Addr):List (Addr×Obj):=(allNews g h L).filter λp=>decide (p.1≠d)
structure Mod(K:yg)(mg:Str->Option Value)(base:Heap):Prop where
 kin:K.In base
 glob:base.Ns mainGlobals mg
 blt:∃ mb,base.Ns builtinsNs mb/\∀ x:Str,x≠"__name__"->mb x=bootBuiltins x
 nolimit:base.NoLimit
structure Cx where
 prog:Program
 w:World
 K:yg
 mg:Str->Option Value
 base:Heap
 A:Around
 N:LS
 s₀:Shared
 H₀:Hp
 env:Env
 outer:List Env
 stack:List Env
 ex:LI
 fn:Str->Bool
 calm:Bool
 pn:List (Addr×Obj)
 xe:Value->Shared->Prop
def frs(l:List Env):LI:=l.filterMap (·.frame)
abbrev Cx.fs(X:Cx):LI:=frs X.outer
def Vis(sc:Scope)(x:Str):Prop:=sc.names.lookup x=some .local\/sc.names.lookup x=some .cell\/sc.names.lookup x=some .free
def Loc(sc:Scope)(x:Str):Prop:=sc.names.lookup x=some .local\/sc.names.lookup x=some .cell
def Look(env:Env)(h:Heap)(m:Str->Option Value)(x:Str)(u:Value):Prop:=
 (env.kindOf x=some .local/\m x=some u)\/((env.kindOf x=some .cell\/env.kindOf x=some .free)/\∃ c,env.cells.lookup x=some c/\h.IsCell c (some u))
structure Cx.Ok(X:Cx):Prop where
 mod:Mod X.K X.mg X.base
 kind:X.env.scope.kind=.function
 glob:X.env.globals=mainGlobals
 blt:X.env.builtins=builtinsNs
 above:X.s₀.heap.objs.size<=X.env.locals
 inj:∀ x y c,X.env.cells.lookup x=some c->X.env.cells.lookup y=some c->x=y
 has:∀ x,(X.env.kindOf x=some .cell\/X.env.kindOf x=some .free)->∃ c,X.env.cells.lookup x=some c
 cab:∀ x c,X.fn x=true->X.env.cells.lookup x=some c->X.s₀.heap.objs.size<=c
 hd:X.calm=true->X.A.handled=none
 frames:X.A.frames=some X.stack
 stk:X.stack=X.outer\/(X.stack=X.env::X.outer/\X.env.frame=some X.env.locals)
 exf:∀ b∈X.ex,b≠X.env.locals/\∀ x c,X.env.cells.lookup x=some c->c≠b
 bs:∀ b o,X.base.get? b=some o->X.s₀.heap.get? b=some o/\X.H₀ b=none
 bsz:X.base.objs.size<=X.s₀.heap.objs.size
 noex:∀ b o,X.base.get? b=some o->b∉X.ex
 exfs:∀ b∈X.ex,b∉X.fs
 funs:X.s₀.heap.FunFrames X.base X.outer
 frf:∀ b∈X.fs,X.H₀ b=none
structure Inv(X:Cx)(pins:List (Addr×Obj))(σ:List (Option V))(H:Hp)(s:Shared):Prop where
 ok:X.Ok
 os:s.os=X.s₀.os
 bare:AllBare s.gens
 base:Un X.fs X.ex X.H₀ H X.s₀.heap s.heap
 loc:∃ m,s.heap.Ns X.env.locals m/\∀(i:Nat) (x:Str) (v:V),X.N[i]?=some x->σ[i]?=some (some v)->Vis X.env.scope x->∃ u,RelV v u/\Look X.env s.heap m x u
 cell:∀ x c,X.env.cells.lookup x=some c->∃ v,s.heap.IsCell c v
 free:H X.env.locals=none
 freeC:∀ x c,X.env.cells.lookup x=some c->H c=none
 pin:∀ p∈X.pn++pins,s.heap.get? p.1=some p.2/\H p.1=none/\p.1≠X.env.locals/\p.1∉X.fs/\∀ v,p.2.data≠.cell v
 hok:HOk X.prog X.w H s.heap
 len:σ.length=X.N.length
section
variable{X:Cx}{pins:List (Addr×Obj)}{σ:List (Option V)}{H H':Hp}{s:Shared}{h':Heap}
theorem Cx.Ok.nofr(ok:X.Ok){o:Obj}(e:X.base.get? b=some o):b∉X.fs:=λhb=>by
 have:=(ok.funs.mem hb).1;rw[e] at this;cases this
theorem Inv.bs(I:Inv X pins σ H s):∀ b o,X.base.get? b=some o->s.heap.get? b=some o/\H b=none:=λb o e =>
 ⟨I.base.keep b o (I.ok.bs b o e).1 (I.ok.bs b o e).2 (I.ok.nofr e) (I.ok.noex b o e),I.base.free b o (I.ok.bs b o e).1 (I.ok.bs b o e).2 (I.ok.noex b o e)⟩
theorem Inv.bk(I:Inv X pins σ H s):∀ b o,X.base.get? b=some o->s.heap.get? b=some o:=λb o e=>(I.bs b o e).1
theorem Inv.mod(I:Inv X pins σ H s):Mod X.K X.mg X.base:=I.ok.mod
theorem Inv.kIn(I:Inv X pins σ H s):X.K.In s.heap:=I.ok.mod.kin.keeps I.bk
theorem Inv.lt(I:Inv X pins σ H s):X.env.locals<s.heap.objs.size:=let ⟨_,hn,_⟩:=I.loc;hn.lt
theorem Inv.sz(I:Inv X pins σ H s):X.s₀.heap.objs.size<=s.heap.objs.size:=yi I.ok.above (yN I.lt)
theorem Inv.nofs(I:Inv X pins σ H s)(h:s.heap.objs.size<=a):a∉X.fs:=λhb=>by
 obtain⟨_,o,b,_⟩:=I.ok.funs.mem hb;show absurd (yj (yU b) (yi I.sz h)) (YF _)
theorem Inv.cne(I:Inv X pins σ H s):∀ x c,X.env.cells.lookup x=some c->c≠X.env.locals:=λx c e z=>by
 obtain⟨v,o,f,d⟩:=I.cell x c e;obtain⟨m,⟨g,es,ep,b,a,_⟩,_⟩:=I.loc;rw[z,b] at f;cases f;rw[a] at d;cases d
theorem Inv.funs(I:Inv X pins σ H s):s.heap.FunFrames X.base X.outer:=by
 have all:∀(l:List Env),(∀ b∈frs l,b∈X.fs)->X.s₀.heap.FunFrames X.base l->s.heap.FunFrames X.base l:=by
  intro l
  induction l with
  | nil=>intro _ _;trivial
  | cons env r ih =>
   intro d hl;obtain⟨g,⟨L,o,c,h,i,f⟩,j⟩:=hl;have a:L∈X.fs:=d L (by unfold frs;rw[XI,c];show yM);obtain⟨m,e⟩:=I.base.slot L o i (I.ok.frf L a) a λz=>I.ok.exfs L z a;show⟨g,⟨L,_,c,h,e,f⟩,ih (λb hb=>d b (by unfold frs;rw[XI,c];show yy _ hb)) j⟩
 show all X.outer (λ_ hb=>hb) I.ok.funs
theorem Inv.stack(I:Inv X pins σ H s):s.heap.FunFrames X.base X.stack:=by
 rcases I.ok.stk with e | ⟨e,hf⟩
 .rw [e];show I.funs
 .rw [e];obtain⟨m,a,_⟩:=I.loc;show .cons (by rw[I.ok.kind];decide) hf a ?_ I.funs;show Heap.get?_none_of_le (yi I.ok.bsz I.ok.above)
theorem Inv.stkSub(I:Inv X pins σ H s):∀ b∈frs X.stack,b∈X.env.locals::X.fs:=λb hb=>by
 rcases I.ok.stk with e | ⟨e,hf⟩
 .rw [e] at hb;show yy _ hb
 .rw [e] at hb;unfold frs at hb;rw[XI,hf] at hb;show hb
theorem Inv.stkFree(I:Inv X pins σ H s):∀ b∈frs X.stack,H b=none:=λb hb=>by
 rcases yv.mp (I.stkSub b hb) with e | hb
 .rw [e];show I.free
 .obtain⟨_,o,a,_⟩:=I.ok.funs.mem hb;show I.base.free b o a (I.ok.frf b hb) λz=>I.ok.exfs b z hb
theorem Inv.step(I:Inv X pins σ H s)
  (f:∀ b∈ch,(b∈X.ex\/X.s₀.heap.objs.size<=b)/\b≠X.env.locals/\(∀ x c,X.env.cells.lookup x=some c->c≠b)/\∀ p∈X.pn++pins,p.1≠b)
  (keep:∀ b o,b≠X.env.locals->b∉X.fs->b∉ch->s.heap.get? b=some o->H b=none->h'.get? b=some o)
  (t:∀ b o,b≠X.env.locals->b∈X.fs->b∉ch->s.heap.get? b=some o->H b=none->∃ M,h'.get? b=some { o with slots:=M }) (free:∀ b o,b∉ch->s.heap.get? b=some o->H b=none->H' b=none)
  (y:∀ b o,b∉ch->s.heap.get? b=some o->∃ F,h'.get? b=some F)
  (J:∀ b xs,H b=some (.tup xs)->H' b=some (.tup xs)) (C:∀ b o u,H b=some (.frz o u)->H' b=some (.frz o u)) (G:∀ b ps,H b=some (.tbl ps)->∃ D,H' b=some (.tbl (ps++D)))
  (ns:∀ m,s.heap.Ns X.env.locals m->h'.Ns X.env.locals m) (L:HOk X.prog X.w H' h') (S:AllBare g') :
  Inv X pins σ H' { s with heap:=h',gens:=g',drawn:=d',toks:=t' }:=by
 have E:∀ b o,X.s₀.heap.get? b=some o->b≠X.env.locals:=λb o e=>Yl (yj (yU e) I.ok.above)
 have j:∀ b o,X.s₀.heap.get? b=some o->b∉X.ex->b∉ch:=λb o e a hb=>by
  rcases(f b hb).1 with z | z
  .show a z
  .show absurd (yj (yU e) z) (YF _)
 have cellK:∀ x c,X.env.cells.lookup x=some c->∀ v,s.heap.IsCell c v->h'.IsCell c v:=λx c e v ⟨o,A,K⟩=>by
  have g:c∉ch:=λz=>(f c z).2.2.1 x c e rfl;by_cases hc:c∈X.fs
  .obtain⟨M,q⟩:=t c o (I.cne x c e) hc g A (I.freeC x c e);show⟨_,q,K⟩
  .show⟨o,keep c o (I.cne x c e) hc g A (I.freeC x c e),K⟩
 show⟨I.ok,I.os,S,⟨λb o e n hb a=>?_,λb o e n hb a=>?_,λb o e n a=>?_,λb o e a=>?_,λb xs e=>J b xs (I.base.tups b xs e),λb o xs e=>C b o xs (I.base.frzs b o xs e),λb ps e=>?_⟩,?_,λx c e=>?_,?_,λx c e=>?_,λp O=>?_,L,I.len⟩
 .show keep b o (E b o e) hb (j b o e a) (I.base.keep b o e n hb a) (I.base.free b o e n a)
 .obtain⟨M,h⟩:=I.base.slot b o e n hb a;obtain⟨N,B⟩:=t b _ (E b o e) hb (j b o e a) h (I.base.free b o e n a);show⟨N,B⟩
 .obtain⟨F,h⟩:=I.base.there b o e a;show free b F (j b o e a) h (I.base.free b o e n a)
 .obtain⟨F,h⟩:=I.base.there b o e a;show y b F (j b o e a) h
 .obtain⟨U,h⟩:=I.base.tbls b ps e;obtain⟨W,B⟩:=G b _ h;show⟨U++W,by rw[B,Array.append_assoc]⟩
 .obtain⟨m,T,hl⟩:=I.loc;show⟨m,ns m T,λi x v h B R=>?_⟩;obtain⟨u,r,l⟩:=hl i x v h B R;show⟨u,r,?_⟩;rcases l with l | ⟨k,c,e,z⟩
  .show .inl l
  .show .inr ⟨k,c,e,cellK x c e _ z⟩
 .obtain⟨v,z⟩:=I.cell x c e;show⟨v,cellK x c e v z⟩
 .obtain⟨m,⟨o,_,_,A,_⟩,_⟩:=I.loc;show free _ o (λz=>(f _ z).2.1 rfl) A I.free
 .obtain⟨v,o,A,K⟩:=I.cell x c e;show free c o (λz=>(f c z).2.2.1 x c e rfl) A (I.freeC x c e)
 .obtain⟨e,n,ne,P,d⟩:=I.pin p O;have g:p.1∉ch:=λz=>(f p.1 z).2.2.2 p O rfl;show⟨keep p.1 p.2 ne P g e n,free p.1 p.2 g e n,ne,P,d⟩
theorem Inv.un(I:Inv X pins σ H s)(u:Un X.fs [] H H' s.heap h')(f:HOk X.prog X.w H' h'):Inv X pins σ H' { s with heap:=h',toks:=t' }:=by
 obtain⟨m,⟨o,es,ep,g,r⟩,_⟩:=id I.loc;obtain⟨p,h⟩:=u.any g I.free (by simp)
 show I.step (g':=s.gens) (d':=s.drawn) (ch:=[]) (λ_ z=>nomatch z) (λb o _ hb _ e n=>u.keep b o e n hb (by simp)) (λb o _ hb _ e n=>u.slot b o e n hb (by simp)) (λb o _ e n=>u.free b o e n (by simp)) (λb o _ e=>u.there b o e (by simp)) u.tups u.frzs u.tbls (λj i=>by
  obtain⟨l,d,c,a,r'⟩:=i;rw[g] at a;cases a;show⟨_,d,c,h,r'⟩) f I.bare
theorem Inv.call(I:Inv X pins σ H s)(u:Un (frs X.stack) ch H H' s.heap h')(i:HOk X.prog X.w H' h')(l:AllBare g')
  (a:∀ b∈ch,(b∈X.ex\/X.s₀.heap.objs.size<=b)/\b≠X.env.locals/\(∀ x c,X.env.cells.lookup x=some c->c≠b)/\∀ p∈X.pn++pins,p.1≠b) :
  Inv X pins σ H' { s with heap:=h',gens:=g',drawn:=d',toks:=t' }:=by
 obtain⟨m,⟨o,es,ep,j,r⟩,_⟩:=id I.loc;obtain⟨y,h⟩:=u.any j I.free λz=>(a _ z).2.1 rfl
 show I.step (ch:=ch) a (λb o h hb hc e n=>u.keep b o e n (λz=>(yv.mp (I.stkSub b z)).elim h hb) hc) (λb o _ _ hc e n=>u.any e n hc) (λb o hc e n=>u.free b o e n hc) (λb o hc e=>u.there b o e hc) u.tups u.frzs u.tbls (λt q=>by
  obtain⟨v,g,f,d,r'⟩:=q;rw[j] at d;cases d;show⟨_,g,f,h,r'⟩) i l
theorem Inv.turned(I:Inv X pins σ H s)(k:∀ b o,b≠it->s.heap.get? b=some o->h'.get? b=some o)(i:H it=none)(d:it≠X.env.locals)
  (h1:it∈X.ex\/X.s₀.heap.objs.size<=it) (f:∀ x c,X.env.cells.lookup x=some c->c≠it) (g:∀ p∈X.pn++pins,p.1≠it):Inv X pins σ H { s with heap:=h',toks:=t' }:=by
 have a:∀ b u,H b=some u->b≠it:=λb u e z=>by rw[z,i] at e;cases e
 show I.step (g':=s.gens) (d':=s.drawn) (ch:=[it]) (λb hb=>?_) (λb o _ _ hc e _=>k b o (λz=>hc (by simp[z])) e) (λb o _ _ hc e _=>⟨o.slots,k b o (λz=>hc (by simp[z])) e⟩) (λ_ _ _ _ n=>n)
  (λb o hc e=>⟨o,k b o (λz=>hc (by simp[z])) e⟩) (λ_ _ e=>e) (λ_ _ _ e=>e) (λb ps e=>⟨#[],by rw[e];simp⟩) (λm h=>?_) (λb u e=>?_) I.bare
 .have e:b=it:=by simpa using hb
  subst e;show⟨h1,d,f,g⟩
 .obtain⟨o,es,ep,j,r⟩:=h;show⟨o,es,ep,k _ o (YI d) j,r⟩
 .show(I.hok b u e).stay (λc v hc q=>k c v ?_ q) (λ_ q=>q) λ_ _ q=>q;rcases hc with z | z
  .rw [z];show a b u e
  .show a c _ z
theorem Inv.tok(I:Inv X pins σ H s)(t:Nat):Inv X pins σ H { s with toks:=t }:=I.un (h':=s.heap) (t':=t) Un.refl I.hok
theorem Inv.kept(I:Inv X pins σ H s)(k:∀ b u,s.heap.get? b=some u->h'.get? b=some u):Inv X pins σ H { s with heap:=h',toks:=t' }:=I.un (Un.kept k) (I.hok.kept k)
theorem Inv.laid(I:Inv X pins σ H s)(k:∀ b u,s.heap.get? b=some u->h'.get? b=some u)(c:s.heap.objs.size<=a)(new:ObjOk X.prog X.w (upd H a o) h' a o) :
  Inv X pins σ (upd H a o) { s with heap:=h',toks:=t' }:=I.un (Un.laid k c (I.hok.fresh c)) (I.hok.laid k c new)
theorem Inv.write{x e:Addr}(I:Inv X pins σ H s)(d:Mut (H x))(c:e=x\/H e=some (.own x))(k:∀ b u,b≠e->s.heap.get? b=some u->h'.get? b=some u)(a:∃ u,h'.get? e=some u)
  (new:ObjOk X.prog X.w (upd H x o) h' x o):Inv X pins σ (upd H x o) { s with heap:=h',toks:=t' }:=I.un (Un.write d c k a) (I.hok.write d c k a new)
theorem Inv.weak{a:List (Option V)}(I:Inv X pins σ H s)(hl:a.length=σ.length)(w:∀(i:Nat) v,a[i]?=some (some v)->σ[i]?=some (some v)):Inv X pins a H s:=
 ⟨I.ok,I.os,I.bare,I.base,let ⟨m,hn,hl'⟩:=I.loc;⟨m,hn,λi x v b c d=>hl' i x v b (w i v c) d⟩,I.cell,I.free,I.freeC,I.pin,I.hok,hl.trans I.len⟩
theorem Inv.pins_of{pins':List (Addr×Obj)}(I:Inv X pins σ H s)(h:∀ p∈pins',s.heap.get? p.1=some p.2/\H p.1=none/\p.1≠X.env.locals/\p.1∉X.fs/\∀ v,p.2.data≠.cell v):Inv X pins' σ H s:=
 ⟨I.ok,I.os,I.bare,I.base,I.loc,I.cell,I.free,I.freeC,λp a=>(yG.mp a).elim (λz=>I.pin p (Yd _ z)) (h p),I.hok,I.len⟩
theorem qcm(e:N.Nodup)(a:N[i]?=some x)(b:N[j]?=some x):i=j:=by
 obtain⟨h1,c⟩:=yc.mp a;obtain⟨f,d⟩:=yc.mp b;show(List.getElem_inj e).mp (c.trans d.symm)
theorem qcO{Q:Unit->Shared->Prop}(I:Inv X pins σ H s)(hN:X.N.Nodup)(O:X.N[i]?=some x)(t:Loc X.env.scope x)(r:RelV v u)
  (h:∀ s',Inv X pins (σ.set i (some v)) H s'->(∃ a,Heap.SameBut a s.heap s'.heap/\(a=X.env.locals\/X.env.cells.lookup x=some a))->Q () s') (hf:X.fn x=true\/X.env.scope.names.lookup x=some .local:=by first | show .inl rfl | show .inr rfl | assumption):wpAny M A (storeName X.env x u) Q E s:=by
 obtain⟨m,W,hl⟩:=id I.loc;have L:(X.env.scope.kind==.class||(X.env.scope.kind==.module&&X.env.locals != X.env.globals))=false:=by rw[I.ok.kind];rfl
 have D:i<σ.length:=by rw[I.len];show(yc.mp O).1
 have cne:=I.cne
 have l:∀{a:Addr} {h':Heap},(∃ o,s.heap.get? a=some o/\H a=none)->Heap.SameBut a s.heap h'->HOk X.prog X.w H h':=λ{a h'} ha f b ob e=>by
  obtain⟨_,_,B⟩:=ha;show(I.hok b ob e).stay (λc T hc q=>(f.2 c ?_).trans q) (λ_ q=>q) λ_ _ q=>q;rintro rfl;rcases hc with rfl | hc
  .rw [B] at e;cases e
  .rw [B] at hc;cases hc
 rcases t with hk | hk
 .show wpAny_storeName_local hk W (λh' Y f=>?_) L;obtain⟨oL,_,_,Z,_⟩:=id W;show h _ ⟨I.ok,I.os,I.bare,⟨λb o e n hb t=>?_,λb o e n hb t=>?_,I.base.free,λb o e t=>?_,I.base.tups,I.base.frzs,I.base.tbls⟩,⟨_,Y,λj y v' g C U=>?_⟩,λy c e=>?_,I.free,I.freeC,λp hp=>?_,l ⟨oL,Z,I.free⟩ f,by simpa using I.len⟩ ⟨_,f,.inl rfl⟩
  .show(f.2 b (Yl (yj (yU e) I.ok.above))).trans (I.base.keep b o e n hb t)
  .obtain⟨sl,g⟩:=I.base.slot b o e n hb t;show⟨sl,(f.2 b (Yl (yj (yU e) I.ok.above))).trans g⟩
  .obtain⟨o',g⟩:=I.base.there b o e t;show⟨o',(f.2 b (Yl (yj (yU e) I.ok.above))).trans g⟩
  .by_cases G:j=i
   .subst G;rw[O] at g;cases g;rw[Xl D] at C;cases C;show⟨u,r,.inl ⟨hk,by simp⟩⟩
   .rw [Xx (YI G)] at C;obtain⟨u',r',q⟩:=hl j y v' g C U;show⟨u',r',?_⟩;rcases q with⟨k,e⟩ | ⟨k,c,e,z⟩
    .show .inl ⟨k,?_⟩;have:y≠x:=λe=>G (qcm hN g (e ▸ O));simp[this,e]
    .show .inr ⟨k,c,e,z.sameBut f (cne y c e)⟩
  .obtain⟨T,z⟩:=I.cell y c e;show⟨T,z.sameBut f (cne y c e)⟩
  .obtain⟨e,n,ne,nf,d⟩:=I.pin p hp;show⟨(f.2 p.1 ne).trans e,n,ne,nf,d⟩
 .have F:X.fn x=true:=by
   rcases hf with z | z
   .show z
   .rw [z] at hk;cases hk
  obtain⟨c,hc⟩:=I.ok.has x (.inl hk);obtain⟨T,z⟩:=I.cell x c hc;show wpAny_storeName_cell I.ok.kind hk hc z (λh' J f=>?_);obtain⟨oc,P,R⟩:=id z;show h { s with heap:=h' } ⟨I.ok,I.os,I.bare,⟨λb o e n hb t=>?_,λb o e n hb t=>?_,I.base.free,λb o e t=>?_,I.base.tups,I.base.frzs,I.base.tbls⟩,⟨m,W.sameBut f (YI (cne x c hc)),λj y v' g C U=>?_⟩,λy S e=>?_,I.free,I.freeC,λp hp=>?_,l ⟨oc,P,I.freeC x c hc⟩ f,by simpa using I.len⟩ ⟨c,f,.inr hc⟩
  .show(f.2 b (Yl (yj (yU e) (I.ok.cab x c F hc)))).trans (I.base.keep b o e n hb t)
  .obtain⟨sl,g⟩:=I.base.slot b o e n hb t;show⟨sl,(f.2 b (Yl (yj (yU e) (I.ok.cab x c F hc)))).trans g⟩
  .obtain⟨o',g⟩:=I.base.there b o e t;show⟨o',(f.2 b (Yl (yj (yU e) (I.ok.cab x c F hc)))).trans g⟩
  .by_cases G:j=i
   .subst G;rw[O] at g;cases g;rw[Xl D] at C;cases C;show⟨u,r,.inr ⟨.inl hk,c,hc,J⟩⟩
   .rw [Xx (YI G)] at C;obtain⟨u',r',q⟩:=hl j y v' g C U;show⟨u',r',?_⟩;rcases q with q | ⟨k,S,e,z'⟩
    .show .inl q
    .show .inr ⟨k,S,e,z'.sameBut f ?_⟩;rintro rfl;show G (qcm hN g (I.ok.inj _ _ _ e hc ▸ O))
  .by_cases K:S=c
   .subst K;show⟨_,J⟩
   .obtain⟨w2,z2⟩:=I.cell y S e;show⟨w2,z2.sameBut f K⟩
  .obtain⟨e,n,ne,nf,d⟩:=I.pin p hp;show⟨(f.2 p.1 ?_).trans e,n,ne,nf,d⟩;intro q;rw[q,P] at e;have q':oc=p.2:=ym e;show d T (by rw[<- q'];show R)
theorem qbs{Q:Unit->Shared->Prop}(I:Inv X pins σ H s)(b:X.N.Nodup)(d:X.N[i]?=some x)(e:Loc X.env.scope x)(r:RelV v u)
  (h:∀ s',Inv X pins (σ.set i (some v)) H s'->Q () s') (c:X.fn x=true\/X.env.scope.names.lookup x=some .local:=by first | show .inl rfl | show .inr rfl | assumption):wpAny M A (storeName X.env x u) Q E s:=
 qcO I b d e r (λs' a _=>h s' a) c
theorem Inv.call'(I:Inv X pins σ H s)(g:s'.os=s.os)(u:Un (frs X.stack) ch H H' s.heap s'.heap)(d:HOk X.prog X.w H' s'.heap)(f:AllBare s'.gens)
  (a:∀ b∈ch,(b∈X.ex\/X.s₀.heap.objs.size<=b)/\b≠X.env.locals/\(∀ x c,X.env.cells.lookup x=some c->c≠b)/\∀ p∈X.pn++pins,p.1≠b):Inv X pins σ H' s':=by
 obtain⟨h',g',d',t',h⟩:=s';have e:h=s.os:=g;subst e;show I.call (g':=g') (t':=t') (d':=d') u d f a
end
abbrev XK:=Value->Option Addr->Hp->Prop
abbrev St:=List (Option V)
abbrev VK:=V->Hp->Prop
abbrev TE:=St->Hp->VK->Prop
abbrev TT:=St->Hp->(Bool->Hp->Prop)->Prop
abbrev TA:=St->Hp->(List V->Hp->Prop)->Prop
structure Ends where
 nx:St->Hp->Prop
 rt:VK
 bk:St->Hp->Prop:=λ_ _=>False
 ct:St->Hp->Prop:=λ_ _=>False
abbrev TS:=Ends->St->Hp->Prop
def EP(X:Cx)(pins:List (Addr×Obj))(σ:St)(Q:VK)(u:Value)(s':Shared):Prop:=∃ v H',Inv X pins σ H' s'/\RelV v u/\Q v H'
def TP(X:Cx)(pins:List (Addr×Obj))(σ:St)(Q:Bool->Hp->Prop)(b:Bool)(s':Shared):Prop:=∃ H',Inv X pins σ H' s'/\Q b H'
def AP(X:Cx)(pins:List (Addr×Obj))(σ:St)(Q:List V->Hp->Prop)(us:List Value)(s':Shared):Prop:=∃ vs H',Inv X pins σ H' s'/\Vals vs us/\Q vs H'
def SP(X:Cx)(pins:List (Addr×Obj))(D:Ends)(f:Flow)(s':Shared):Prop:=
 match f with
 | .next=>∃ a H',Inv X pins a H' s'/\D.nx a H'
 | .brk=>∃ a H',Inv X pins a H' s'/\D.bk a H'
 | .cont=>∃ a H',Inv X pins a H' s'/\D.ct a H'
 | .ret u=>∃ v a H',Inv X pins a H' s'/\RelV v u/\D.rt v H'
def PE(X:Cx)(e:Expr)(t:TE):Prop:=
 ∀(pins:List (Addr×Obj)) (s:Shared) (σ:St) (H:Hp) (Q:VK),Inv X pins σ H s->t σ H Q->wpAny (model X.prog X.w) X.A (eval e X.env) (EP X pins σ Q) X.xe s
def PT(X:Cx)(e:Expr)(t:TT):Prop:=
 ∀(pins:List (Addr×Obj)) (s:Shared) (σ:St) (H:Hp) (Q:Bool->Hp->Prop),Inv X pins σ H s->t σ H Q->wpAny (model X.prog X.w) X.A (isTrue e X.env (eval e X.env)) (TP X pins σ Q) X.xe s
def PW(X:Cx)(e:Expr)(t:TT):Prop:=
 ∀(a:Sem Value) (pins:List (Addr×Obj)) (s:Shared) (σ:St) (H:Hp) (Q:Bool->Hp->Prop),Inv X pins σ H s->t σ H Q->wpAny (model X.prog X.w) X.A (isTrue e X.env a) (TP X pins σ Q) X.xe s
theorem PW.pt{t:TT}(h:PW X e t):PT X e t:=h _
def PA(X:Cx)(es:List Expr)(t:TA):Prop:=
 ∀(pos:Pos) (pins:List (Addr×Obj)) (s:Shared) (σ:St) (H:Hp) (Q:List V->Hp->Prop),Inv X pins σ H s->t σ H Q->wpAny (model X.prog X.w) X.A (spliced (backTo pos (starEach es X.env))) (AP X pins σ Q) X.xe s
def PS(X:Cx)(st:Stmt)(t:TS):Prop:=
 ∀(pins:List (Addr×Obj)) (s:Shared) (σ:St) (H:Hp) (D:Ends),Inv X pins σ H s->t D σ H->wpAny (model X.prog X.w) X.A (exec st X.env) (SP X pins D) X.xe s
def PSs(X:Cx)(st:List Stmt)(t:TS):Prop:=
 ∀(pins:List (Addr×Obj)) (s:Shared) (σ:St) (H:Hp) (D:Ends),Inv X pins σ H s->t D σ H->wpAny (model X.prog X.w) X.A (execs st X.env) (SP X pins D) X.xe s
theorem thn{t:Sem α}{Q b:α->Shared->Prop}(h:wpAny M A t Q E s)(c:∀ a s,Q a s->b a s):wpAny M A t b E s:=YJ h c λ_ _ x=>x
section
variable{X:Cx}
def qg1(i:Nat):TE:=fun σ H Q=>∃ v,σ[i]?=some (some v)/\Q v H
def tC(v:V):TE:=λ_ H Q=>Q v H
theorem pe_var(g:X.N[i]?=some x)(hv:Vis X.env.scope x)(f:(x==("__debug__":Str))=false:=by decide)(d:(x==("__classdict__":Str))=false:=by decide):PE X (.Name x pos) (qg1 i):=by
 intro pins s σ H Q I h;obtain⟨v,e,h⟩:=h;obtain⟨m,n,hl⟩:=I.loc;obtain⟨u,r,l⟩:=hl i x v g e hv;have b:EP X pins σ Q u s:=⟨v,H,I,r,h⟩;rcases l with⟨hk,j⟩ | ⟨hk,c,hc,a⟩
 .show wpAny_Name (wpAny_loadName_local I.ok.kind hk n j b) f
 .rcases hk with hk | hk
  .show wpAny_Name (wpAny_loadName_cell I.ok.kind hk hc a b) f
  .show wpAny_Name (wpAny_loadName_free I.ok.kind hk hc a b d) f
theorem qf{i j pos}:PE X (.Constant (.int i) j pos) (tC (.int i)):=λ_ _ _ H _ I h=>wpAny_Constant_int ⟨.int i,H,I.tok _,⟨_,rfl⟩,h⟩
theorem ju{b j pos}:PE X (.Constant (.bool b) j pos) (tC (.bl b)):=λ_ _ _ H _ I h=>Constant_bool ⟨.bl b,H,I,rfl,h⟩
theorem qcP{j pos}:PE X (.Constant .none j pos) (tC .non):=λ_ _ _ H _ I h=>Constant_none ⟨.non,H,I,rfl,h⟩
theorem qI{x j pos}:PE X (.Constant (.str x) j pos) (tC (.str x)):=λ_ _ _ H _ I h=>Calls.Constant_str ⟨.str x,H,I.tok _,⟨_,rfl⟩,h⟩
def Gl(X:Cx)(x:Str):Prop:=X.env.kindOf x=some .globalImplicit
theorem qab{Q:Value->Shared->Prop}(I:Inv X pins σ H s)(b:Gl X x)(c:X.mg x=some u)(h:Q u s)
  (a:(x==("__debug__":Str))=false:=by decide):wpAny (model X.prog X.w) X.A (eval (.Name x pos) X.env) Q E s:=
 Calls.Name_function_global I.ok.kind b (Calls.loadGlobal_global (by rw[I.ok.glob];show I.mod.glob.keeps I.bk) c h) a
theorem qbJ{Q:Value->Shared->Prop}(I:Inv X pins σ H s)(c:Gl X x)(d:X.mg x=none)(hv:bootBuiltins x=some u)(h:Q u s)
  (e:x≠"__name__":=by decide) (b:(x==("__debug__":Str))=false:=by decide):wpAny (model X.prog X.w) X.A (eval (.Name x pos) X.env) Q E s:=by
 obtain⟨f,h1,a⟩:=I.mod.blt;show Calls.Name_function_global I.ok.kind c (Calls.loadGlobal_builtin (by rw[I.ok.glob];show I.mod.glob.keeps I.bk) d (by rw[I.ok.blt];show h1.keeps I.bk) ((a x e).trans hv) h) b
theorem qcn(b:Gl X x)(c:X.mg x=some u)(r:RelV v u)(a:(x==("__debug__":Str))=false:=by decide):PE X (.Name x pos) (tC v):=
 λ_ _ _ H _ I h=>qab I b c ⟨v,H,I,r,h⟩ a
theorem jB(b:Gl X x)(c:X.mg x=none)(hv:bootBuiltins x=some u)(r:RelV v u)(d:x≠"__name__":=by decide)(a:(x==("__debug__":Str))=false:=by decide):PE X (.Name x pos) (tC v):=
 λ_ _ _ H _ I h=>qbJ I b c hv ⟨v,H,I,r,h⟩ d a
variable{a b:Expr}{ta tb:TE}{pos:Pos}
def tB(t:TE):TT:=fun σ H Q=>t σ H λx a=>∃ c,x=.bl c/\Q c a
theorem qQ(h:PE X e t)(f:∀ a,isTrue e X.env a=(do let v <- a;standAt e.pos;holding [v] (truthy v)):=by intro _;rfl):PT X e (tB t):=by
 intro pins s σ H Q I hw;show isTrue_plain (thn (h pins s σ H _ I hw) λv j ⟨x,b,c,i,g⟩=>?_) (f _);obtain⟨d,rfl,q⟩:=g;cases i;show xW ⟨b,c,q⟩
variable{tA tB':TT}{rest:List Expr}
def qg2(t u:TT):TT:=fun σ H Q=>t σ H λc a=>if c=true then u σ a Q else Q false a
def tOr(t u:TT):TT:=fun σ H Q=>t σ H λc a=>if c=true then Q true a else u σ a Q
def qhh(t:TT):TT:=fun σ H Q=>t σ H λc a=>Q (!c) a
theorem qco(b:PT X a tA):PW X (.BoolOp .And [a] pos) tA:=by
 intro f pins s σ H Q I h;show isTrue_and (thn (b pins s σ H Q I h) λc d e=>?_)
 cases c with
 | true=>show isTrue_and_nil e
 | false=>show e
theorem qac(b:PT X a tA):PW X (.BoolOp .Or [a] pos) tA:=by
 intro f pins s σ H Q I h;show isTrue_or (thn (b pins s σ H Q I h) λc d e=>?_)
 cases c with
 | false=>show isTrue_or_nil e
 | true=>show e
theorem qb9(g:PT X a tA)(hb:PW X (.BoolOp .And (b::rest) pos) tB'):PW X (.BoolOp .And (a::b::rest) pos) (qg2 tA tB'):=by
 intro j pins s σ H Q I h;show isTrue_and (thn (g pins s σ H _ I h) λc i ⟨d,e,f⟩=>?_)
 cases c with
 | true=>show hb j pins i σ d Q e f
 | false=>show⟨d,e,f⟩
theorem qaH(g:PT X a tA)(hb:PW X (.BoolOp .Or (b::rest) pos) tB'):PW X (.BoolOp .Or (a::b::rest) pos) (tOr tA tB'):=by
 intro j pins s σ H Q I h;show isTrue_or (thn (g pins s σ H _ I h) λc i ⟨d,e,f⟩=>?_)
 cases c with
 | true=>show⟨d,e,f⟩
 | false=>show hb j pins i σ d Q e f
theorem qS(d:PT X a tA):PT X (.UnaryOp .Not a pos) (qhh tA):=by
 intro pins s σ H Q I h;show isTrue_not (d pins s σ H (λc b=>Q (!c) b) I h)
def qgq(ta tb:TE):TE:=fun σ H Q=>ta σ H λx a=>∃ c,x=.bl c/\if c=true then tb σ a Q else Q (.bl false) a
def tOrV(ta tb:TE):TE:=fun σ H Q=>ta σ H λx a=>∃ c,x=.bl c/\if c=true then Q (.bl true) a else tb σ a Q
def tNotV(ta:TE):TE:=fun σ H Q=>ta σ H λx a=>∃ c,x=.bl c/\Q (.bl (!c)) a
theorem qbh{op}(h:PE X a t):PE X (.BoolOp op [a] pos) t:=λpins s σ H Q I hw=>BoolOp_one (h pins s σ H Q I hw)
theorem qbi(g:PE X a ta)(hb:PE X (.BoolOp .And (b::rest) pos) tb):PE X (.BoolOp .And (a::b::rest) pos) (qgq ta tb):=by
 intro pins s σ H Q I h;show BoolOp_and (thn (g pins s σ H _ I h) λv j ⟨x,e,f,i,d⟩=>?_);obtain⟨c,rfl,d⟩:=d;cases i;show xW ?_
 cases c with
 | true=>show hb pins j σ e Q f d
 | false=>show⟨.bl false,e,f,rfl,d⟩
def tIf(t:TT)(ta tb:TE):TE:=fun σ H Q=>t σ H λc a=>if c=true then ta σ a Q else tb σ a Q
theorem pe_ifExp(hc:PT X c tA)(j:PE X a ta)(hb:PE X b tb):PE X (.IfExp c a b pos) (tIf tA ta tb):=by
 intro pins s σ H Q I h;show wpAny_IfExp (thn (hc pins s σ H _ I h) λd i ⟨e,f,g⟩=>?_)
 cases d with
 | true=>show j pins i σ e Q f g
 | false=>show hb pins i σ e Q f g
end
def SqL(K:yg)(H:Hp)(a:Addr)(xs:List V):Prop:=
 Rd H a (.lst xs) \/
  ∃(o:Obj) (b:Array Value) (n:Nat),K.lookup a=some o/\o.cls=.type "list"/\o.dict=none/\o.data=.seq b n/\b.size<=sizeLine/\Vals xs b.toList
def SqT(K:yg)(H:Hp)(a:Addr)(xs:List V):Prop:=
 Rd H a (.tup xs) \/
  ∃(o:Obj) (b:Array Value) (n:Nat),K.lookup a=some o/\o.cls=.type "tuple"/\o.data=.seq b n/\b.size<=sizeLine/\Vals xs b.toList
def absV:Value->Option V
 | .none=>some .non
 | .bool b=>some (.bl b)
 | .int i _=>some (.int i)
 | .str x _=>some (.str x)
 | .bytes b _=>some (.byt b)
 | .float b _=>some (.flt b)
 | .ref a=>some (.ref a)
 | .type n=>some (.ty n)
 | _=>none
theorem RelV.abs{x:V}(r:RelV x u):absV u=some x:=by
 cases x with
 | non=>cases r;rfl
 | bl _=>cases r;rfl
 | int _=>obtain⟨t,rfl⟩:=r;rfl
 | str _=>obtain⟨t,rfl⟩:=r;rfl
 | byt _=>obtain⟨t,rfl⟩:=r;rfl
 | flt _=>obtain⟨t,rfl⟩:=r;rfl
 | ref _=>cases r;rfl
 | ty _=>cases r;rfl
theorem RelV.inj{x:V}(r:RelV x u)(q:RelV y u):x=y:=ym (r.abs.symm.trans q.abs)
theorem Vals.inj:∀{xs a:List V} {us:List Value},Vals xs us->Vals a us->xs=a
 | _,_,_,.nil,.nil=>rfl
 | _,_,_,.cons r t,.cons r' t'=>by rw[r.inj r',Vals.inj t t']
section
variable{X:Cx}{pins:List (Addr×Obj)}{σ:St}{H:Hp}{s:Shared}{a:Addr}{xs ys:List V}
theorem SqL.of{K:yg}(h:H a=some (.lst xs)):SqL K H a xs:=.inl (.inl h)
theorem SqT.of{K:yg}(h:H a=some (.tup xs)):SqT K H a xs:=.inl (.inl h)
theorem Inv.list(I:Inv X pins σ H s)(h:SqL X.K H a xs):∃ b:List Value,Vals xs b/\PlainL s.heap a b.toArray/\xs.length<=sizeLine:=by
 rcases h with h | ⟨o,b,n,hk,hc,hd,hs,hz,r⟩
 .obtain⟨z,b,n,r,e⟩:=h.ok I.hok;show⟨b,r,⟨_,n,e,rfl,rfl,rfl⟩,z⟩
 .show⟨b.toList,r,⟨o,n,I.kIn a o hk,hc,hd,by simpa using hs⟩,?_⟩;have e:=r.length;simp only[Xb] at e;lk
theorem Inv.tuple(I:Inv X pins σ H s)(h:SqT X.K H a xs):∃ b:List Value,Vals xs b/\IsTup s.heap a b.toArray/\xs.length<=sizeLine:=by
 rcases h with h | ⟨o,b,n,hk,hc,hs,hz,r⟩
 .obtain⟨z,b,r,p⟩:=h.ok I.hok;show⟨b,r,p,z⟩
 .show⟨b.toList,r,⟨o,I.kIn a o hk,hc,n,by simpa using hs⟩,?_⟩;have e:=r.length;simp only[Xb] at e;lk
theorem Inv.list_inj(I:Inv X pins σ H s)(h:SqL X.K H a xs)(h':SqL X.K H a ys):xs=ys:=by
 obtain⟨b,r,⟨o,n,e,_,_,d⟩,_⟩:=I.list h;obtain⟨its',r',⟨g,f,c,_,_,d'⟩,_⟩:=I.list h';rw[e] at c;cases c;rw[d] at d'
 injection d' with d1 _
 have:b=its':=by simpa using congrArg Array.toList d1
 subst this;show r.inj r'
theorem Inv.tuple_inj(I:Inv X pins σ H s)(h:SqT X.K H a xs)(h':SqT X.K H a ys):xs=ys:=by
 obtain⟨b,r,⟨o,e,_,n,d⟩,_⟩:=I.tuple h;obtain⟨its',r',⟨g,c,_,f,d'⟩,_⟩:=I.tuple h';rw[e] at c;cases c;rw[d] at d'
 injection d' with d1 _
 have:b=its':=by simpa using congrArg Array.toList d1
 subst this;show r.inj r'
end
abbrev Cx.wish(X:Cx)(E:Value->Shared->Prop):Cx:={ X with xe:=E }
abbrev Cx.nox(X:Cx):Cx:=X.wish λ_ _=>False
theorem Cx.Ok.wish(ok:X.Ok)(E:Value->Shared->Prop):(X.wish E).Ok:=
 ⟨ok.mod,ok.kind,ok.glob,ok.blt,ok.above,ok.inj,ok.has,ok.cab,ok.hd,ok.frames,ok.stk,ok.exf,ok.bs,ok.bsz,ok.noex,ok.exfs,ok.funs,ok.frf⟩
theorem Cx.Ok.unwish(ok:(X.wish E).Ok):X.Ok:=
 ⟨ok.mod,ok.kind,ok.glob,ok.blt,ok.above,ok.inj,ok.has,ok.cab,ok.hd,ok.frames,ok.stk,ok.exf,ok.bs,ok.bsz,ok.noex,ok.exfs,ok.funs,ok.frf⟩
section
variable{X:Cx}{pins:List (Addr×Obj)}{σ:St}{H:Hp}{s:Shared}{E:Value->Shared->Prop}
theorem Inv.wish(I:Inv X pins σ H s)(E:Value->Shared->Prop):Inv (X.wish E) pins σ H s:=⟨I.ok.wish E,I.os,I.bare,I.base,I.loc,I.cell,I.free,I.freeC,I.pin,I.hok,I.len⟩
theorem Inv.unwish(I:Inv (X.wish E) pins σ H s):Inv X pins σ H s:=⟨I.ok.unwish,I.os,I.bare,I.base,I.loc,I.cell,I.free,I.freeC,I.pin,I.hok,I.len⟩
theorem SP.unwish{f:Flow}(h:SP (X.wish E) pins D f s'):SP X pins D f s':=by
 cases f with
 | next=>obtain⟨a,H',I,q⟩:=h;show⟨a,H',I.unwish,q⟩
 | brk=>obtain⟨a,H',I,q⟩:=h;show⟨a,H',I.unwish,q⟩
 | cont=>obtain⟨a,H',I,q⟩:=h;show⟨a,H',I.unwish,q⟩
 | ret u=>obtain⟨v,a,H',I,r,q⟩:=h;show⟨v,a,H',I.unwish,r,q⟩
theorem PSs.nox{st:List Stmt}{t:TS}(h:PSs X.nox st t):PSs X st t:=λpins s σ H D I hw =>
 YJ (h pins s σ H D (I.wish _) hw) (λ_ _ q=>q.unwish) λ_ _ z=>False.elim z
end
section
variable{X:Cx}{st:Stmt}{rest:List Stmt}{t u:TS}{e:Expr}{te:TE}{pos:Pos}
def qgr:TS:=λD σ H=>D.nx σ H
def qhi(t u:TS):TS:=λD σ H=>t { D with nx:=u D } σ H
theorem qw:PSs X [] qgr:=λ_ _ σ H _ I h=>kD ⟨σ,H,I,h⟩
theorem qc(h1:PS X st t)(c:PSs X rest u):PSs X (st::rest) (qhi t u):=by
 intro pins s σ H D I h;show wpAny_execs_cons (thn (h1 pins s σ H { D with nx:=u D } I h) λf d q=>?_)
 cases f with
 | next =>
  obtain⟨a,H',b,q⟩:=q;show c pins d a H' D b q
 | ret v=>show q
 | brk=>show q
 | cont=>show q
theorem qe(h1:PS X st t):PSs X [st] t:=by
 intro pins s σ H D I h;show wpAny_execs_cons (thn (h1 pins s σ H D I h) λf a q=>?_)
 cases f with
 | next=>show kD q
 | ret v=>show q
 | brk=>show q
 | cont=>show q
theorem Inv.quiet(I:Inv X pins σ H s):interactive X.env=false:=by simp[interactive,I.ok.kind]
def qgs(te:TE):TS:=λD σ H=>te σ H λ_ a=>D.nx σ a
theorem qW(c:PE X e te)(d:swapsWith e none pos.line X.env=pure false:=by rfl):PS X (.Expr e pos) (qgs te):=by
 intro pins s σ H D I h;show wpAny_Expr_any (thn (c pins s σ H _ I h) λv i ⟨x,a,b,g,f⟩=>⟨σ,a,b,f⟩) I.quiet d
def qhj(te:TE):TS:=λD σ H=>te σ H D.rt
theorem qr(c:PE X e te):PS X (.Return (some e) pos) (qhj te):=by
 intro pins s σ H D I h;show wpAny_Return_some (thn (c pins s σ H _ I h) λv g ⟨x,a,b,f,d⟩=>⟨x,σ,a,b,f,d⟩)
def tRetN:TS:=λD _ H=>D.rt .non H
def qhk(c:TT)(t u:TS):TS:=λD σ H=>c σ H λb a=>if b=true then t D σ a else u D σ a
theorem qN{a b:List Stmt}(hc:PT X c tc)(j:PSs X a t)(hb:PSs X b u):PS X (.If c a b pos) (qhk tc t u):=by
 intro pins s σ H D I h;show wpAny_If (thn (hc pins s σ H _ I h) λd i ⟨e,f,g⟩=>?_)
 cases d with
 | true=>show j pins i σ e D f g
 | false=>show hb pins i σ e D f g
def tNever:TS:=λ_ _ _=>False
theorem jl:PS X st tNever:=λ_ _ _ _ _ _ h=>h.elim
end
abbrev TG:=V->St->Hp->(St->Hp->Prop)->Prop
abbrev TGs:=List V->St->Hp->(St->Hp->Prop)->Prop
def PG(X:Cx)(a:Expr)(t:TG):Prop:=
 ∀(pins:List (Addr×Obj)) (s:Shared) (σ:St) (H:Hp) (v:V) (u:Value) (Q:St->Hp->Prop),Inv X pins σ H s->RelV v u->t v σ H Q ->
  wpAny (model X.prog X.w) X.A (assign a X.env u) (λ_ s'=>∃ b H',Inv X pins b H' s'/\Q b H') X.xe s
def PGs(X:Cx)(b:List Expr)(t:TGs):Prop:=
 ∀(pins:List (Addr×Obj)) (s:Shared) (σ:St) (H:Hp) (vs:List V) (us:List Value) (Q:St->Hp->Prop),Inv X pins σ H s->Vals vs us->t vs σ H Q ->
  wpAny (model X.prog X.w) X.A (assignInOrder ((assignEach b X.env).map (·.2)) us) (λ_ s'=>∃ a H',Inv X pins a H' s'/\Q a H') X.xe s
abbrev qgt:=V->V->V->Hp->(Hp->Prop)->Prop
def qg3(X:Cx)(t:qgt):Prop:=
 ∀(pins:List (Addr×Obj)) (s:Shared) (σ:St) (H:Hp) (o i v:V) (b a u:Value) (Q:Hp->Prop),Inv X pins σ H s->RelV o b->RelV i a->RelV v u->t o i v H Q ->
  wpAny (model X.prog X.w) X.A (setItem b a u) (λ_ s'=>∃ H',Inv X pins σ H' s'/\Q H') X.xe s
section
variable{X:Cx}{pos:Pos}
def qdo(i:Nat):TG:=λv σ H Q=>Q (σ.set i (some v)) H
theorem qm(b:X.N.Nodup)(d:X.N[i]?=some x)(e:Loc X.env.scope x)(c:X.fn x=true\/X.env.scope.names.lookup x=some .local:=by first | show .inl rfl | show .inr rfl | assumption):PG X (.Name x pos) (qdo i):=by
 intro pins s σ H v u Q I r h;show wpAny_assign_Name (qbs I b d e r (λs' a=>⟨_,H,a,h⟩) c)
def gNil:TGs:=λvs σ H Q=>vs=[]/\Q σ H
def gCons(t:TG)(u:TGs):TGs:=λvs σ H Q=>∃ v r,vs=v::r/\t v σ H λa H'=>u r a H' Q
theorem qbb:PGs X [] gNil:=by
 intro pins s σ H vs us Q I r h;obtain⟨e,h⟩:=h;subst e;cases r;show assignInOrder_nil ⟨σ,H,I,h⟩
theorem jm{t:TG}{u:TGs}(h1:PG X e t)(f:PGs X es u)
  (g:(assignEach (e::es) X.env).map (·.2)=assign e X.env::(assignEach es X.env).map (·.2):=by rfl):PGs X (e::es) (gCons t u):=by
 intro pins s σ H vs us Q I r h;obtain⟨v,l,d,h⟩:=h;subst d
 cases r with
 | cons r rr =>
  rw[g];show assignInOrder_cons (thn (h1 pins s σ H _ _ _ I r h) λ_ j ⟨a,b,c,i⟩=>?_);show f pins j a b _ _ Q c rr i
def gTup(K:yg)(n:Nat)(t:TGs):TG:=λv σ H Q=>∃ a xs,v=.ref a/\SqT K H a xs/\xs.length=n/\t xs σ H Q
theorem qca{k:Nat}{t:TGs}(hc:X.calm=true)(h:PGs X es t)
  (i:(assignEach es X.env).length=n:=by rfl) (c:(assignEach es X.env).findIdx? (·.1)=none:=by rfl):PG X (.Tuple es k pos) (gTup X.K n t):=by
 intro pins s σ H v u Q I r hw;obtain⟨a,xs,g,j,hl,hw⟩:=hw;subst g;cases r;obtain⟨p,d,l,q⟩:=I.tuple j;show assign_Tuple_tuple (I.ok.hd hc) l (by simp[i,<- hl,d.length]) c λh' m=>?_;have f:Inv X pins σ H { s with heap:=h' }:=I.kept (t':=s.toks) λb o e=>m b o (Yl (yU e)) e;show h pins _ σ H xs _ Q f (by simpa using d) hw
def qhl(to d:TE)(t:qgt):TG:=λv σ H Q=>to σ H λo a=>d σ a λi b=>t o i v b λc=>Q σ c
theorem jJ{o i:Expr}{to c:TE}{t:qgt}(p:PE X o to)(n:PE X i c)(q:qg3 X t)
  (m:∀ v,assign (.Subscript o i pos) X.env v=(do
   let a <- holding [v] (eval o X.env);let b <- holding [v,a] (eval i X.env)
   standAt pos
   holding [v,a,b] (setItem a b v)
   release [v,a,b] []):=by intro _;rfl):PG X (.Subscript o i pos) (qhl to c t):=by
 intro pins s σ H v u Q I r h;rw[m];show yr (YT (thn (p pins s σ H _ I h) λa D ⟨x,d,g,B,w⟩=>?_));show yr (YT (thn (n pins D σ d _ g w) λb E ⟨y,e,j,C,z⟩=>?_));show yr (XM (yr (YT (thn (q pins E σ e x y v a b u _ j B C r z) λ_ F ⟨f,l,A⟩=>?_))));show wpAny_release ⟨σ,f,l,A⟩
def qgu(te:TE)(g:TG):TS:=λD σ H=>te σ H λx a=>g x σ a D.nx
theorem jK(c:PE X e te)(d:PG X tg g)(f:swapsWithSole [tg] e pos.line X.env=pure false:=by rfl)(hw:swappedStores [tg] e X.env=pure none:=by rfl)
  (h1:(assignEach [tg] X.env).map (·.2)=[assign tg X.env]:=by rfl):PS X (.Assign [tg] e pos) (qgu te g):=by
 intro pins s σ H D I h;show wpAny_Assign_stores (thn (c pins s σ H _ I h) λv l ⟨x,a,b,j,i⟩=>?_) f hw;rw[h1];show thn (d pins l σ a x v _ b j i) λ_ m q=>q
theorem qk{a:Pos}(f:X.N.Nodup)(l:X.N[i]?=some x)(n:Loc X.env.scope x)(g:PE X e te)(m:swapsWith e (some (.Name x a)) pos.line X.env=pure false:=by rfl)(j:X.fn x=true\/X.env.scope.names.lookup x=some .local:=by first | show .inl rfl | show .inr rfl | assumption) :
  PS X (.Assign [.Name x a] e pos) (qgu te (qdo i)):=by
 intro pins s σ H D I h;show wpAny_Assign_Name (thn (g pins s σ H _ I h) λv q ⟨y,b,c,p,o⟩=>?_) m;show qbs c f l n p (λr d=>⟨_,b,d,o⟩) j
end
section
variable{X:Cx}{pos:Pos}
def tWhile(c:TT)(tb:TS):TS:=λD σ H=>∃ W:Nat->St->Hp->Prop,(∃ m,W m σ H)/\∀ m σ H,W m σ H ->
 c σ H λb d=>if b=true then ∃ N:St->Hp->Prop,(∀ a H',N a H'->∃ e,e<m/\W e a H')/\tb { D with nx:=N,ct:=N,bk:=D.nx } σ d else D.nx σ d
theorem qcp(y:PassesOwn (model X.prog X.w) X.A X.env X.xe)(hc:PT X c tc)(hb:PSs X body tb):PS X (.While c body [] pos) (tWhile tc tb):=by
 intro pins s σ H D I h;obtain⟨W,⟨B,F⟩,turn⟩:=h;show wpAny_While (codeAny_whileLoop (λn s'=>∃ g H',Inv X pins g H' s'/\W n g H') ?_ B ⟨σ,H,I,F⟩);rintro n C ⟨d,r,z,G⟩;show xS y (thn (hc pins C d r _ z (turn n d r G)) λb E ⟨t,u,i⟩=>?_)
 cases b with
 | true =>
  obtain⟨N,x,i⟩:=i;rw[yH rfl];show xS y (thn (hb pins E d t _ u i) λf J j=>?_)
  cases f with
  | next =>
   obtain⟨a,e,l,p⟩:=j;obtain⟨o,m,q⟩:=x a e p;show⟨o,m,a,e,l,q⟩
  | cont =>
   obtain⟨a,e,l,p⟩:=j;obtain⟨o,m,q⟩:=x a e p;show⟨o,m,a,e,l,q⟩
  | brk=>show j
  | ret v=>show j
 | false =>
  rw[yD Yn];show kD ⟨d,t,u,i⟩
end
structure It where
 go:Nat->Hp->Prop
 yld:Nat->Hp->V->Hp->Prop
 stop:Nat->Hp->Prop
def qdp(X:Cx)(pins:List (Addr×Obj))(H:Hp)(b:Addr):Prop:=
 H b=none/\b≠X.env.locals/\b∉X.fs/\(b∈X.ex\/X.s₀.heap.objs.size<=b)/\(∀ x c,X.env.cells.lookup x=some c->c≠b)/\∀ p∈X.pn++pins,p.1≠b
theorem Inv.fpOk{H':Hp}(I:Inv X pins σ H s)(hb:s.heap.objs.size<=b)(a:H' b=none):qdp X pins H' b:=by
 show⟨a,Xm (yj I.lt hb),I.nofs hb,.inr (yi I.sz hb),λx c e z=>?_,λp d z=>?_⟩
 .obtain⟨v,q⟩:=I.cell x c e;show absurd (yj q.lt (by rw[z];show hb)) (YF _)
 .show absurd (yj (yU (I.pin p d).1) (by rw[z];show hb)) (YF _)
structure Turn(P:Program)(w:World)(K:yg)(tg:Expr)(J:It)(fp:LI)(it:Addr)(tn:Nat->Heap->Prop):Prop where
 mem:it∈fp
 obj:∀ i h,tn i h->∀ b∈fp,∃ o,h.get? b=some o/\∀ v,o.data≠.cell v
 keep:∀ i h h',tn i h->(∀ b∈fp,∀ o,h.get? b=some o->h'.get? b=some o)->tn i h'
 item:∀(X:Cx),X.prog=P->X.w=w->X.K=K->X.calm=true->∀(i:Nat) (pins:List (Addr×Obj)) (s:Shared) (σ:St) (H:Hp) (E:Value->Shared->Prop),Inv X pins σ H s->(∀ b∈fp,qdp X pins H b)->tn i s.heap->J.go i H ->
  wpAny (model P w) X.A (pyNext (.ref it)) (λr s1=>∃ u,r=some u /\
   wpAny (model P w) X.A (letOwnedTupleGo tg (.ref it) u) (λ_ s2=>∃ x H',Inv X pins σ H' s2/\RelV x u/\J.yld i H x H'/\tn (i+1) s2.heap/\∀ b∈fp,H' b=none) E s1) E s
 done:∀(X:Cx),X.prog=P->X.w=w->X.K=K->X.calm=true->∀(i:Nat) (pins:List (Addr×Obj)) (s:Shared) (σ:St) (H:Hp) (E:Value->Shared->Prop),Inv X pins σ H s->(∀ b∈fp,qdp X pins H b)->tn i s.heap->J.stop i H ->
  wpAny (model P w) X.A (pyNext (.ref it)) (λr s1=>r=none/\Inv X pins σ H s1) E s
 self:∀(A:Around) (i:Nat) (s:Shared) (Q:Value->Shared->Prop) (E:Value->Shared->Prop),tn i s.heap->Q (.ref it) s->wpAny (model P w) A (pyIter (.ref it)) Q E s
abbrev TI:=St->Hp->(It->Hp->Prop)->Prop
def PIE(X:Cx)(pins:List (Addr×Obj))(σ:St)(tg:Expr)(R:It->Hp->Prop)(a:Value)(c:Shared):Prop:=
 ∃(it:Addr) (fp:LI) (tn:Nat->Heap->Prop) (J:It) (H':Hp),a=.ref it/\Inv X pins σ H' c/\Turn X.prog X.w X.K tg J fp it tn/\tn 0 c.heap/\(∀ b∈fp,qdp X pins H' b)/\R J H'
def PI(X:Cx)(tg a:Expr)(c:TI):Prop:=
 ∀(pins:List (Addr×Obj)) (s:Shared) (σ:St) (H:Hp) (R:It->Hp->Prop),Inv X pins σ H s->c σ H R ->
  wpAny (model X.prog X.w) X.A (eval a X.env) (λv b=>wpAny (model X.prog X.w) X.A (pyIter v) (PIE X pins σ tg R) X.xe b) X.xe s
theorem qgd{o:Obj}{n:String}{vs:Array Value}{Q:Unit->Shared->Prop}(d:s.heap.get? it=some o)(hc:o.cls=.type n)(b:o.data=.fields vs)
    (c:["enumerate","zip","dict_itemiterator","dict_reverseitemiterator","odict_iterator","itertools.zip_longest","itertools.pairwise"].contains n=false) (a:Q () s):wpAny M A (letOwnedTupleGo tg (.ref it) u) Q E s:=by
  unfold letOwnedTupleGo;cases tg<;>first
    | show yE a
    | (cases u<;>first
        | show yE a
        | (show yr (wpAny_load d ?_)
           rw[hc,b];show wpAny M A (if (["enumerate","zip","dict_itemiterator","dict_reverseitemiterator","odict_iterator","itertools.zip_longest","itertools.pairwise"].contains n&&vs[0]?==some (rawInt _))=true then _ else _) Q E s;rw[yD (by intro h;rw[c,Bool.false_and] at h;cases h)];show yE a))
def Itl(K:yg)(a:Addr):It:=
 ⟨λi H=>∃ xs x,SqL K H a xs/\xs[i]?=some x,λi H x H'=>H'=H/\∀ xs,SqL K H a xs->xs[i]?=some x,λi H=>∃ xs,SqL K H a xs/\xs.length<=i⟩
def Itt(K:yg)(a:Addr):It:=
 ⟨λi H=>∃ xs x,SqT K H a xs/\xs[i]?=some x,λi H x H'=>H'=H/\∀ xs,SqT K H a xs->xs[i]?=some x,λi H=>∃ xs,SqT K H a xs/\xs.length<=i⟩
def Itr(lo:Int)(n:Nat):It:=⟨λi _=>i<n,λi H x H'=>H'=H/\x=.int (lo+i),λi _=>n<=i⟩
theorem qcQ{K:yg}(a it:Addr):Turn P w K tg (Itl K a) [it] it (λi h=>h.IsListIter it a i) where
 mem:=by simp
 obj:=λi h st b hb=>by
  have e:b=it:=by simpa using hb
  subst e;obtain⟨o,e,c,d⟩:=st;show⟨o,e,λv z=>by rw[d] at z;cases z⟩
 keep:=λi h h' st k=>st.at λo e=>k it (by simp) o e
 item:=by
  intro X y hw t hc i pins s σ H E I g st A;subst y hw t;obtain⟨xs,x,j,B⟩:=A;obtain⟨C,D,p,N⟩:=I.list j;obtain⟨u,L,O⟩:=D.get B;obtain⟨l,m,J,n,q,r⟩:=g it (by simp);show wpAny_pyNext_list_item st p.isList (x:=u) (by simpa using L) λh' f R=>?_;have F:Inv X pins σ H { s with heap:=h' }:=I.turned (t':=s.toks) (λb o hb e=>(R.2 b hb).trans e) l m n q r;obtain⟨o,e,c,d⟩:=id f;show⟨u,rfl,qgd (s:={ s with heap:=h' }) e c d (by decide) ⟨x,H,F,O,⟨rfl,λS M=>by rw[I.list_inj M j];show B⟩,f,λb hb=>(g b hb).1⟩⟩
 done:=by
  intro X y hw t hc i pins s σ H E I g st A;subst y hw t;obtain⟨xs,j,B⟩:=A;obtain⟨C,D,p,N⟩:=I.list j;obtain⟨l,m,J,n,q,r⟩:=g it (by simp);have hl:=D.length;show wpAny_pyNext_list_end (I.ok.hd hc) st p.isList (by simp;lk) λh' G=>⟨rfl,I.turned (t':=s.toks) (λb o hb e=>G b o hb e) l m n q r⟩
 self:=λ_ _ _ _ _ st h=>wpAny_pyIter_listiter st h
theorem turn_tuple{K:yg}(a it:Addr):Turn P w K tg (Itt K a) [it] it (λi h=>h.IsTupleIter it a i) where
 mem:=by simp
 obj:=λi h st b hb=>by
  have e:b=it:=by simpa using hb
  subst e;obtain⟨o,e,c,d⟩:=st;show⟨o,e,λv z=>by rw[d] at z;cases z⟩
 keep:=λi h h' st k=>st.at λo e=>k it (by simp) o e
 item:=by
  intro X A hw y hc i pins s σ H E I j st B;subst A hw y;obtain⟨xs,x,l,C⟩:=B;obtain⟨f,D,p,N⟩:=I.tuple l;obtain⟨u,L,O⟩:=D.get C;obtain⟨m,n,J,q,r,t⟩:=j it (by simp);show wpAny_pyNext_tuple_item st (show s.heap.IsTuple a f.toArray from p) (x:=u) (by simpa using L) λh' g R=>?_;have F:Inv X pins σ H { s with heap:=h' }:=I.turned (t':=s.toks) (λb o hb e=>(R.2 b hb).trans e) m n q r t;obtain⟨o,e,c,d⟩:=id g;show⟨u,rfl,qgd (s:={ s with heap:=h' }) e c d (by decide) ⟨x,H,F,O,⟨rfl,λS M=>by rw[I.tuple_inj M l];show C⟩,g,λb hb=>(j b hb).1⟩⟩
 done:=by
  intro X A hw y hc i pins s σ H E I j st B;subst A hw y;obtain⟨xs,l,C⟩:=B;obtain⟨f,D,p,N⟩:=I.tuple l;obtain⟨m,n,J,q,r,t⟩:=j it (by simp);have hl:=D.length;show wpAny_pyNext_tuple_end (I.ok.hd hc) st (show s.heap.IsTuple a f.toArray from p) (by simp;lk) λh' G=>⟨rfl,I.turned (t':=s.toks) (λb o hb e=>G b o hb e) m n q r t⟩
 self:=λ_ _ _ _ _ st h=>wpAny_pyIter_tupleiter st h
theorem turn_range{K:yg}(it:Addr)(lo:Int)(n:Nat):Turn P w K tg (Itr lo n) [it] it (λi h=>IsRangeIter h it (lo+(i:Nat)*1) ((n:Int)-(i:Nat)) 1) where
 mem:=by simp
 obj:=λi h st b hb=>by
  have e:b=it:=by simpa using hb
  subst e
  show⟨_,st,λv z=>by
   have A:Data.fields _=Data.cell v:=z;cases A⟩
 keep:=λi h h' st k=>k it (by simp) _ st
 item:=by
  intro X p hw m hc i pins s σ H E I c st q;subst p hw m;obtain⟨d,f,x,g,j,l⟩:=c it (by simp);have W:=Walks.range (prog:=X.prog) (w:=X.w) (I.ok.hd hc) it lo 1 n;show W.item i s _ _ q st λv h' tk hv a y=>?_;obtain⟨t,rfl⟩:=hv;have r:Inv X pins σ H { s with heap:=h',toks:=tk }:=I.turned (λb o hb e=>y b o (by simpa using hb) e) d f g j l;show⟨_,rfl,qgd (s:={ s with heap:=h',toks:=tk }) (n:="range_iterator") a rfl rfl (by decide) ⟨.int (lo+i),H,r,⟨t,?_⟩,⟨rfl,rfl⟩,a,λb hb=>(c b hb).1⟩⟩;rw[Int.mul_one]
 done:=by
  intro X p hw m hc i pins s σ H E I c st q;subst p hw m;obtain⟨d,f,x,g,j,l⟩:=c it (by simp);show wpAny_pyNext_range_end (I.ok.hd hc) st (by have:n<=i:=q;lk) λh' u=>⟨rfl,I.turned (t':=s.toks) (λb o hb e=>u b o hb e) d f g j l⟩
 self:=λ_ _ _ _ _ st h=>wpAny_pyIter_rangeiter st h
section
variable{X:Cx}{tg:Expr}
theorem qdQ{R:It->Hp->Prop}{a:Int}{t u v:Tok}{tk:Nat}(I:Inv X pins σ H s)(h1:-(2 ^ 62)<=lo)(g:lo<2 ^ 62)(h:-(2 ^ 62)<=a)(i:a<2 ^ 62)
  (q:R (Itr lo (a-lo).toNat) H):wpAny (model X.prog X.w) X.A (pyIter (.ref s.heap.objs.size)) (PIE X pins σ tg R) E { s with heap:=s.heap.push { cls:=.type "range",data:=.fields #[.int lo t,.int a u,.int 1 v] },toks:=tk }:=by
 show wpAny_pyIter_range (IsRange.new ..) (small_one h1 g h i) ?_;have c:Inv X pins σ H { s with heap:=s.heap.push { cls:=.type "range",data:=.fields #[.int lo t,.int a u,.int 1 v] },toks:=tk }:=I.kept λb o e=>yw _ e;show⟨(s.heap.push { cls:=.type "range",data:=.fields #[.int lo t,.int a u,.int 1 v] }).objs.size,[(s.heap.push { cls:=.type "range",data:=.fields #[.int lo t,.int a u,.int 1 v] }).objs.size],_,_,H,rfl,
  c.kept (t':=tk) λb o e=>yw _ e,turn_range _ lo (a-lo).toNat,?_,λb hb=>?_,q⟩
 .have d:lo+((0:Nat):Int)*1=lo:=by simp
  have f:(((a-lo).toNat:Nat):Int)-((0:Nat):Int)=Builtin.Range.rangeSize lo a 1:=by rw[rangeSize_one];split<;>lk
  show IsRangeIter _ _ (lo+((0:Nat):Int)*1) ((((a-lo).toNat:Nat):Int)-((0:Nat):Int)) 1;rw[d,f];show Ye _ rfl
 .have e:b=(s.heap.push { cls:=.type "range",data:=.fields #[.int lo t,.int a u,.int 1 v] }).objs.size:=by simpa using hb
  subst e;show c.fpOk (yh _) (c.hok.fresh (yh _))
def qgv(ta:TA):TI:=fun σ H R=>ta σ H λvs a=>∃ j:Int,vs=[.int j]/\-(2 ^ 62)<=j/\j<2 ^ 62/\R (Itr 0 j.toNat) a
def qgw(ta:TA):TI:=fun σ H R=>ta σ H λvs a=>∃ i j:Int,vs=[.int i,.int j]/\(-(2 ^ 62)<=i/\i<2 ^ 62/\-(2 ^ 62)<=j/\j<2 ^ 62)/\R (Itr i (j-i).toNat) a
theorem qT{a:Expr}(f:Gl X "range")(g:X.mg "range"=none)(d:PA X [a] ta)(i:starEach [a] X.env=[(false,eval a X.env)]:=by rfl):PI X tg (.Call (.Name "range" p) [a] [] pos) (qgv ta):=by
 intro pins s σ H R I h;show Call_ (qbJ I f g boot_range (xE (thn (d pos pins s σ H _ I h) λus o ⟨vs,n,c,m,b⟩=>?_) i rfl));obtain⟨j,e,b,l,q⟩:=b;subst e
 cases m with
 | cons r rr =>
  cases rr;obtain⟨t,rfl⟩:=r;show call_range_1 (qdQ c (by lk) (by lk) b l (by simpa using q))
theorem qbK{a b:Expr}(l:Gl X "range")(m:X.mg "range"=none)(g:PA X [a,b] ta)(n:starEach [a,b] X.env=[(false,eval a X.env),(false,eval b X.env)]:=by rfl)(c:starEach [b] X.env=[(false,eval b X.env)]:=by rfl) :
  PI X tg (.Call (.Name "range" p) [a,b] [] pos) (qgw ta):=by
 intro pins s σ H R I h;show Call_ (qbJ I l m boot_range (xE (thn (g pos pins s σ H _ I h) λus y ⟨vs,x,f,w,d⟩=>?_) (by rw[n,c]) (by rw[c];rfl)));obtain⟨i,j,e,⟨d,o,u,v⟩,q⟩:=d;subst e
 cases w with
 | cons r rr =>
  cases rr with
  | cons r' rr =>
   cases rr;obtain⟨t,rfl⟩:=r;obtain⟨t',rfl⟩:=r';show call_range_2 (qdQ f d o u v q)
def qhm(f:TI)(g:TG)(tb:TS):TS:=λD σ H=>f σ H λJ d=>∃ W:Nat->Nat->St->Hp->Prop,(∃ m,W 0 m σ d)/\∀ i m σ H,W i m σ H ->
 (J.stop i H/\D.nx σ H)\/(J.go i H/\∃ N:St->Hp->Prop,(∀ a H',N a H'->∃ c,c<m/\W (i+1) c a H')/\∀ x H',J.yld i H x H'->g x σ H' λb e=>tb { D with nx:=N,ct:=N,bk:=D.nx } b e)
def qcR(fp:LI)(h:Heap):List (Addr×Obj):=fp.filterMap λb=>(h.get? b).map λo=>(b,o)
theorem qam{o:Obj}(hb:b∈fp)(e:h.get? b=some o):(b,o)∈qcR fp h:=List.mem_filterMap.mpr ⟨b,hb,by rw[e];rfl⟩
theorem of_pinsAt{p:Addr×Obj}(c:p∈qcR fp h):p.1∈fp/\h.get? p.1=some p.2:=by
 obtain⟨b,hb,e⟩:=List.mem_filterMap.mp c
 cases q:h.get? b with
 | none=>rw[q] at e;cases e
 | some o =>
  rw[q] at e;have a:(b,o)=p:=ym e;subst a;show⟨hb,q⟩
theorem Inv.pinned(I:Inv X pins σ H s)(h:∀ b∈fp,qdp X pins H b)(i:∀ b∈fp,∃ o,s.heap.get? b=some o/\∀ v,o.data≠.cell v):Inv X (pins++qcR fp s.heap) σ H s:=
 I.pins_of λp j=>(yG.mp j).elim (λz=>I.pin p (yR _ z)) λz=>by
  obtain⟨hb,e⟩:=of_pinsAt z;obtain⟨c,f,g,_⟩:=h p.1 hb;obtain⟨o,a,d⟩:=i p.1 hb;rw[e] at a;cases a;show⟨e,c,f,g,d⟩
theorem Inv.unpinned{pl:List (Addr×Obj)}(I:Inv X (pins++pl) σ H s):Inv X pins σ H s:=I.pins_of λp a=>I.pin p (yR _ (Yd _ a))
theorem qR{l:Expr}{wi:TI}(C:PassesOwn (model X.prog X.w) X.A X.env X.xe)(hc:X.calm=true)(hi:PI X tg l wi)(hg:PG X tg g)(hb:PSs X body tb)
  (hs:∀ x,foldedSetIterable l X.env x=pure x:=by intro _;rfl):PS X (.For tg l body [] pos) (qhm wi g tb):=by
 intro pins s σ H D I h;show wpAny_For (thn (hi pins s σ H _ I h) λv s1 h1=>thn h1 λaa s2 h2=>?_) hs;obtain⟨it,fp,tn,J,H2,e,I2,T,R,Z,W,⟨m0,w0⟩,turn⟩:=h2;subst e;have p:∀{H':Hp},(∀ b∈fp,H' b=none)->∀ b∈fp,qdp X pins H' b:=λhn b hb=>⟨hn b hb,(Z b hb).2⟩;show codeAny_forLoop_any (λn s'=>∃ i q H',Inv X pins q H' s'/\tn i s'.heap/\(∀ b∈fp,H' b=none)/\W i n q H') ?_ m0 ⟨0,σ,H2,I2,R,λb hb=>(Z b hb).1,w0⟩;rintro n s3 ⟨i,t,K,Y,F,B,w3⟩;rcases turn i n t K w3 with⟨G,qn⟩ | ⟨go,N,hN,step⟩
 .show xS C (thn (T.done X rfl rfl rfl hc i pins s3 t K X.xe Y (p B) F G) λr s4 ⟨O,I4⟩=>?_);subst O;show kD ⟨t,K,I4,qn⟩
 .show xS C (thn (T.item X rfl rfl rfl hc i pins s3 t K X.xe Y (p B) F go) λr s4 ⟨u,O,h4⟩=>?_);subst O;show xS C (thn h4 λ_ s5 ⟨x,U,I5,r5,y5,z,M⟩=>?_);have L:=I5.pinned (p M) (T.obj _ _ z);show xS C (thn (hg _ s5 t U x u _ L r5 (step x U y5)) λ_ s6 ⟨S,H6,I6,q6⟩=>?_);show xS C (thn (hb _ s6 S H6 _ I6 q6) λf P y=>?_)
  have again:∀{a:St} {c:Hp},Inv X (pins++qcR fp s5.heap) a c P->N a c->∃ m,m<n/\∃ i q H',Inv X pins q H' P/\tn i P.heap/\(∀ b∈fp,H' b=none)/\W i m q H':=λ{a c} j E=>by
   obtain⟨m',hm,w7⟩:=hN a c E;show⟨m',hm,i+1,a,c,j.unpinned,T.keep _ _ _ z λb hb o e=>(j.pin (b,o) (yR _ (yR _ (qam hb e)))).1,λb hb=>?_,w7⟩;obtain⟨o,e,d⟩:=T.obj _ _ z b hb;show(j.pin (b,o) (yR _ (yR _ (qam hb e)))).2.1
  cases f with
  | next=>obtain⟨a,c,j,E⟩:=y;show again j E
  | cont=>obtain⟨a,c,j,E⟩:=y;show again j E
  | brk=>obtain⟨a,c,j,y⟩:=y;show⟨a,c,j.unpinned,y⟩
  | ret v=>obtain⟨x7,a,c,j,r7,y⟩:=y;show⟨x7,a,c,j.unpinned,r7,y⟩
end
theorem qO{K:yg}(b:Nat->St->Hp->Prop)(l:b 0 σ H)(hl:∀ i σ H,i<=xs.length->b i σ H->SqL K H a xs)
  (r:∀ i x σ H,xs[i]?=some x->b i σ H->g x σ H λd h=>tb { D with nx:=b (i+1),ct:=b (i+1),bk:=D.nx } d h) (n:∀ σ H,b xs.length σ H->D.nx σ H) :
  ∃ W:Nat->Nat->St->Hp->Prop,(∃ m,W 0 m σ H)/\∀ i m σ H,W i m σ H ->
   ((Itl K a).stop i H/\D.nx σ H)\/((Itl K a).go i H/\∃ N:St->Hp->Prop,(∀ c H',N c H'->∃ j,j<m/\W (i+1) j c H')/\∀ x H',(Itl K a).yld i H x H'->g x σ H' λd h=>tb { D with nx:=N,ct:=N,bk:=D.nx } d h):=by
 show⟨λi m σ H=>m=xs.length-i/\i<=xs.length/\b i σ H,⟨xs.length,by simp,Yx _,l⟩,?_⟩;rintro i m σ H ⟨rfl,o,p⟩;have q:=hl i σ H o p;by_cases f:i<xs.length
 .show .inr ⟨⟨xs,xs[i],q,by simp[f]⟩,b (i+1),λc H' s=>⟨xs.length-(i+1),by lk,rfl,f,s⟩,λx H' y=>?_⟩;obtain⟨e,y⟩:=y;subst e;show r i x σ _ (y xs q) p
 .have e:i=xs.length:=by lk
  subst e;show .inl ⟨⟨xs,q,yh _⟩,n σ H p⟩
theorem jL(a:Nat->St->Hp->Prop)(j:a 0 σ H)
  (o:∀ i σ H,i<n->a i σ H->g (.int (lo+i)) σ H λd f=>tb { D with nx:=a (i+1),ct:=a (i+1),bk:=D.nx } d f) (l:∀ σ H,a n σ H->D.nx σ H) :
  ∃ W:Nat->Nat->St->Hp->Prop,(∃ m,W 0 m σ H)/\∀ i m σ H,W i m σ H ->
   ((Itr lo n).stop i H/\D.nx σ H)\/((Itr lo n).go i H/\∃ N:St->Hp->Prop,(∀ c H',N c H'->∃ h,h<m/\W (i+1) h c H')/\∀ x H',(Itr lo n).yld i H x H'->g x σ H' λd f=>tb { D with nx:=N,ct:=N,bk:=D.nx } d f):=by
 show⟨λi m σ H=>m=n-i/\i<=n/\a i σ H,⟨n,by simp,Yx _,j⟩,?_⟩;rintro i m σ H ⟨rfl,r,p⟩;by_cases b:i<n
 .show .inr ⟨b,a (i+1),λc H' q=>⟨n-(i+1),by lk,rfl,b,q⟩,λx H' y=>?_⟩;obtain⟨e,y⟩:=y;subst e y;show o i σ _ b p
 .have e:i=n:=by lk
  subst e;show .inl ⟨yh _,l σ H p⟩
abbrev R2:=V->V->Hp->VK->Prop
def OpR(X:Cx)(f:Value->Value->Sem Value)(r:R2):Prop:=
 ∀(pins:List (Addr×Obj)) (s:Shared) (σ:St) (H:Hp) (x y:V) (v u:Value) (Q:VK),Inv X pins σ H s->RelV x v->RelV y u->r x y H Q ->
  wpAny (model X.prog X.w) X.A (f v u) (EP X pins σ Q) X.xe s
def UnR(X:Cx)(f:Value->Sem Value)(r:V->Hp->VK->Prop):Prop:=
 ∀(pins:List (Addr×Obj)) (s:Shared) (σ:St) (H:Hp) (x:V) (v:Value) (Q:VK),Inv X pins σ H s->RelV x v->r x H Q ->
  wpAny (model X.prog X.w) X.A (f v) (EP X pins σ Q) X.xe s
def zL(X:Cx)(f:Value)(r:List V->Hp->VK->Prop):Prop:=
 ∀(pins:List (Addr×Obj)) (s:Shared) (σ:St) (H:Hp) (xs:List V) (us:List Value) (Q:VK),Inv X pins σ H s->Vals xs us->r xs H Q ->
  wpAny (model X.prog X.w) X.A (call f us) (EP X pins σ Q) X.xe s
def tOp(r:R2)(ta tb:TE):TE:=fun σ H Q=>ta σ H λx a=>tb σ a λy b=>r x y b Q
def tUn(r:V->Hp->VK->Prop)(ta:TE):TE:=fun σ H Q=>ta σ H λx a=>r x a Q
def rI(C:Int->Int->Prop)(g:Int->Int->V):R2:=λx y H Q=>∃ i j,x=.int i/\y=.int j/\C i j/\Q (g i j) H
def rI0(g:Int->Int->V):R2:=λx y H Q=>∃ i j,x=.int i/\y=.int j/\Q (g i j) H
def rU(g:Int->V):V->Hp->VK->Prop:=λx H Q=>∃ i,x=.int i/\Q (g i) H
section
variable{X:Cx}{a b c:Expr}{ta tb tc:TE}{pos:Pos}
theorem qg4(m:PE X a ta)(hb:PE X b tb){R:V->V->Hp->Prop}(I:Inv X pins σ H s)
  (h:ta σ H λx i=>tb σ i λy c=>R x y c) {Q:Value->Shared->Prop}
  (n:∀ v u g x y c,Inv X pins σ c g->RelV x v->RelV y u->R x y c->wpAny (model X.prog X.w) X.A (f v u) Q X.xe g) :
  wpAny (model X.prog X.w) X.A (eval a X.env) (λv d=>wpAny (model X.prog X.w) X.A (eval b X.env) (λu e=>wpAny (model X.prog X.w) X.A (f v u) Q X.xe e) X.xe d) X.xe s:=by
 show thn (m pins s σ H _ I h) λv t ⟨x,i,j,q,o⟩=>?_;show thn (hb pins t σ i _ j o) λu g ⟨y,c,l,r,p⟩=>?_;show n v u g x y c l q r p
theorem qp{op:Operator}(f:OpR X (binaryOp op) r)(e:PE X a ta)(hb:PE X b tb):PE X (.BinOp a op b pos) (tOp r ta tb):=by
 intro pins s σ H Q I h;show wpAny_BinOp (qg4 e hb I h λv u j x y c d g i q=>f pins j σ c x y v u Q d g i q)
theorem qcq{op:UnaryOp}{r:V->Hp->VK->Prop}(e:UnR X (unaryOp op) r)(d:PE X a ta):PE X (.UnaryOp op a pos) (tUn r ta):=by
 intro pins s σ H Q I h;show UnaryOp_ (thn (d pins s σ H _ I h) λv i ⟨x,b,c,g,f⟩=>e pins i σ b x v Q c g f)
theorem opI{C:Int->Int->Prop}{g:Int->Int->Int}
  (a:∀(i j:Int) (t u:Tok) (s:Shared) (Q:Value->Shared->Prop) (E:Value->Shared->Prop),C i j->Q (.int (g i j) s.toks) { s with toks:=s.toks+1 }->wpAny (model X.prog X.w) X.A (f (.int i t) (.int j u)) Q E s) :
  OpR X f (rI C λi j=>.int (g i j)):=by
 intro pins s σ H x y v u Q I b c h;obtain⟨i,j,rfl,rfl,hc,q⟩:=h;obtain⟨t,rfl⟩:=b;obtain⟨t',rfl⟩:=c;show a i j t t' s _ _ hc ⟨.int (g i j),H,I.tok _,⟨_,rfl⟩,q⟩
theorem qgV{g:Int->Int->Int}
  (a:∀(i j:Int) (t u:Tok) (s:Shared) (Q:Value->Shared->Prop) (E:Value->Shared->Prop),Q (.int (g i j) s.toks) { s with toks:=s.toks+1 }->wpAny (model X.prog X.w) X.A (f (.int i t) (.int j u)) Q E s) :
  OpR X f (rI0 λi j=>.int (g i j)):=by
 intro pins s σ H x y v u Q I b c h;obtain⟨i,j,rfl,rfl,q⟩:=h;obtain⟨t,rfl⟩:=b;obtain⟨t',rfl⟩:=c;show a i j t t' s _ _ ⟨.int (g i j),H,I.tok _,⟨_,rfl⟩,q⟩
theorem qg5{g:Int->Int->Bool}
  (a:∀(i j:Int) (t u:Tok) (s:Shared) (Q:Value->Shared->Prop) (E:Value->Shared->Prop),Q (.bool (g i j)) s->wpAny (model X.prog X.w) X.A (f (.int i t) (.int j u)) Q E s) :
  OpR X f (rI0 λi j=>.bl (g i j)):=by
 intro pins s σ H x y v u Q I b c h;obtain⟨i,j,rfl,rfl,q⟩:=h;obtain⟨t,rfl⟩:=b;obtain⟨t',rfl⟩:=c;show a i j t t' s _ _ ⟨.bl (g i j),H,I,rfl,q⟩
def CDiv(i j:Int):Prop:=0<j/\j<1073741824
def qhn(i j:Int):Prop:=0<=j/\j<=1000000/\i.natAbs<2 ^ 64
def CMul(i j:Int):Prop:=(-(2 ^ 64)<i/\i<2 ^ 64)\/(-(2 ^ 64)<j/\j<2 ^ 64)
theorem CMul.ok{i j:Int}(h:CMul i j):IntMulOk i j:=by
 rcases h with⟨h1,a⟩ | ⟨h1,a⟩
 .show .of_left (intBits_le_64 h1 a)
 .show .of_right (intBits_le_64 h1 a)
theorem two_pow_nn(k:Nat):(0:Int)<=2 ^ k:=by
 rw[two_pow_cast];show Int.natCast_nonneg _
theorem op_add:OpR X (binaryOp .Add) (rI0 λi j=>.int (i+j)):=qgV λ_ _ _ _ _ _ _ q=>add_int q
theorem qaI:OpR X (binaryOp .Sub) (rI0 λi j=>.int (i-j)):=qgV λ_ _ _ _ _ _ _ q=>sub_int q
theorem op_mul:OpR X (binaryOp .Mult) (rI CMul λi j=>.int (i*j)):=opI λ_ _ _ _ _ _ _ hc q=>mul_int q hc.ok
theorem qeK:OpR X (binaryOp .FloorDiv) (rI CDiv λi j=>.int (i / j)):=opI λi j _ _ _ _ _ hc q=>by
 have h1:(0:Int)<j:=hc.1;have a:j<1073741824:=hc.2;show floordiv_int (by lk) (by rw[Int.fdiv_eq_ediv_of_nonneg i (by lk)];show q) (.inl (PyProof.noPylong_small (by lk)))
theorem zq:OpR X (binaryOp .Mod) (rI (λ_ j=>0<j) λi j=>.int (i % j)):=opI λi j _ _ _ _ _ hc q=>by
 have h1:(0:Int)<j:=hc;show mod_int' (by lk) (by rw[Int.fmod_eq_emod_of_nonneg i (by lk)];show q)
theorem op_pow:OpR X (binaryOp .Pow) (rI qhn λi j=>.int (i ^ j.toNat)):=opI λ_ _ _ _ _ _ _ hc q=>pow_int_small hc.1 hc.2.1 hc.2.2 q
theorem j7:OpR X (binaryOp .LShift) (rI qhn λi j=>.int (i*2 ^ j.toNat)):=opI λ_ _ _ _ _ _ _ hc q=>lshift_int_small hc.1 hc.2.1 hc.2.2 q
theorem qaJ:OpR X (binaryOp .RShift) (rI (λ_ j=>0<=j) λi j=>.int (i / 2 ^ j.toNat)):=opI λi j _ _ _ _ _ hc q =>
 rshift_int hc (by rw[Int.fdiv_eq_ediv_of_nonneg i (two_pow_nn _)];show q)
theorem jF:OpR X (binaryOp .BitAnd) (rI0 λi j=>.int (Builtin.bitAnd i j)):=qgV λ_ _ _ _ _ _ _ q=>and_int q
theorem qdq:OpR X (binaryOp .BitOr) (rI0 λi j=>.int (Builtin.bitOr i j)):=qgV λ_ _ _ _ _ _ _ q=>or_int q
theorem unI{f:Value->Sem Value}{g:Int->Int}
  (a:∀(i:Int) (t:Tok) (s:Shared) (Q:Value->Shared->Prop) (E:Value->Shared->Prop),Q (.int (g i) s.toks) { s with toks:=s.toks+1 }->wpAny (model X.prog X.w) X.A (f (.int i t)) Q E s) :
  UnR X f (rU λi=>.int (g i)):=by
 intro pins s σ H x v Q I b h;obtain⟨i,rfl,q⟩:=h;obtain⟨t,rfl⟩:=b;show a i t s _ _ ⟨.int (g i),H,I.tok _,⟨_,rfl⟩,q⟩
theorem un_neg:UnR X (unaryOp .USub) (rU λi=>.int (-i)):=unI λ_ _ _ _ _ q=>neg_int q
theorem qbj:UnR X (unaryOp .Invert) (rU λi=>.int (Builtin.bitNot i)):=unI λ_ _ _ _ _ q=>invert_int q
end
def scal:V->V->Bool
 | .non,.non=>true | .non,.int _=>true | .int _,.non=>true | .non,.bl _=>true | .bl _,.non=>true | .non,.str _=>true | .str _,.non=>true
 | .int _,.int _=>true | .bl _,.bl _=>true | .str _,.str _=>true | .byt _,.byt _=>true
 | .int _,.str _=>true | .str _,.int _=>true | .bl _,.str _=>true | .str _,.bl _=>true
 | _,_=>false
def rEq:R2:=λx y H Q=>scal x y=true/\Q (.bl (decide (x=y))) H
theorem dec_bl{i j:Bool}:decide (V.bl i=V.bl j)=(i==j):=by
 rw[Yu];simp
section
variable{X:Cx}{a b c:Expr}{ta tb tc:TE}{pos:Pos}
theorem qeL{Q:VK}{k k':Bool}(I:Inv X pins σ H s)(q:Q (.bl k) H)(e:k=k'):EP X pins σ Q (.bool k') s:=by
 subst e;show⟨.bl k,H,I,rfl,q⟩
theorem qfB:OpR X (compareOp .Lt) (rI0 λi j=>.bl (decide (i<j))):=qg5 λ_ _ _ _ _ _ _ q=>lt_int q
theorem op_le:OpR X (compareOp .LtE) (rI0 λi j=>.bl (decide (i<=j))):=qg5 λ_ _ _ _ _ _ _ q=>le_int q
theorem qge:OpR X (compareOp .Gt) (rI0 λi j=>.bl (decide (j<i))):=qg5 λ_ _ _ _ _ _ _ q=>gt_int q
theorem op_isN:OpR X (compareOp .Is) (λx y H Q=>y=.non/\Q (.bl (decide (x=.non))) H):=by
 intro pins s σ H x y v u Q I a b h;obtain⟨rfl,q⟩:=h;cases b;show is_none_gen (qeL I q ?_);cases x<;>first
  | (cases a;rfl)
  | (obtain⟨t,rfl⟩:=a;rfl)
theorem qB(b:Expr)(h:op≠.In:=by decide)(d:op≠.NotIn:=by decide):behindInMarks op b=false:=by
 have a:(op==CmpOp.In)=false:=by cases op<;>first | rfl | show absurd rfl h
 have c:(op==CmpOp.NotIn)=false:=by cases op<;>first | rfl | show absurd rfl d
 cases b<;>simp[behindInMarks,a,c]
theorem zM(g:OpR X (compareOp op) r)(e:PE X a ta)(hb:PE X b tb)(f:behindInMarks op b=false):PE X (.Compare a [op] [b] pos) (tOp r ta tb):=by
 intro pins s σ H Q I h;show wpAny_Compare1 (qg4 e hb I h λv u l x y c d i j q=>g pins l σ c x y v u Q d i j q) f
def qgf(t:TE):TT:=fun σ H Q=>t σ H λx H'=>∃ k,x=.bl k/\Q k H'
theorem qq(o:OpR X (compareOp op) r)(m:PE X a ta)(hb:PE X b tb)(n:behindInMarks op b=false):PT X (.Compare a [op] [b] pos) (qgf (tOp r ta tb)):=by
 intro pins s σ H Q I h
 show wpAny_isTrue_Compare1 (thn (m pins s σ H _ I h) λv C ⟨x,d,i,w,p⟩=>thn (hb pins C σ d _ i p) λu D ⟨y,f,j,A,q⟩ =>
  thn (o pins D σ f x y v u _ j w A q) λc E ⟨z,g,l,B,k,e,t⟩=>?_) n
 subst e;cases B;show xW ⟨g,l,t⟩
def qeM(r r':R2)(ta tb tc:TE):TE:=fun σ H Q=>ta σ H λx b=>tb σ b λy c=>r x y c λz a=>∃ k,z=.bl k /\
 (if k=true then tc σ a λe d=>r' y e d Q else Q (.bl false) a)
theorem qdR(B:OpR X (compareOp op) r)(f:OpR X (compareOp op') r')(w:PE X a ta)(hb:PE X b tb)(hc:PE X c tc)
  (A:lastMarks [op,op'] [b,c]=false:=by with_unfolding_all rfl):PE X (.Compare a [op,op'] [b,c] pos) (qeM r r' ta tb tc):=by
 intro pins s σ H Q I h
 show Compare_chain (thn (w pins s σ H _ I h) λv K ⟨x,m,p,F,C⟩=>chain_link (thn (hb pins K σ m _ p C) λu L ⟨y,n,q,l,D⟩ =>
  thn (B pins L σ n x y v u _ q F l D) λd M ⟨z,g,i,G,k,e,j⟩=>?_)) A
 subst e;cases G;show xW ?_
 cases k with
 | false=>show ite_ff ⟨.bl false,g,i,rfl,j⟩
 | true=>show ite_tt (chain_last (thn (hc pins M σ g _ i j) λO N ⟨P,o,t,J,E⟩=>f pins N σ o y P u O Q t l J E))
theorem qdS(F:OpR X (compareOp op) r)(f:OpR X (compareOp op') r')(D:PE X a ta)(hb:PE X b tb)(hc:PE X c tc)
  (E:lastMarks [op,op'] [b,c]=false:=by with_unfolding_all rfl):PT X (.Compare a [op,op'] [b,c] pos) (qgf (qeM r r' ta tb tc)):=by
 intro pins s σ H Q I h
 show isTrue_chain (thn (D pins s σ H _ I h) λv S ⟨x,m,q,N,J⟩=>test_link (thn (hb pins S σ m _ q J) λu T ⟨y,n,t,l,K⟩ =>
  thn (F pins T σ n x y v u _ t N l K) λd U ⟨z,g,i,O,k,e,j⟩=>?_)) E
 subst e;cases O;show xW ?_
 cases k with
 | false =>
  obtain⟨k',B,G⟩:=j;cases B;show ite_ff ⟨g,i,G⟩
 | true =>
  show ite_tt (test_last (thn (hc pins U σ g _ i j) λY W ⟨Z,o,w,P,L⟩=>thn (f pins W σ o y Z u Y _ w l P L) λd' s5 ⟨z2,p,A,R,k2,C,M⟩=>?_));subst C;cases R;show xW ⟨p,A,M⟩
theorem qcb:(sizeLine:Nat)<2 ^ 63:=by rw[xt];decide
theorem op_add_str:OpR X (binaryOp .Add) (λx y H Q=>∃ i j,x=.str i/\y=.str j/\i.length+j.length<=sizeLine/\Q (.str (i++j)) H):=by
 intro pins s σ H x y v u Q I b c h;obtain⟨i,j,rfl,rfl,a,q⟩:=h;obtain⟨t,rfl⟩:=b;obtain⟨t',rfl⟩:=c;show add_str (λt' tk=>⟨.str (i++j),H,I.tok _,⟨_,rfl⟩,q⟩) a
theorem qbn{x:V}(r:Vals [x] us):∃ u,us=[u]/\RelV x u:=by
 cases r with
 | cons r1 r2=>cases r2;show⟨_,rfl,r1⟩
theorem qfC{x:V}(r:Vals [x,y] us):∃ u a,us=[u,a]/\RelV x u/\RelV y a:=by
 cases r with
 | cons r1 r2 =>
  cases r2 with
  | cons r3 r4=>cases r4;show⟨_,_,rfl,r1,r3⟩
theorem qaK(hc:X.calm=true):zL X (.builtin "max") (λxs H Q=>∃ i j,xs=[.int i,.int j]/\Q (.int (if j>i then j else i)) H):=by
 intro pins s σ H xs us Q I r h;obtain⟨i,j,rfl,q⟩:=h;obtain⟨u,b,rfl,⟨t,rfl⟩,⟨t',rfl⟩⟩:=qfC r;show max_two_ints (I.ok.hd hc) λh' tk k=>⟨_,H,I.kept k,?_,q⟩;by_cases a:j>i
 .rw [yH a,yH a];show⟨_,rfl⟩
 .rw [yD a,yD a];show⟨_,rfl⟩
theorem call_int1:zL X (.type "int") (λxs H Q=>(∃ i,xs=[.int i]/\Q (.int i) H)\/∃ k,xs=[.bl k]/\Q (.int (if k then 1 else 0)) H):=by
 intro pins s σ H xs us Q I r h;rcases h with⟨i,rfl,q⟩ | ⟨k,rfl,q⟩
 .obtain⟨u,rfl,t,rfl⟩:=qbn r;show call_int_int ⟨.int i,H,I,⟨_,rfl⟩,q⟩
 .obtain⟨u,rfl,a⟩:=qbn r;cases a;show call_int_bool ⟨.int (if k then 1 else 0),H,I.tok _,⟨_,rfl⟩,q⟩
end
structure ObjM(h:Heap)(x dx C:Addr)(mA:Str->Option Value):Prop where
 obj:h.get? x=some (PySem.W.instObj C dx)
 ns:h.Ns1 dx mA
 ne:dx≠x
theorem qcS(n:h.Ns1 dx mA):∃ od,h.get? dx=some od/\∀ name,PySem.W.lookIn name od=some (mA name):=by
 obtain⟨o,es,ep,i,d,f,_,g⟩:=n;show⟨o,i,λname=>?_⟩;have e:=g name;unfold nsFind findBy at e;rw[<- Array.find?_toList] at e;unfold PySem.W.lookIn;rw[d];dsimp only;split
 .rename_i y q
  rw[q] at e;show congrArg some e
 .rename_i q
  rw[q] at e
  have a:es.toList.any (·.refKey)=false:=by
   rw[List.any_eq_false];intro y j;obtain⟨z,t,b⟩:=f y (Array.mem_toList_iff.mp j);simp[DictEntry.refKey,b]
  have c:¬ es.toList.any (·.refKey)=true:=by rw[a];show Yn
  rw[yD c];show congrArg some e
theorem ObjM.look{x:Addr}(I:ObjM h x dx C mA):∃ od,PySem.W.InstAt h x (PySem.W.instObj C dx) C (some od)/\∀ name,PySem.W.lookIn name od=some (mA name):=
 let ⟨od,ho,hl⟩:=qcS I.ns
 ⟨od,⟨I.obj,rfl,rfl,ho⟩,hl⟩
section
variable{prog:Program}{w:World}{A:Around}{E:Value->Shared->Prop}{s:Shared}{K:yg}{x dx C f:Addr}{mA:Str->Option Value}{name:Str}{v:Value}
theorem get_map{a:Bool}{Q:Value->Shared->Prop}(X:K.In s.heap)(I:ObjM s.heap x dx C mA)(d:PySem.W.plainGet K C name=true)(e:PySem.W.hasDictIn K C=true)
  (c:PySem.W.findIn K (.ref C) name=some none) (hv:mA name=some v) (b:PySem.W.handedIn v=true) (h:Q v { s with toks:=s.toks+1 }) :
  wpAny (model prog w) A (getAttr (.ref x) name a) Q E s:=by
 obtain⟨od,J,hl⟩:=I.look;show PySem.W.get_value X J (kJ d).1 (PySem.W.findObj_own e c rfl (by rw[hl,hv])) b h
theorem get_meth{pl:Sem Bool}{Q:Value×List Value->Shared->Prop}(X:K.In s.heap)(I:ObjM s.heap x dx C mA)(a:PySem.W.plainGet K C name=true)
  (b:PySem.W.findIn K (.ref C) name=some (some (.ref f))) (c:PySem.W.isFn K (.ref f)=true) (hv:mA name=none) (h:Q (.ref f,[.ref x]) s) :
  wpAny (model prog w) A (getMethod (.ref x) name pl) Q E s:=by
 obtain⟨od,J,hl⟩:=I.look;show PySem.W.method_fn X J (kJ a).1 (kJ a).2 b (Ym.mp c) (by show(PySem.W.lookIn name od).map (·.isSome)=some false;rw[hl,hv];rfl) h
theorem set_map{ns:LS}{Q:Unit->Shared->Prop}(X:K.In s.heap)(I:ObjM s.heap x dx C mA)
  (o:PySem.W.findIn K (.ref C) "__setattr__"=some (some (.builtin "object.__setattr__"))) (n:PySem.W.plainOver K C=true) (p:PySem.W.takerIn K C name=some none) (m:PySem.W.hasDictIn K C=true)
  (hw:PySem.Within mA ns) (hsz:ns.length<=sizeLine)
  (h:∀ h',ObjM h' x dx C (λy=>if y=name then some v else mA y)->Heap.SameBut dx s.heap h'->Q () { s with heap:=h',toks:=s.toks+2 }) :
  wpAny (model prog w) A (setAttr (.ref x) name v) Q E s:=by
 obtain⟨od,J,hl⟩:=I.look;show PySem.W.set_plain X J o (PySem.W.osa_open (s:={ s with toks:=s.toks+1 }) (r:=none) X J n p λb=>?_);obtain⟨t,hc,f⟩:=Xd m;have q:s.heap.get? x=some ⟨.ref C,some dx,.plain,#[]⟩:=I.obj;show yr (yE (yr (yr (wpAny_loadPart q (yr (PySem.W.Looks.here (s:={ s with toks:=s.toks+1 }) (kK X hc) ?_))))));rw[f];show yE (a:=some dx) (yr (yE (yr ?_)));show wpAny_nsSet1 (s:={ s with toks:=s.toks+1 }) I.ns λh' c d=>?_;obtain⟨u,l,j,i,g,e⟩:=c.count (PySem.Within.cons name v hw);show yr (wpAny_lookBehind i (by rw[g];show pastItsLine_dict (yi e (by rw[yx];lk))) ?_);show yE (h _ ⟨(d.2 _ (YI I.ne)).trans I.obj,c,I.ne⟩ d)
theorem make_map{R:Result->Shared->Prop}{vs:List Value}(X:K.In s.heap)(c:PySem.W.makesIn K C=true)
  (b:PySem.W.findIn K (.ref C) "__init__"=some (some (.ref f))) (a:PySem.W.typeIn K (.ref f)=some (.type "function"))
  (h:codeAny (model prog w) (A.under (.builtin "type.__call__" ⟨.ref C::vs,kw⟩)) (.call (.ref f) ⟨.ref (s.heap.objs.size+1)::vs,kw⟩) (PySem.W.InitBack (s.heap.objs.size+1) R)
   { s with heap:=(s.heap.push PySem.W.emptyDict).push (PySem.W.instObj C s.heap.objs.size) }) :
  codeAny (model prog w) A (.call (.ref C) ⟨vs,kw⟩) R s:=by
 obtain⟨e,g,d,t,i⟩:=s;show PySem.W.make_core (PySem.W.makes_of X c) (YQ X b) (λself=>PySem.W.bind_fn X self a) (.inl rfl) h
end
def j4(f:Str)(v:V):List (Str×V)->List (Str×V)
 | []=>[(f,v)]
 | (g,x)::r=>if g=f then(g,v)::r else(g,x)::j4 f v r
theorem qE(f g:Str)(v:V):∀ fs:List (Str×V),(j4 f v fs).lookup g=if g=f then some v else fs.lookup g
 | []=>by
  show List.lookup g [(f,v)]=_;by_cases h:g=f
  .have hb:(g==f)=true:=Ym.mpr h;simp only[List.lookup,hb,yH h]
  .have hb:(g==f)=false:=Yy.mpr h;simp only[List.lookup,hb,yD h]
 | (k,x)::r=>by
  have b:=qE f g v r;rw[show j4 f v ((k,x)::r)=(if k=f then(k,v)::r else(k,x)::j4 f v r) from rfl];by_cases a:k=f
  .rw [yH a];by_cases h:g=k
   .have hb:(g==k)=true:=Ym.mpr h;simp only[List.lookup,hb,yH (h.trans a)]
   .have hb:(g==k)=false:=Yy.mpr h;simp only[List.lookup,hb,yD (λe:g=f=>h (e.trans a.symm))]
  .rw [yD a];by_cases h:g=k
   .have hb:(g==k)=true:=Ym.mpr h;simp only[List.lookup,hb,yD (λe:g=f=>a (h.symm.trans e))]
   .have hb:(g==k)=false:=Yy.mpr h;simp only[List.lookup,hb];show b
theorem qbL(f:Str)(v:V):∀ fs:List (Str×V),f∈(j4 f v fs).map (·.1)/\∀ g,g∈fs.map (·.1)->g∈(j4 f v fs).map (·.1)
 | []=>⟨by simp[j4],λg h=>by simp at h⟩
 | (k,x)::r=>by
  obtain⟨b,c⟩:=qbL f v r;rw[show j4 f v ((k,x)::r)=(if k=f then(k,v)::r else(k,x)::j4 f v r) from rfl];by_cases a:k=f
  .rw [yH a];subst a;show⟨by simp,λg h=>by simpa using h⟩
  .rw [yD a];show⟨?_,λg h=>?_⟩
   .rw [YG];show yy _ b
   .rw [YG] at h ⊢;rcases yv.mp h with e | e
    .show yv.mpr (.inl e)
    .show yy _ (c g e)
theorem zd(f:Str)(v:V):∀ fs:List (Str×V),(j4 f v fs).length<=fs.length+1
 | []=>by simp[j4]
 | (k,x)::r=>by
  have b:=zd f v r;rw[show j4 f v ((k,x)::r)=(if k=f then(k,v)::r else(k,x)::j4 f v r) from rfl];by_cases a:k=f
  .rw [yH a,yx,yx];lk
  .rw [yD a,yx,yx];lk
theorem RelO.some_of{o:Option Value}(r:RelO (some v) o):∃ u,o=some u/\RelV v u:=by
 cases o with
 | none=>show(show False from r).elim
 | some u=>show⟨u,rfl,r⟩
theorem RelO.none_of{o:Option Value}(r:RelO none o):o=none:=by
 cases o with
 | none=>rfl
 | some u=>show(show False from r).elim
theorem qcT(r:RelV v u):PySem.W.handedIn u=true:=by
 cases v with
 | non=>cases (show u=Value.none from r);rfl
 | bl b=>cases (show u=Value.bool b from r);rfl
 | int i=>obtain⟨t,e⟩:=(show ∃ t,u=Value.int i t from r);cases e;rfl
 | str x=>obtain⟨t,e⟩:=(show ∃ t,u=Value.str x t from r);cases e;rfl
 | byt b=>obtain⟨t,e⟩:=(show ∃ t,u=Value.bytes b t from r);cases e;rfl
 | flt b=>obtain⟨t,e⟩:=(show ∃ t,u=Value.float b t from r);cases e;rfl
 | ref a=>cases (show u=Value.ref a from r);rfl
 | ty n=>cases (show u=Value.type n from r);rfl
section
variable{P:Program}{w:World}{H H':Hp}{h h':Heap}{a C dx:Addr}{fs fs':List (Str×V)}
theorem qbc(b:HOk P w H h)(e:H a=some (.ins C dx fs)):∃ mA,ObjM h a dx C mA/\(∀ f,RelO (fs.lookup f) (mA f))/\PySem.Within mA (fs.map (·.1))/\fs.length<=1000/\H dx=some (.own a):=by
 obtain⟨d,z,ne,c,mA,n,r,q⟩:=(show ObjOk P w H h a (.ins C dx fs) from b a _ e);show⟨mA,⟨c,n,ne⟩,r,q,z,d⟩
end
structure Cls(K:yg)(C:Addr):Prop where
 pg:PySem.W.plainGet K C Str.empty=true
 hd:PySem.W.hasDictIn K C=true
 po:PySem.W.plainOver K C=true
 sa:PySem.W.findIn K (.ref C) "__setattr__"=some (some (.builtin "object.__setattr__"))
theorem Cls.get{K:yg}(c:Cls K C)(f:Str):PySem.W.plainGet K C f=true:=c.pg
def NoAttr(K:yg)(C:Addr)(f:Str):Prop:=PySem.W.findIn K (.ref C) f=some none
theorem NoAttr.taker{K:yg}{f:Str}(n:NoAttr K C f):PySem.W.takerIn K C f=some none:=by
 unfold PySem.W.takerIn;rw[show PySem.W.findIn K (.ref C) f=some none from n];rfl
structure Con(K:yg)(C:Addr)(f:Str)(v:V)(u:Value):Prop where
 at_:PySem.W.findIn K (.ref C) f=some (some u)
 rel:RelV v u
 get:PySem.W.specialIn K u "__get__"=some none
 cp:PySem.W.copiedNames.contains f=false
structure Meth(K:yg)(C:Addr)(m:Str)(f:Addr):Prop where
 at_:PySem.W.findIn K (.ref C) m=some (some (.ref f))
 fn:PySem.W.isFn K (.ref f)=true
 kp:PySem.W.keepIn K (.ref f)=true
section
variable{X:Cx}{pins:List (Addr×Obj)}{σ:St}{H:Hp}{s:Shared}{a C dx:Addr}{fs:List (Str×V)}{f:Str}{v:V}{A:Around}{E:Value->Shared->Prop}
theorem getattr_ok{b:Bool}{Q:Value->Shared->Prop}(I:Inv X pins σ H s)(e:H a=some (.ins C dx fs))(c:Cls X.K C)(n:NoAttr X.K C f)(l:fs.lookup f=some v)
  (h:∀ u s',Inv X pins σ H s'->RelV v u->Q u s'):wpAny (model X.prog X.w) A (getAttr (.ref a) f b) Q E s:=by
 obtain⟨mA,O,r,_,_,_⟩:=qbc I.hok e;obtain⟨u,g,d⟩:=RelO.some_of (v:=v) (o:=mA f) (by rw[<- l];show r f);show get_map I.kIn O (c.get f) c.hd n g (qcT d) (h u _ (I.tok _) d)
theorem qcc{m:Str}{g:Addr}{pl:Sem Bool}{Q:Value×List Value->Shared->Prop}(I:Inv X pins σ H s)(e:H a=some (.ins C dx fs))(c:Cls X.K C)(k:Meth X.K C m g)(l:fs.lookup m=none)
  (h:Q (.ref g,[.ref a]) s):wpAny (model X.prog X.w) A (getMethod (.ref a) m pl) Q E s:=by
 obtain⟨mA,O,r,_,_,_⟩:=qbc I.hok e;have b:mA m=none:=RelO.none_of (by rw[<- l];show r m);show get_meth I.kIn O (c.get m) k.at_ k.fn b h
theorem setattr_ok{Q:Unit->Shared->Prop}(I:Inv X pins σ H s)(e:H a=some (.ins C dx fs))(c:Cls X.K C)(n:NoAttr X.K C f)(hl:fs.length<1000)(t:RelV y u)
  (h:∀ s',Inv X pins σ (upd H a (.ins C dx (j4 f y fs))) s'->Q () s'):wpAny (model X.prog X.w) A (setAttr (.ref a) f u) Q E s:=by
 obtain⟨mA,O,r,j,_,i⟩:=qbc I.hok e;have p:(fs.map (·.1)).length<=sizeLine:=by rw[ya,xt];lk
 show set_map I.kIn O c.sa c.po n.taker c.hd j p λh' d v=>h _ ?_;have l:∃ o,h'.get? dx=some o:=let ⟨o,_,_,e',_⟩:=d.ns;⟨o,e'⟩;show I.write (x:=a) (e:=dx) (by rw[e];show YR) (.inr i) (λb q hb z=>(v.2 b hb).trans z) l ?_;show⟨by rw[qi O.ne];show i,?_,O.ne,d.obj,_,d.ns,λg=>?_,λg m=>?_⟩
 .have:=zd f y fs;lk
 .show RelO ((j4 f y fs).lookup g) (if g=f then some u else mA g);rw[qE];by_cases q:g=f
  .rw [yH q,yH q];show t
  .rw [yD q,yD q];show r g
 .by_cases q:g=f
  .rw [q];show(qbL f y fs).1
  .show(qbL f y fs).2 g (j g λz=>m ?_);show(if g=f then some u else mA g)=none;rw[yD q];show z
theorem Inv.made(I:Inv X pins σ H s):Inv X pins σ (upd (upd H s.heap.objs.size (.own (s.heap.objs.size+1))) (s.heap.objs.size+1) (.ins C s.heap.objs.size []))
  { s with heap:=(s.heap.push PySem.W.emptyDict).push (PySem.W.instObj C s.heap.objs.size) }:=by
 have c:(s.heap.push PySem.W.emptyDict).get? s.heap.objs.size=some PySem.W.emptyDict:=Ye s.heap rfl
 have f:((s.heap.push PySem.W.emptyDict).push (PySem.W.instObj C s.heap.objs.size)).get? (s.heap.objs.size+1)=some (PySem.W.instObj C s.heap.objs.size):=by
  have:=Ye (s.heap.push PySem.W.emptyDict) (o:=PySem.W.instObj C s.heap.objs.size) rfl
  rwa[xu] at this
 have g:(s.heap.push PySem.W.emptyDict).Ns s.heap.objs.size (λ_=>none):=⟨PySem.W.emptyDict,#[],_,c,rfl,(λe h=>absurd h (by simp)),λ_=>rfl⟩;have d:=I.laid (a:=s.heap.objs.size) (o:=.own (s.heap.objs.size+1)) (h':=s.heap.push PySem.W.emptyDict) (t':=s.toks) (λb u q=>yw _ q) (yh _) ⟨_,c⟩;show d.laid (a:=s.heap.objs.size+1) (o:=.ins C s.heap.objs.size []) (t':=s.toks) (λb u q=>yw _ q) (kg (xu _ _)) ?_;have ne:s.heap.objs.size≠s.heap.objs.size+1:=Yl (Kd _);show⟨by rw[qi ne,qb],Yx _,ne,f,λ_=>none,(Heap.Ns1.of_empty g).at λo q=>yw _ q,λ_=>YR,λy i=>absurd rfl i⟩
theorem attr_of{prog:Program}{env:Env}{f:Str}{Q:Value->Shared->Prop}(hb:attributeBase e f env (eval e env)=eval e env)
  (h:wpAny (model prog w) A (eval e env) (λo a=>wpAny (model prog w) A (getAttr o f true) Q E a) E s):wpAny (model prog w) A (eval (.Attribute e f pos) env) Q E s:=
 Attribute_any_ h (by rw[arm_eval_Attribute,hb])
end
section
variable{X:Cx}{o e value:Expr}{f:Str}{pos pos' tpos:Pos}{ta tv:TE}
end
section
variable{X:Cx}{pins:List (Addr×Obj)}{σ:St}{H:Hp}{s:Shared}{A:Around}{E:Value->Shared->Prop}{Q:Value->Shared->Prop}{c:Value}{b:Bool}
inductive TyOf(K:yg)(H:Hp):V->Value->Prop where
 | non:TyOf K H .non (.type "NoneType")
 | bl (x:Bool):TyOf K H (.bl x) (.type "bool")
 | int (i:Int):TyOf K H (.int i) (.type "int")
 | str (x:Str):TyOf K H (.str x) (.type "str")
 | flt (x:UInt64):TyOf K H (.flt x) (.type "float")
 | lst {a:Addr} {xs:List V} (e:H a=some (.lst xs)):TyOf K H (.ref a) (.type "list")
 | frz {a:Addr} {o:Obj} {xs:List V} (e:H a=some (.frz o (.lst xs))):TyOf K H (.ref a) (.type "list")
 | tup {a:Addr} {xs:List V} (e:H a=some (.tup xs)):TyOf K H (.ref a) (.type "tuple")
 | dK {a:Addr} {kvs:List (Key×V)} (e:H a=some (.dK kvs)):TyOf K H (.ref a) (.type "dict")
 | dT {a:Addr} {kvs:List (List Key×V)} (e:H a=some (.dT kvs)):TyOf K H (.ref a) (.type "dict")
 | ins {a C dx:Addr} {fs:List (Str×V)} (e:H a=some (.ins C dx fs)) (cl:Cls K C) (ha:PySem.W.findIn K (.ref C) "__class__"=some (some (.builtin "object.__class__")))
   (hn:PySem.W.specialIn K (.builtin "object.__class__") "__get__"=some (some (.builtin "getset_descriptor.__get__"))) (htk:PySem.W.takesIn K (.builtin "object.__class__")=some true)
   (hm:PySem.W.mroIn K C (.type "object")=some true):TyOf K H (.ref a) (.ref C)
end
structure Room(k:Nat)(A:Around):Prop where
 hd:A.handled=none
 dp:A.depth+3*k+5<recursionLimit
 un:A.units+16*k+200<cLine
 gd:A.guards=some []
theorem Room.mono{k:Nat}(r:Room k A)(h:j<=k):Room j A:=⟨r.hd,by have:=r.dp;lk,by have:=r.un;lk,r.gd⟩
theorem Room.deeper{k:Nat}(r:Room (k+1) A)(env:Env):Room k (A.deeper env):=
 ⟨r.hd,by have:=r.dp;show A.depth+1+3*k+5<_;lk,by have:=r.un;show A.units+3+16*k+200<_;lk,r.gd⟩
theorem make_depth:(A.under (.builtin "type.__call__" ⟨.ref C::us,kw⟩)).depth=A.depth+1:=by
 first | rfl | simp[Around.under,Code.weight,Code.isCreation,Code.isGuard,Code.isCaller,Code.frames,Code.isFrame,guardIds]
theorem make_units:(A.under (.builtin "type.__call__" ⟨.ref C::us,kw⟩)).units=A.units+1:=by
 first | rfl | simp[Around.under,Code.cUnits,Code.frames,Code.isFrame]
theorem make_guards:(A.under (.builtin "type.__call__" ⟨.ref C::us,kw⟩)).guards=A.guards:=by
 first | rfl | simp[Around.under,Code.guards,Code.isGuard,guardIds,pushGuards]
theorem Room.make{k:Nat}(r:Room (k+1) A)(C:Addr)(us:List Value)(kw:List (Str×Value)):Room k (A.under (.builtin "type.__call__" ⟨.ref C::us,kw⟩)):=
 ⟨r.hd,by have:=r.dp;rw[make_depth];lk,by have:=r.un;rw[make_units];lk,by rw[make_guards];show r.gd⟩
theorem Room.depth{k:Nat}(r:Room k A):A.depth<recursionLimit:=by have:=r.dp;lk
def qgW:TA:=λ_ H Q=>Q [] H
def qgx(ta:TE)(c:TA):TA:=fun σ H Q=>ta σ H λx a=>c σ a λxs b=>Q (x::xs) b
section
variable{X:Cx}{e:Expr}{es:List Expr}{te:TE}{t:TA}{pos:Pos}
theorem qd:PA X [] qgW:=λ_ _ _ _ H Q I h=>kS ⟨[],H,I,.nil,h⟩
theorem qa(f:PE X e te)(g:PA X es t)(i:starEach (e::es) X.env=(false,eval e X.env)::starEach es X.env:=by rfl):PA X (e::es) (qgx te t):=by
 intro pos pins s σ H Q I h;rw[i];show wpAny _ _ (spliced ((false,eval e X.env)::backTo pos (starEach es X.env))) _ _ s;show XU (thn (f pins s σ H _ I h) λu o ⟨x,a,c,m,j⟩=>?_);show thn (g pos pins o σ a _ c j) λus p ⟨xs,b,d,n,l⟩=>⟨x::xs,b,d,.cons m n,l⟩
inductive NewT(xs:List V)(H:Hp)(Q:VK):Prop|mk (_:xs.length<=sizeLine) (_:∀ p,H p=none->Q (.ref p) (upd H p (.tup xs)))
inductive NewL(xs:List V)(H:Hp)(Q:VK):Prop|mk (_:xs.length<=sizeLine) (_:∀ p,H p=none->Q (.ref p) (upd H p (.lst xs)))
def qho(t:TA):TE:=fun σ H Q=>t σ H λxs a=>NewT xs a Q
def qhp(t:TA):TE:=fun σ H Q=>t σ H λxs a=>NewL xs a Q
theorem jg{x1}(h:PA X es t):PE X (.Tuple es x1 pos) (qho t):=by
 intro pins s σ H Q I g;show wpAny_Tuple_spliced (thn (h pos pins s σ H _ I g) λus a ⟨xs,c,d,r,z,q⟩=>⟨by rw[<- r.length];show z,?_⟩);have f:c a.heap.objs.size=none:=d.hok.fresh (yh _);show⟨.ref a.heap.objs.size,upd c a.heap.objs.size (.tup xs),d.laid (t':=a.toks) (λb u e=>yw _ e) (yh _) ?_,rfl,q _ f⟩;show⟨z,us,r,⟨_,Ye _ rfl,rfl,_,rfl⟩⟩
theorem qz(h:PA X es t):PE X (.List es pos) (qhp t):=by
 intro pins s σ H Q I g;show wpAny_List_spliced (thn (h pos pins s σ H _ I g) λus a ⟨xs,c,d,r,z,q⟩=>⟨by rw[<- r.length];show z,?_⟩);have f:c a.heap.objs.size=none:=d.hok.fresh (yh _);show⟨.ref a.heap.objs.size,upd c a.heap.objs.size (.lst xs),d.laid (t':=a.toks) (λb u e=>yw _ e) (yh _) ?_,rfl,q _ f⟩;show⟨z,us,0,r,Ye _ rfl⟩
end
abbrev Sp:=List V->Hp->VK->XK->Prop
abbrev CXT:=List Env->Hp->Shared->XK->Value->Shared->Prop
structure Env0(P:Program)(w:World)(K:yg)(mg:Str->Option Value)(base:Heap)(A:Around)(outer:List Env)(s:Shared)(H:Hp):Prop where
 frames:A.frames=some outer
 mod:Mod K mg base
 bs:∀ b o,base.get? b=some o->s.heap.get? b=some o/\H b=none
 bsz:base.objs.size<=s.heap.objs.size
 funs:s.heap.FunFrames base outer
 frf:∀ b∈frs outer,H b=none
 hok:HOk P w H s.heap
 bare:AllBare s.gens
def CE(outer:List Env)(P:Program)(w:World)(H:Hp)(s:Shared)(Q:VK)(u:Value)(s':Shared):Prop:=
 ∃ v H',s'.os=s.os/\AllBare s'.gens/\Un (frs outer) [] H H' s.heap s'.heap/\HOk P w H' s'.heap/\RelV v u/\Q v H'
def CR(CX:CXT)(outer:List Env)(P:Program)(w:World)(H:Hp)(s:Shared)(Q:VK)(E:XK)(r:Result)(s':Shared):Prop:=
 match r with
 | .ok (.ret u)=>CE outer P w H s Q u s'
 | .ok _=>False
 | .error e=>CX outer H s E e s'
structure FnOk(P:Program)(w:World)(K:yg)(mg:Str->Option Value)(base:Heap)(CX:CXT)(k:Nat)(f:Addr)(fd:FuncData)(ps:LS)(sp:Sp):Prop where
 len:∀ vs H Q E,sp vs H Q E->vs.length=ps.length
 run:∀(A:Around) (outer:List Env) (s:Shared) (H:Hp) (args:Args) (us:List Value) (vs:List V) (Q:VK) (E:XK),Room k A->Env0 P w K mg base A outer s H->BindsTo s fd args (ps.zip us)->Vals vs us->sp vs H Q E ->
  codeAny (model P w) A (.call (.ref f) args) (CR CX outer P w H s Q E) s
theorem Env0.make{K:yg}(e:Env0 P w K mg base A outer s H)(C:Addr)(us:List Value)(kw:List (Str×Value)) :
  Env0 P w K mg base (A.under (.builtin "type.__call__" ⟨.ref C::us,kw⟩)) outer s H:=⟨by first | show e.frames | (simpa [Around.under,Code.envs,Code.isFrame,pushEnvs] using e.frames),e.mod,e.bs,e.bsz,e.funs,e.frf,e.hok,e.bare⟩
section
variable{X:Cx}{pins:List (Addr×Obj)}{σ:St}{H:Hp}{s s':Shared}
theorem Inv.env0(I:Inv X pins σ H s):Env0 X.prog X.w X.K X.mg X.base X.A X.stack s H:=
 ⟨I.ok.frames,I.ok.mod,I.bs,yi I.ok.bsz I.sz,I.stack,I.stkFree,I.hok,I.bare⟩
theorem Inv.after{Q:VK}(I:Inv X pins σ H s)(h:CE X.stack X.prog X.w H s Q u s'):EP X pins σ Q u s':=by
 obtain⟨v,H',i,a,un,c,r,q⟩:=h;obtain⟨f,g,d,t,e⟩:=s';obtain rfl:e=s.os:=i;show⟨v,H',I.call (h':=f) (g':=g) (d':=d) (t':=t) (ch:=[]) un c a (λb z=>absurd z (by simp)),r,q⟩
end
def qeN(sp:Sp)(a:List V)(E:XK)(t:TA):TE:=fun σ H Q=>t σ H λvs b=>sp (vs++a) b Q E
inductive MeR(C:Addr)(m:Str)(x:V)(H:Hp)(k:Prop):Prop|mk (a dx:Addr) (fs:List (Str×V)) (_:x=.ref a) (_:H a=some (.ins C dx fs)) (_:fs.lookup m=none) (_:k)
def qeO(C:Addr)(m:Str)(sp:Sp)(a:List V)(E:XK)(ta:TE)(t:TA):TE:=fun σ H Q=>ta σ H λx b=>MeR C m x b (t σ b λvs c=>sp (x::(vs++a)) c Q E)
def qgg(C:Addr)(sp:Sp)(b:List V)(E:XK)(t:TA):TE:=fun σ H Q=>t σ H λvs a=>∀ x dx,a x=none->a dx=none->dx≠x ->
 sp (.ref x::(vs++b)) (upd (upd a dx (.own x)) x (.ins C dx [])) (λv c=>v=.non/\Q (.ref x) c) E
def Binds(K:yg)(b:FuncData)(ps:LS)(a:List Value):Prop:=
 ∀(s:Shared) (us:List Value),K.In s.heap->(us++a).length=ps.length->BindsTo s b ⟨us,[]⟩ (ps.zip (us++a))
theorem Binds.all{K:yg}{a:FuncData}(h:∀ us:List Value,us.length=ps.length->bindArgs a ⟨us,[]⟩=pure (ps.zip us)):Binds K a ps []:=λs us _ hl=>by
 rw[Yg] at hl ⊢;show .of_eq (h us hl)
def qad(CX:CXT)(X:Cx)(E:XK):Prop:=∀(pins:List (Addr×Obj)) (σ:St) (H:Hp) (s:Shared) (e:Value) (s':Shared),Inv X pins σ H s->CX X.stack H s E e s'->X.xe e s'
section
variable{X:Cx}{CX:CXT}{k:Nat}{f C:Addr}{fd:FuncData}{ps:LS}{sp:Sp}{dvs:List V}{ds:List Value}{E:XK}{x m:Str}{p pos apos:Pos}{e o:Expr}{es:List Expr}{ta:TE}{t:TA}
theorem qdT{Q:VK}(F:FnOk X.prog X.w X.K X.mg X.base CX k f fd ps sp)(d:Room k X.A)(hb:Binds X.K fd ps ds)(c:Vals dvs ds)(g:qad CX X E)
  (I:Inv X pins σ H s) (r:Vals vs us) (h:sp (vs++dvs) H Q E):wpAny (model X.prog X.w) X.A (call (.ref f) us) (EP X pins σ Q) X.xe s:=by
 have b:Vals (vs++dvs) (us++ds):=r.append c;have hl:(us++ds).length=ps.length:=by rw[<- b.length];show F.len _ _ _ _ h
 show Xn (XF (F.run X.A X.stack s H ⟨us,[]⟩ (us++ds) (vs++dvs) Q E d I.env0 (hb s us I.kIn hl) b h) λr s' a=>?_)
 cases r with
 | error e=>show g pins σ H s e s' I a
 | ok fl =>
  cases fl with
  | ret u=>show I.after a
  | next=>show False.elim a
  | brk=>show False.elim a
  | cont=>show False.elim a
theorem pe_call(F:FnOk X.prog X.w X.K X.mg X.base CX k f fd ps sp)(n:Room k X.A)(j:Gl X x)(m:X.mg x=some (.ref f))(l:PySem.W.keepIn X.K (.ref f)=true)(hb:Binds X.K fd ps ds)(g:Vals dvs ds)(o:qad CX X E)
  (d:PA X (e::es) t) (a:(x==("__debug__":Str))=false:=by decide) (i:starEach (e::es) X.env=(false,eval e X.env)::starEach es X.env:=by rfl) (b:(backTo pos (starEach es X.env)).any (·.1)=false:=by rfl) :
  PE X (.Call (.Name x p) (e::es) [] pos) (qeN sp dvs E t):=by
 intro pins s σ H Q I h;show xJ (qab I j m ?_ a);show xK (h₀:=X.base) I.ok.mod.kin l (thn (d pos pins s σ H _ I h) λus v ⟨vs,u,c,r,q⟩=>⟨c.kIn,?_⟩) i b;show qdT F n hb g o c r q
theorem pe_meth{pl:Sem Bool}(B:PE X o ta)(c:Cls X.K C)(j:Meth X.K C m f)(F:FnOk X.prog X.w X.K X.mg X.base CX k f fd ps sp)(D:Room k X.A)(hb:Binds X.K fd ps ds)(z:Vals dvs ds)(J:qad CX X E)(y:PA X (e::es) t)
  (d:starEach (e::es) X.env=(false,eval e X.env)::starEach es X.env:=by rfl) (b:(backTo pos (starEach es X.env)).any (·.1)=false:=by rfl)
  (G:eval (.Call (.Attribute o m apos) (e::es) [] pos) X.env=(do
   let ov <- eval o X.env
   standAt apos.atName
   let (f,first) <- holding [ov] (getMethod ov m pl)
   callWith pos f first (backTo pos (starEach (e::es) X.env)) (backToKw pos (keywordEach [] X.env))):=by rfl) :
  PE X (.Call (.Attribute o m apos) (e::es) [] pos) (qeO C m sp dvs E ta t):=by
 intro pins s σ H Q I h;show Xs (pl:=pl) (thn (B pins s σ H _ I h) λu N ⟨x,n,g,M,a,dx,fs,v,p,l,q⟩=>?_) G;subst v;obtain rfl:u=Value.ref a:=M;show qcc g p c j l ?_;show xK (first:=[.ref a]) (h₀:=X.base) I.ok.mod.kin j.kp (thn (y pos pins N σ n _ g q) λus P ⟨vs,O,i,r,L⟩=>⟨i.kIn,?_⟩) d b;show qdT (us:=.ref a::us) (vs:=.ref a::vs) F D hb z J i (.cons rfl r) L
theorem pe_meth0{pl:Sem Bool}(j:PE X o ta)(c:Cls X.K C)(d:Meth X.K C m f)(F:FnOk X.prog X.w X.K X.mg X.base CX k f fd ps sp)(n:Room k X.A)(hb:Binds X.K fd ps ds)(i:Vals dvs ds)(r:qad CX X E)
  (p:eval (.Call (.Attribute o m apos) [] [] pos) X.env=(do
   let ov <- eval o X.env
   standAt apos.atName
   let (f,first) <- holding [ov] (getMethod ov m pl)
   callWith pos f first (backTo pos (starEach [] X.env)) (backToKw pos (keywordEach [] X.env))):=by rfl) :
  PE X (.Call (.Attribute o m apos) [] [] pos) (qeO C m sp dvs E ta qgW):=by
 intro pins s σ H Q I h;show Xs (pl:=pl) (thn (j pins s σ H _ I h) λu y ⟨x,v,b,t,a,dx,fs,g,e,l,q⟩=>?_) p;subst g;obtain rfl:u=Value.ref a:=t;show qcc b e c d l ?_;show PySem.W.callWith_K0 (first:=[.ref a]) b.kIn d.kp (qdT (us:=[.ref a]) (vs:=[.ref a]) F n hb i r b (.cons rfl .nil) q)
structure Mk(K:yg)(C f:Addr):Prop where
 makes:PySem.W.makesIn K C=true
 init:PySem.W.findIn K (.ref C) "__init__"=some (some (.ref f))
 fn:PySem.W.isFn K (.ref f)=true
 kp:PySem.W.keepIn K (.ref C)=true
theorem run_make{Q:VK}(M:Mk X.K C f)(F:FnOk X.prog X.w X.K X.mg X.base CX k f fd ps sp)(m:Room (k+1) X.A)(hb:Binds X.K fd ps ds)(l:Vals dvs ds)
  (n:qad CX X E) (I:Inv X pins σ H s) (r:Vals vs us)
  (h:∀ x dx,H x=none->H dx=none->dx≠x->sp (.ref x::(vs++dvs)) (upd (upd H dx (.own x)) x (.ins C dx [])) (λv g=>v=.non/\Q (.ref x) g) E) :
  wpAny (model X.prog X.w) X.A (call (.ref C) us) (EP X pins σ Q) X.xe s:=by
 have c:=h (s.heap.objs.size+1) s.heap.objs.size (I.hok.fresh (XY _)) (I.hok.fresh (yh _)) (Yl (Kd _));have b:=Inv.made (C:=C) I;have d:Vals (V.ref (s.heap.objs.size+1)::(vs++dvs)) (Value.ref (s.heap.objs.size+1)::(us++ds)):=.cons rfl (r.append l)
 have hl:(Value.ref (s.heap.objs.size+1)::us++ds).length=ps.length:=by
  have e:=d.length;rw[F.len _ _ _ _ c] at e;show e.symm
 show Xn (make_map (f:=f) I.kIn M.makes M.init (Ym.mp M.fn) (XF (F.run _ X.stack _ _ ⟨Value.ref (s.heap.objs.size+1)::us,[]⟩ (Value.ref (s.heap.objs.size+1)::(us++ds)) _ _ E (m.make C us [])
  (b.env0.make C us []) (hb _ (Value.ref (s.heap.objs.size+1)::us) b.kIn hl) d c) λr s' a=>?_))
 cases r with
 | error e=>show n pins σ _ _ e s' b a
 | ok fl =>
  cases fl with
  | ret u =>
   obtain⟨v,H',i,p,j,o⟩:=b.after a;subst j;show⟨p,⟨V.ref (s.heap.objs.size+1),H',i,rfl,o⟩⟩
  | next=>show False.elim a
  | brk=>show False.elim a
  | cont=>show False.elim a
theorem pe_make(M:Mk X.K C f)(F:FnOk X.prog X.w X.K X.mg X.base CX k f fd ps sp)(m:Room (k+1) X.A)(j:Gl X x)(l:X.mg x=some (.ref C))(hb:Binds X.K fd ps ds)(g:Vals dvs ds)(n:qad CX X E)
  (d:PA X (e::es) t) (a:(x==("__debug__":Str))=false:=by decide) (i:starEach (e::es) X.env=(false,eval e X.env)::starEach es X.env:=by rfl) (b:(backTo pos (starEach es X.env)).any (·.1)=false:=by rfl) :
  PE X (.Call (.Name x p) (e::es) [] pos) (qgg C sp dvs E t):=by
 intro pins s σ H Q I h;show xJ (qab I j l ?_ a);show xK (h₀:=X.base) I.ok.mod.kin M.kp (thn (d pos pins s σ H _ I h) λus u ⟨vs,o,c,r,q⟩=>⟨c.kIn,?_⟩) i b;show run_make M F m hb g n c r q
end
section
variable{X:Cx}{CX:CXT}{k:Nat}{f C:Addr}{fd:FuncData}{ps ks:LS}{sp:Sp}{E:XK}{x m:Str}{p pos apos kpos:Pos}{e o:Expr}{es:List Expr}{kws:List Keyword}{te ta:TE}{t tk:TA}{nm:Option Str}
structure KBinds(K:yg)(fd:FuncData)(ps ks:LS)(g:List Value->List Value->List Value)(gV:List V->List V->List V):Prop where
 to:∀(s:Shared) (us ws:List Value),K.In s.heap->(g us ws).length=ps.length->BindsTo s fd ⟨us,ks.zip ws⟩ (ps.zip (g us ws))
 rel:∀{vs:List V} {us:List Value} {zs:List V} {ws:List Value},Vals vs us->Vals zs ws->Vals (gV vs zs) (g us ws)
variable{g:List Value->List Value->List Value}{gV:List V->List V->List V}
end
structure FnScope(N P:LS)(sc:Scope):Prop where
 kind:sc.kind=.function
 co:sc.isCoroutine=false
 gen:sc.isGenerator=false
 nd:N.Nodup
 pre:N.take P.length=P
 par:∀ x∈P,sc.names.lookup x=some .local\/sc.names.lookup x=some .cell
 nofree:∀ y∈sc.names,y.2≠.free
theorem fS{P:LS}(a:sc.kind=.function:=by rfl)(b:sc.isCoroutine=false:=by rfl)(c:sc.isGenerator=false:=by rfl)(d:N.Nodup:=by room)(e:N.take P.length=P:=by rfl)(f:∀ x∈P,sc.names.lookup x=some .local\/sc.names.lookup x=some .cell:=by room)(g:∀ y∈sc.names,y.2≠.free:=by room):FnScope N P sc:=⟨a,b,c,d,e,f,g⟩
theorem qcU:∀{binds:List (Str×Value)} {m:Str->Option Value},(∀ v,(x,v)∉binds)->bindL kindOf binds m x=m x
 | [],_,_=>rfl
 | (n,v)::r,m,h=>by
  unfold bindL;rw[qcU λw hw=>h w (yy _ hw)];split
  .have:x≠n:=by rintro rfl;show h v yM
   simp[this]
  .rfl
theorem qcV:∀{binds:List (Str×Value)} {m:Str->Option Value},(∀ v,(x,v)∉binds)->bindC kindOf binds m x=m x
 | [],_,_=>rfl
 | (n,v)::r,m,h=>by
  unfold bindC;rw[qcV λw hw=>h w (yy _ hw)];split
  .rfl
  .have:x≠n:=by rintro rfl;show h v yM
   simp[this]
theorem qcW{v:Value}:∀{P:LS} {vs:List Value} {i:Nat} {m:Str->Option Value},P.Nodup->P[i]?=some x->vs[i]?=some v->kindOf x=some .local ->
  bindL kindOf (P.zip vs) m x=some v
 | [],_,_,_,_,h,_,_=>by simp at h
 | _::_,[],_,_,_,_,h,_=>by simp at h
 | p::P,w::vs,0,m,nd,h1,h2,hk=>by
  simp at h1 h2;subst h1;subst h2;show bindL kindOf ((p,w)::P.zip vs) m p=_;unfold bindL;rw[qcU λv hv=>(yo.mp nd).1 (Kp hv).1,yH hk];simp
 | p::P,w::vs,i+1,m,nd,h1,h2,hk=>by
  show bindL kindOf ((p,w)::P.zip vs) m x=_;unfold bindL;show qcW (i:=i) (yo.mp nd).2 (by simpa using h1) (by simpa using h2) hk
theorem qcX{v:Value}:∀{P:LS} {vs:List Value} {i:Nat} {m:Str->Option Value},P.Nodup->P[i]?=some x->vs[i]?=some v->kindOf x≠some .local ->
  bindC kindOf (P.zip vs) m x=some v
 | [],_,_,_,_,h,_,_=>by simp at h
 | _::_,[],_,_,_,_,h,_=>by simp at h
 | p::P,w::vs,0,m,nd,h1,h2,hk=>by
  simp at h1 h2;subst h1;subst h2;show bindC kindOf ((p,w)::P.zip vs) m p=_;unfold bindC;rw[qcV λv hv=>(yo.mp nd).1 (Kp hv).1,yD hk];simp
 | p::P,w::vs,i+1,m,nd,h1,h2,hk=>by
  show bindC kindOf ((p,w)::P.zip vs) m x=_;unfold bindC;show qcX (i:=i) (yo.mp nd).2 (by simpa using h1) (by simpa using h2) hk
def start(N:LS)(vs:List V):St:=vs.map some++List.replicate (N.length-vs.length) none
def qfN(CX:CXT)(P:Program)(w:World)(K:yg)(mg:Str->Option Value)(base:Heap)(N:LS)(qual:Str)(scope:Scope)(f:Addr)(b:Value)(A:Around)(outer:List Env)(s:Shared)(H:Hp)(E:XK):Cx where
 prog:=P
 w:=w
 K:=K
 mg:=mg
 base:=base
 A:=A.deeper (envOfC qual scope s.heap.objs.size f b)
 N:=N
 s₀:=s
 H₀:=H
 env:=envOfC qual scope s.heap.objs.size f b
 outer:=outer
 stack:=envOfC qual scope s.heap.objs.size f b::outer
 ex:=[]
 calm:=true
 fn:=λ_=>true
 pn:=[]
 xe:=λe s'=>wpAny (model P w) (A.deeper (envOfC qual scope s.heap.objs.size f b)) (leaving (envOfC qual scope s.heap.objs.size f b) e) (λ_ a=>CX outer H s E e a) (λc a=>CX outer H s E c a) s'
theorem qdU(h:sc.names.lookup x=some .cell):∃ c,(cellsFrom n sc.names []).lookup x=some c:=by
 have q:=PySem.W.cellsFrom_some sc.names n [] (.inl h);show YX.mp q
theorem inv_start{K:yg}{f:Addr}{o:Value}{D:Shared}{E:XK}
  (S:FnScope N ps scope) (G:A.handled=none) (g:Env0 P w K mg base A outer s H) (hl:vs.length=ps.length) (r:Vals vs us)
  (x:InCallC s s.heap.objs.size (bindL (envOfC qual scope s.heap.objs.size f o).kindOf (ps.zip us) λ_=>none) (cellsFrom (s.heap.objs.size+1) scope.names []) (bindC (envOfC qual scope s.heap.objs.size f o).kindOf (ps.zip us) λ_=>none) D) :
  Inv (qfN CX P w K mg base N qual scope f o A outer s H E) [] (start N vs) H D:=by
 have I:ps.length<=N.length:=by have:=congrArg List.length S.pre;rw[yK] at this;lk
 obtain⟨h1,tk,rfl,B⟩:=x.done;have j:∀ b:Addr,b∉(qfN CX P w K mg base N qual scope f o A outer s H E).ex:=λb z=>absurd (show b∈([]:LI) from z) (by simp);show⟨⟨g.mod,S.kind,rfl,rfl,yh _,λy z c h1 d=>?_,λy hy=>?_,λy c _ h=>?_,λ_=>G,Around.frames_deeper g.frames,.inr ⟨rfl,rfl⟩,λb z=>absurd z (j b),g.bs,g.bsz,λb _ _=>j b,λb z=>absurd z (j b),g.funs,g.frf⟩,
  rfl,g.bare,Un.kept B,⟨_,x.toInCall.ns,λi y v h1 d L=>?_⟩,λy c h=>⟨_,x.cell y c h⟩,g.hok.fresh (yh _),λy c h=>?_,λp l=>absurd (show p∈([]:List (Addr×Obj)) from l) (by simp),g.hok.kept B,?_⟩
 .show name_of_addr x.apart (Xc h1) (Xc d)
 .have hy:scope.names.lookup y=some .cell\/scope.names.lookup y=some .free:=hy;rcases hy with hy | hy
  .show qdU hy
  .show absurd rfl (S.nofree _ (Xc hy))
 .show yN (x.above y c (Xc h))
 .have t:i<vs.length:=by
   unfold start at d;by_cases t:i<vs.length
   .show t
   .rw [yY (by simpa using t)] at d;rw[Xe] at d;split at d<;>cases d
  have F:vs[i]?=some v:=by
   unfold start at d;rw[Yi (by simpa using t),yd] at d
   cases e:vs[i]? with
   | none=>rw[e] at d;cases d
   | some a=>rw[e] at d;cases d;rfl
  obtain⟨u,C,J⟩:=r.get F
  have l:ps[i]?=some y:=by
   rw[<- S.pre,List.getElem?_take_of_lt (by lk)];show h1
  have m:ps.Nodup:=by rw[<- S.pre];show S.nd.sublist (kh _ _)
  show⟨u,J,?_⟩;rcases S.par y (ye l) with k | k
  .show .inl ⟨k,qcW m l C k⟩
  .obtain⟨c,e⟩:=qdU (n:=s.heap.objs.size+1) k;show .inr ⟨.inl k,c,e,?_⟩;have q:=x.cell y c e;rw[qcX m l C (by show scope.names.lookup y≠_;rw[k];decide)] at q;show q
 .show g.hok.fresh (yN (x.above y c (Xc h)))
 .unfold start;show _=N.length;rw[yu,ya,xo];lk
theorem qgy{K:yg}{k:Nat}{f:Addr}{name:Str}{c:Arguments}{O kV j R a ct oc:Value}{M od:Option Addr}
  {F:Array (Option Value)} {sp:Sp} (lk:K.lookup f=some ⟨oc,od,.func (PySem.W.fnOf name qual c body scope O kV j R M a ct),F⟩) (B:PySem.W.codeIn K a qual=true) (S:FnScope N ps scope)
  (z:∀ vs H Q E,sp vs H Q E->vs.length=ps.length)
  (g:∀(A:Around) (outer:List Env) (s:Shared) (H:Hp) (vs:List V) (Q:VK) (E:XK),Room k (A.deeper (envOfC qual scope s.heap.objs.size f a))->sp vs H Q E ->
   ∃ t,PSs (qfN CX P w K mg base N qual scope f a A outer s H E) body t/\t { nx:=λ_ H'=>Q .non H',rt:=Q } (start N vs) H) :
  FnOk P w K mg base CX (k+1) f (PySem.W.fnOf name qual c body scope O kV j R M a ct) ps sp:=by
 show⟨z,λA outer s H args us vs Q E C l hb r p=>?_⟩;have hl:=z _ _ _ _ p;have L:K.In s.heap:=l.mod.kin.keeps λb o e=>(l.bs b o e).1;have D:s.heap.NoLimit:=l.mod.nolimit.keeps λb o e=>(l.bs b o e).1
 have h:∀ y∈ps.zip us,scope.names.lookup y.1=some .local\/(scope.names.lookup y.1=some .cell/\((cellsFrom (s.heap.objs.size+1) scope.names []).lookup y.1).isSome=true):=λ⟨n,v⟩ hy=>by
  rcases S.par n (Kp hy).1 with q | q
  .show .inl q
  .show .inr ⟨q,PySem.W.cellsFrom_some _ _ _ (.inl q)⟩
 show codeAny_call_function C.depth (L _ _ lk) rfl S.co S.gen rfl (PySem.W.codeRec_of L B) (hb _ _ _ _ ?_);show wpAny_newFunctionEnv_cells S.kind h λenv X T x=>?_;subst X;show⟨D.keeps x.toInCall.keep,codeAny_func ?_⟩;obtain⟨t,Z,Y⟩:=g A outer s H vs Q E (C.deeper _) p;have I:Inv (qfN CX P w K mg base N qual scope f a A outer s H E) [] (start N vs) H T:=inv_start S C.hd l hl r x;show YJ (Z [] T (start N vs) H _ I Y) (λU s' i=>?_) λe s' i=>i
 have m:∀{d:St} {H':Hp} {v:V} {u:Value},Inv (qfN CX P w K mg base N qual scope f a A outer s H E) [] d H' s'->RelV v u->Q v H'->CE outer P w H s Q u s':=
  λ{d H' v u} J G q=>⟨v,H',J.os,J.bare,J.base,J.hok,G,q⟩
 cases U with
 | ret u =>
  obtain⟨v,d,H',J,G,q⟩:=i;show m J G q
 | next =>
  obtain⟨d,H',J,q⟩:=i;show m (v:=V.non) (u:=Value.none) J rfl q
 | brk =>
  obtain⟨_,_,_,q⟩:=i;show False.elim q
 | cont =>
  obtain⟨_,_,_,q⟩:=i;show False.elim q
section
variable{X:Cx}{x:Str}{p pos:Pos}{e:Expr}{es:List Expr}{t:TA}{id T:String}{r:List V->Hp->VK->Prop}
def tCB(r:List V->Hp->VK->Prop)(t:TA):TE:=fun σ H Q=>t σ H λvs a=>r vs a Q
theorem qj(hc:zL X (.builtin id) r)(i:Gl X x)(j:X.mg x=none)(hv:bootBuiltins x=some (.builtin id))(f:PA X (e::es) t)(l:x≠"__name__":=by decide)(a:(x==("__debug__":Str))=false:=by decide)
  (g:starEach (e::es) X.env=(false,eval e X.env)::starEach es X.env:=by rfl) (b:(backTo pos (starEach es X.env)).any (·.1)=false:=by rfl):PE X (.Call (.Name x p) (e::es) [] pos) (tCB r t):=by
 intro pins s σ H Q I h;show xJ (qbJ I i j hv ?_ l a);show PyProof.Rows.callWith_builtin1 (thn (f pos pins s σ H _ I h) λus o ⟨vs,c,d,n,m⟩=>hc pins o σ c vs us Q d n m) g b
theorem zH(hc:zL X (.type T) r)(i:Gl X x)(j:X.mg x=none)(hv:bootBuiltins x=some (.type T))(f:PA X (e::es) t)(l:x≠"__name__":=by decide)(a:(x==("__debug__":Str))=false:=by decide)
  (g:starEach (e::es) X.env=(false,eval e X.env)::starEach es X.env:=by rfl) (b:(backTo pos (starEach es X.env)).any (·.1)=false:=by rfl):PE X (.Call (.Name x p) (e::es) [] pos) (tCB r t):=by
 intro pins s σ H Q I h;show xJ (qbJ I i j hv ?_ l a);show xE (thn (f pos pins s σ H _ I h) λus o ⟨vs,c,d,n,m⟩=>hc pins o σ c vs us Q d n m) g b
end
end L2
namespace HT
open PySem PyProof.Rows
variable{hi lo:Option Int}{sl t:Addr}{vl vu:Value}
def lexLt:LQ->LQ->Bool
 | [],[]=>false
 | [],_::_=>true
 | _::_,[]=>false
 | x::xs,y::ys=>if x=y then lexLt xs ys else decide (x<y)
section
open PySem.SeqAt
open PySem.AutoSeq1 (wpAny_loadPart')
open PySem.MeetsSeq PySem.MeetsSeq2 PySem.MeetsSeq3
end
section
variable{prog:Program}{w:World}{A:Around}{E:Value->Shared->Prop}{s:Shared}
theorem cat_tup{b:Addr}{vs a:List Value}{Q:Value->Shared->Prop}(r:IsTup s.heap t vs.toArray)(hb:IsTup s.heap b a.toArray)(hv:vs≠[])
  (h1:a=[]->Q (.ref t) s) (q:a≠[]->Q (.ref s.heap.objs.size) { s with heap:=s.heap.push { cls:=.type "tuple",data:=.seq (vs++a).toArray } })
  (hsz:vs.length+a.length<=sizeLine):wpAny (model prog w) A (binaryOp .Add (.ref t) (.ref b)) Q E s:=by
 obtain⟨⟨cls,m,data,sl⟩,i,hc,n,o⟩:=id r;obtain⟨⟨l,d,j,h⟩,c,f,p,g⟩:=id hb;simp only at hc o f g;subst hc o f g;have e:vs.toArray++a.toArray=(vs++a).toArray:=by simp
 by_cases hw:a=[]
 .show concat_meets ⟨_,i,rfl⟩ ⟨_,c,rfl⟩ noFill_tuple_add seq_tuple_add PySem.F.slot_tuple_add PySem.F.entry_tuple_add (PySem.F.args_tuple_add_2 _ _)
   (tuple_addW1 t b vs.toArray a.toArray n p m d sl h (by simpa using hv) (by simp[hw])) ⟨i,c,h1 hw⟩
 .show concat_meets ⟨_,i,rfl⟩ ⟨_,c,rfl⟩ noFill_tuple_add seq_tuple_add PySem.F.slot_tuple_add PySem.F.entry_tuple_add (PySem.F.args_tuple_add_2 _ _)
   (tuple_addW2 t b vs.toArray a.toArray n p m d sl h (by simpa using hv) (by simpa using hw) (by rw[yA,yA];show hsz)) ⟨i,c,?_⟩
  rw[e];show q hw
def sIx(n d:Nat):Option Int->Nat
 | none=>d
 | some v=>if v<0 then(v+(n:Int)).toNat else min v.toNat n
theorem sIx_none(n d:Nat):sIx n d none=d:=rfl
theorem sIx_nat(n d k:Nat):sIx n d (some (k:Int))=min k n:=by
 show(if (k:Int)<0 then((k:Int)+(n:Int)).toNat else min (k:Int).toNat n)=min k n;rw[yD (by lk),yS]
theorem sIx_le(n d:Nat)(a:d<=n)(o:Option Int):sIx n d o<=n:=by
 cases o with
 | none=>show a
 | some v =>
  show(if v<0 then(v+(n:Int)).toNat else min v.toNat n)<=n;by_cases hv:v<0
  .rw [yH hv];lk
  .rw [yD hv];show kr _ _
theorem qeP(v:Int)(n d:Nat):(if v<0 then max (v+(n:Int)) 0 else min v (n:Int))=((sIx n d (some v):Nat):Int):=by
 show(if v<0 then max (v+(n:Int)) 0 else min v (n:Int))=(((if v<0 then(v+(n:Int)).toNat else min v.toNat n):Nat):Int);by_cases hv:v<0
 .simp only[yH hv];lk
 .simp only[yD hv];lk
theorem adjust_gen(lo hi:Option Int)(n:Nat):Builtin.Slice.sliceAdjust lo hi 1 (n:Int)=(((sIx n 0 lo:Nat):Int),((sIx n n hi:Nat):Int)):=by
 have h1:¬ ((1:Int)<0):=by lk
 unfold Builtin.Slice.sliceAdjust;simp only[h1,ki];show Xf ?_ ?_
 .cases lo with
  | none=>rfl
  | some v=>show qeP v n 0
 .cases hi with
  | none=>rfl
  | some v=>show qeP v n n
theorem places_gen(i j:Nat):Builtin.Slice.slicePlaces (i:Int) (j:Int) 1=j-i:=by
 unfold Builtin.Slice.slicePlaces;have h1:(1:Int)>0:=by lk
 simp only[h1,Xu,Int.ediv_one];split<;>lk
theorem qcd{v:Value}{o:Option Int}{Q:Option Int->Shared->Prop}(p:IsPart v o)(h:Q o s):wpAny (model prog w) A (Builtin.Slice.slicePartIndex v) Q E s:=by
 cases p with
 | none=>show slicePart_none h
 | int i t=>show slicePart_int h
theorem sliceApplied_gen{n:Nat}{Q:Int×Int×Nat->Shared->Prop}(d:s.heap.IsSliceOf sl vl vu .none)(pl:IsPart vl lo)(e:IsPart vu hi)
  (h:Q (((sIx n 0 lo:Nat):Int),1,sIx n n hi-sIx n 0 lo) s):wpAny (model prog w) A (Builtin.Slice.sliceApplied (.ref sl) (pure (n:Int))) Q E s:=by
 obtain⟨f,b,c,a⟩:=id d;unfold Builtin.Slice.sliceApplied Builtin.Slice.sliceFields;show yr (yr (XZ b a (x:=vl) rfl (yr (XZ b a (x:=vu) rfl (yr (XZ b a (x:=.none) rfl (yE ?_)))))));show yr (slicePart_none ?_);show wpAny _ _ (if ((1:Int)==0)=true then _ else _) _ _ s;rw[yD (by decide)];show yr (qcd pl (yr (qcd e (yr (yE ?_)))));show wpAny _ _ (match Builtin.Slice.sliceAdjust lo hi 1 (n:Int) with | (lo,hi)=>pure (lo,(1:Int),Builtin.Slice.slicePlaces lo hi 1)) _ _ s;rw[adjust_gen lo hi n];show wpAny _ _ (pure (((sIx n 0 lo:Nat):Int),(1:Int),Builtin.Slice.slicePlaces ((sIx n 0 lo:Nat):Int) ((sIx n n hi:Nat):Int) 1)) _ _ s;rw[places_gen];show yE h
theorem pick_gen(xs:Array Value)(i k:Nat):((List.range k).filterMap λ(m:Nat)=>xs[((i:Int)+(m:Int)*1).toNat]?).toArray=((xs.toList.drop i).take k).toArray:=by
 have e:(λ(m:Nat)=>xs[((i:Int)+(m:Int)*1).toNat]?)=λm=>xs[i+m]?:=by
  funext m;have:((i:Int)+(m:Int)*1).toNat=i+m:=by lk
  rw[this]
 rw[e];have:=pick_run xs i k;rw[List.filterMap_map] at this;have a:((λx=>xs[x]?) ∘ λx=>i+x)=λm=>xs[i+m]?:=rfl;rw[a] at this;rw[this]
theorem getItem_tuple_cut{a:Array Value}{Q:Value->Shared->Prop}(c:IsTup s.heap t a)(i:s.heap.IsSliceOf sl vl vu .none)(pl:IsPart vl lo)(n:IsPart vu hi)
  (hw:¬ (sIx a.size 0 lo=0/\sIx a.size a.size hi=a.size))
  (h:Q (.ref s.heap.objs.size) { s with heap:=s.heap.push { cls:=.type "tuple",data:=.seq ((a.toList.drop (sIx a.size 0 lo)).take (sIx a.size a.size hi-sIx a.size 0 lo)).toArray } })
  (hsz:a.size<=sizeLine):wpAny (model prog w) A (getItem (.ref t) (.ref sl)) Q E s:=by
 have b:sizeOk (.seq ((a.toList.drop (sIx a.size 0 lo)).take (sIx a.size a.size hi-sIx a.size 0 lo)).toArray):=by
  show((a.toList.drop (sIx a.size 0 lo)).take (sIx a.size a.size hi-sIx a.size 0 lo)).toArray.size<=sizeLine;rw[yA,yK,YU,Xb];lk
 have o:sIx a.size a.size hi<=a.size:=sIx_le _ _ (yh _) hi;obtain⟨l,g,e,j⟩:=id i;have d:s.TypeIs (.ref sl) "slice":=⟨l,g,e⟩;unfold getItem
 try with_reducible show YT ?_
 first | show yr (yE ?_) | skip
 show yr (wpAny_sequenceKey c.typeIs (by decide) ?_);show yr (wpAny_callSpecial?_slot (name:=Str.ofString "__getitem__") c.typeIs Xa
  (wpAny_call_entry Xa c.typeIs entry_tuple_getitem ?_ (args_tuple_getitem _ _)))
 show wpAny _ _ (Builtin.Tuple.tupleItemsOf (.ref t)>>=_) _ _ s;show yr (tupleItemsOf_ c ?_);show yr (wpAny_typeOf d ?_);rw[yH (by decide)];show yr (sliceApplied_gen i pl n ?_)
 have f:¬ ((((sIx a.size 0 lo:Nat):Int)==0&&(1:Int)==1&&(sIx a.size a.size hi-sIx a.size 0 lo)==a.size)=true):=by
  intro q;rw[yL,yL] at q;have p:((sIx a.size 0 lo:Nat):Int)=0:=eq_of_beq q.1.1;have r:sIx a.size a.size hi-sIx a.size 0 lo=a.size:=eq_of_beq q.2;show hw ⟨by lk,by lk⟩
 show wpAny _ _ (if (((sIx a.size 0 lo:Nat):Int)==0&&(1:Int)==1&&(sIx a.size a.size hi-sIx a.size 0 lo)==a.size)=true then _ else _) _ _ s;rw[yD f,pick_gen]
 first
  | show yr (m:=Builtin.Tuple.tupleExact _) (xX (yE ⟨_,rfl,yE h⟩) b)
  | show yr (m:=Builtin.Tuple.tupleExact _) (xX (yr (yE (yE ⟨_,rfl,yE h⟩))) b)
  | show yr (yr (m:=Builtin.Tuple.tupleExact _) (xX (yE (yE ⟨_,rfl,yE h⟩)) b))
  | show yr (yr (m:=Builtin.Tuple.tupleExact _) (xX (yE ⟨_,rfl,yE h⟩) b))
end
end HT
namespace L2
open PySem PySem.Spec PyProof.Rows
variable{A:Around}{H H':Hp}{P:Program}{X:Cx}{a p:Addr}{h':Heap}{i:Int}{its its' us:List Value}{j n t':Nat}{kvs:List (List Key×V)}{o:Option V}{pins:List (Addr×Obj)}{r:R2}{s:Shared}{u v:Value}{w:World}{x y:V}{xs:List V}{α:Type}{σ:St}
abbrev TO:=St->Hp->(Option Int->Hp->Prop)->Prop
def PO(X:Cx)(e:Option Expr)(t:TO):Prop:=
 ∀(pins:List (Addr×Obj)) (s:Shared) (σ:St) (H:Hp) (Q:Option Int->Hp->Prop),Inv X pins σ H s->t σ H Q ->
  wpAny (model X.prog X.w) X.A (evalPart e X.env) (λu s'=>∃ o H',Inv X pins σ H' s'/\IsPart u o/\Q o H') X.xe s
def qeQ:TO:=λ_ H Q=>Q none H
def qgz(t:TE):TO:=fun σ H Q=>t σ H λx a=>∃ i,x=.int i/\Q (some i) a
section
variable{X:Cx}{e:Expr}{te:TE}{lo hi:Option Expr}{tl th:TO}{pos p2:Pos}
theorem jT:PO X none qeQ:=by
 intro pins s σ H Q I h;rw[evalPart_none];show yE ⟨none,H,I,.none,h⟩
theorem jM(h:PE X e te):PO X (some e) (qgz te):=by
 intro pins s σ H Q I hw;rw[evalPart_some];show thn (h pins s σ H _ I hw) λu f ⟨x,a,b,d,c⟩=>?_;obtain⟨i,rfl,q⟩:=c;obtain⟨t,rfl⟩:=d;show⟨some i,a,b,.int i t,q⟩
def SlR(X:Cx)(r:V->Option Int->Option Int->Hp->VK->Prop):Prop:=
 ∀(pins:List (Addr×Obj)) (s:Shared) (σ:St) (H:Hp) (x:V) (v b c:Value) (lo hi:Option Int) (a:Addr) (Q:VK),Inv X pins σ H s->RelV x v->s.heap.IsSliceOf a b c .none->IsPart b lo->IsPart c hi->r x lo hi H Q ->
  ∃ T id,typeLookup (.type T) "__getitem__"=pure (some (.builtin id))/\s.TypeIs v T/\wpAny (model X.prog X.w) X.A (getItem v (.ref a)) (EP X pins σ Q) X.xe s
def tSl(r:V->Option Int->Option Int->Hp->VK->Prop)(te:TE)(tl th:TO):TE:=fun σ H Q=>te σ H λx a=>tl σ a λl b=>th σ b λu c=>r x l u c Q
theorem jo{r:V->Option Int->Option Int->Hp->VK->Prop}(z:SlR X r)(t:PE X e te)(hl:PO X lo tl)(C:PO X hi th):PE X (.Subscript e (.Slice lo hi none p2) pos) (tSl r te tl th):=by
 intro pins s σ H Q I h;show Subscript_ (thn (t pins s σ H _ I h) λv K ⟨x,g,j,J,E⟩=>?_);show wpAny_Slice (thn (hl pins K σ g _ j E) λc L ⟨l,i,m,pl,F⟩=>thn (C pins L σ i _ m F) λd a ⟨u,f,n,D,G⟩=>?_);rw[evalPart_none];show yE ?_;have o:Inv X pins σ f { a with heap:=a.heap.push { cls:=.type "slice",data:=.fields #[c,d,.none] } }:=n.kept (t':=a.toks) λb M q=>yw _ q;obtain⟨T,id,p,B,y⟩:=z pins { a with heap:=a.heap.push { cls:=.type "slice",data:=.fields #[c,d,.none] } } σ f x v c d l u a.heap.objs.size Q o J (kO ..) pl D G;show wpAny (model X.prog X.w) X.A (subscriptTail e (.Slice lo hi none p2) v (.ref a.heap.objs.size)) (EP X pins σ Q) X.xe { a with heap:=a.heap.push { cls:=.type "slice",data:=.fields #[c,d,.none] } };show tail_any (ops:=[.ref a.heap.objs.size,v]) B p y (by with_unfolding_all rfl)
def qcr(xs:List V)(lo hi:Option Int):List V:=(xs.drop (HT.sIx xs.length 0 lo)).take (HT.sIx xs.length xs.length hi-HT.sIx xs.length 0 lo)
theorem qbM(xs:List V)(lo hi:Option Int):(qcr xs lo hi).length<=xs.length:=by
 unfold qcr;rw[yK,YU];lk
inductive rSlT(K:yg)(x:V)(lo:Option Int)(hi:Option Int)(H:Hp)(Q:VK):Prop|mk (a xs:_) (_:x=.ref a) (_:SqT K H a xs) (_:¬ (HT.sIx xs.length 0 lo=0/\HT.sIx xs.length xs.length hi=xs.length)) (_:∀ p,H p=none->Q (.ref p) (upd H p (.tup (qcr xs lo hi))))
theorem sl_tup:SlR X (rSlT X.K):=by
 intro pins s σ H x v n p lo hi m Q I j f pl i h;obtain⟨a,xs,rfl,g,hw,q⟩:=h;cases j;obtain⟨its,r,d,e⟩:=I.tuple g;have c:its.toArray.size=xs.length:=by rw[yA];show r.length.symm
 show⟨"tuple",_,Xa.lookup,d.typeIs,?_⟩;show HT.getItem_tuple_cut d f pl i (by rw[c];show hw) ?_ (by rw[c];show e);rw[c];show⟨.ref s.heap.objs.size,_,I.laid (t':=s.toks) (o:=.tup (qcr xs lo hi)) (λb l q=>yw _ q) (yh _) ?_,rfl,q _ (I.hok.fresh (yh _))⟩;show⟨yi (qbM xs lo hi) e,_,(r.drop (HT.sIx xs.length 0 lo)).take (HT.sIx xs.length xs.length hi-HT.sIx xs.length 0 lo),IsTup.new _ _⟩
inductive rLtT(K:yg)(x:V)(y:V)(H:Hp)(Q:VK):Prop|mk (a b ns ms:_) (_:x=.ref a) (_:y=.ref b) (_:SqT K H a (ns.map V.int)) (_:SqT K H b (ms.map V.int)) (_:Q (.bl (HT.lexLt ns ms)) H)
inductive rCatT(K:yg)(x:V)(y:V)(H:Hp)(Q:VK):Prop|mk (a b xs ys:_) (_:x=.ref a) (_:y=.ref b) (_:SqT K H a xs) (_:SqT K H b ys) (_:xs≠[]) (_:xs.length+ys.length<=sizeLine) (_:(ys=[]->Q (.ref a) H)) (_:(ys≠[]->∀ p,H p=none->Q (.ref p) (upd H p (.tup (xs++ys)))))
theorem Vals.nil_iff(r:Vals xs us):us=[]↔xs=[]:=by
 cases r with
 | nil=>simp
 | cons _ _=>simp
theorem op_catT:OpR X (binaryOp .Add) (rCatT X.K):=by
 intro pins s σ H x y v u Q I n p h;obtain⟨a,b,xs,r,rfl,rfl,g,hb,i,e,l,m⟩:=h;cases n;cases p;obtain⟨its,d,j,_⟩:=I.tuple g;obtain⟨f,c,p2,_⟩:=I.tuple hb;show HT.cat_tup j p2 (λz=>i (d.nil_iff.mp z)) (λz=>⟨.ref a,H,I,rfl,l (c.nil_iff.mp z)⟩) (λz=>?_) (by rw[<- d.length,<- c.length];show e);show⟨.ref s.heap.objs.size,_,I.laid (t':=s.toks) (o:=.tup (xs++r)) (λb t q=>yw _ q) (yh _) ?_,rfl,m (λw=>z (c.nil_iff.mpr w)) _ (I.hok.fresh (yh _))⟩;show⟨by rw[yu];show e,_,d.append c,IsTup.new _ _⟩
end
def ixN(n:Nat)(i:Int):Option Nat:=if 0<=i then(if i<n then some i.toNat else none) else if -(n:Int)<=i then some (i+n).toNat else none
def atI{α:Type}(xs:List α)(i:Int):Option α:=(ixN xs.length i).bind λj=>xs[j]?
theorem qeR(h:ixN n i=some j):seqIndex? i n=some j/\j<n/\-(n:Int)<=i/\i<n:=by
 unfold ixN at h;by_cases a:0<=i
 .rw [yH a] at h;by_cases h1:i<n
  .rw [yH h1] at h;have e:i.toNat=j:=ym h;show⟨by rw[seqIndex_of a h1,e],by lk,by lk,h1⟩
  .rw [yD h1] at h;cases h
 .rw [yD a] at h;by_cases h1:-(n:Int)<=i
  .rw [yH h1] at h;have e:(i+n).toNat=j:=ym h;show⟨by rw[seqIndex_neg (by lk) h1,e],by lk,h1,by lk⟩
  .rw [yD h1] at h;cases h
theorem qdr{xs:List α}{v:α}(h:atI xs i=some v):∃ j,seqIndex? i xs.length=some j/\xs[j]?=some v/\j<xs.length/\-(xs.length:Int)<=i/\i<xs.length:=by
 unfold atI at h
 cases e:ixN xs.length i with
 | none=>rw[e] at h;cases h
 | some j =>
  rw[e] at h;obtain⟨h1,a,b,c⟩:=qeR e;show⟨j,h1,h,a,b,c⟩
theorem qt{xs:List α}{v:α}(h:xs[j]?=some v):atI xs (j:Int)=some v:=by
 have a:j<xs.length:=(yc.mp h).1
 have e:ixN xs.length (j:Int)=some j:=by
  unfold ixN;rw[yH (by lk),yH (by lk)];simp
 unfold atI;rw[e];show h
def PlainIx(b:Expr):Prop:=∀ o i,subscripted b false o i=operate [o,i] (getItem o i)
def IxR(X:Cx)(r:R2):Prop:=
 ∀(b a:Expr) (pins:List (Addr×Obj)) (s:Shared) (σ:St) (H:Hp) (x y:V) (v u:Value) (Q:VK),Inv X pins σ H s->RelV x v->RelV y u->r x y H Q ->
  subscripted a false v u=operate [v,u] (getItem v u)->wpAny (model X.prog X.w) X.A (subscriptTail b a v u) (EP X pins σ Q) X.xe s
def MtR(X:Cx)(id:String)(r:V->List V->Hp->VK->Prop):Prop:=
 ∀(pins:List (Addr×Obj)) (s:Shared) (σ:St) (H:Hp) (x:V) (xs:List V) (v:Value) (us:List Value) (Q:VK),Inv X pins σ H s->RelV x v->Vals xs us->r x xs H Q ->
  wpAny (model X.prog X.w) X.A (call (.builtin id) (v::us)) (EP X pins σ Q) X.xe s
section
variable{X:Cx}{a b:Expr}{ta tb:TE}{pos:Pos}
theorem IxR.or{d:R2}(h:IxR X r)(h':IxR X d):IxR X (λx y H Q=>r x y H Q\/d x y H Q):=by
 intro b a pins s σ H x y v u Q I e f q c;rcases q with q | q
 .show h b a pins s σ H x y v u Q I e f q c
 .show h' b a pins s σ H x y v u Q I e f q c
theorem qu(f:IxR X r)(e:PE X a ta)(hb:PE X b tb)(g:PlainIx b):PE X (.Subscript a b pos) (tOp r ta tb):=by
 intro pins s σ H Q I h;show Subscript_ (qg4 e hb I h λv u l x y c d i j q=>f a b pins l σ c x y v u Q d i j q (g _ _))
inductive rIxL(K:yg)(x:V)(y:V)(H:Hp)(Q:VK):Prop|mk (p xs i v:_) (_:x=.ref p) (_:y=.int i) (_:SqL K H p xs) (_:atI xs i=some v) (_:Q v H)
inductive rIxT(K:yg)(x:V)(y:V)(H:Hp)(Q:VK):Prop|mk (p xs i v:_) (_:x=.ref p) (_:y=.int i) (_:SqT K H p xs) (_:atI xs i=some v) (_:Q v H)
inductive rIxS(x:V)(y:V)(H:Hp)(Q:VK):Prop|mk (z i c:_) (_:x=.str z) (_:y=.int i) (_:z.length<=sizeLine) (_:atI z.cps.toList i=some c) (_:Q (.str ⟨#[c]⟩) H)
theorem ix_list:IxR X (rIxL X.K):=by
 intro e d pins s σ H x y v u Q I C D h l;obtain⟨p,xs,i,z,rfl,rfl,B,A,q⟩:=h;cases C;obtain⟨t,rfl⟩:=D;obtain⟨its,r,pl,G⟩:=I.list B;obtain⟨j,h1,m,E,n,o⟩:=qdr A;obtain⟨w,f,c⟩:=r.get m;have hl:=r.length;have F:=qcb;have a:EP X pins σ Q w s:=⟨z,H,I,c,q⟩;by_cases g:0<=i
 .have b:i.toNat=j:=by
   rw[seqIndex_of g o] at h1;show ym h1
  show item_listR pl.isList g (by lk) (by rw[b];simpa using f) a l
 .have b:(i+(its.toArray.size:Int)).toNat=j:=by
   rw[seqIndex_neg (by lk) n] at h1;rw[yA,<- hl];show ym h1
  show subscriptTail_builtinR (x:=w) pl.isList.typeIs kj.lookup
   (wpAny_getItem_list_neg (Q:=λr s'=>r=w/\EP X pins σ Q r s') pl.isList (by lk) (by rw[yA]<;>lk) (by lk) (by rw[b];simpa using f) ⟨rfl,a⟩) l
theorem ix_tup:IxR X (rIxT X.K):=by
 intro d c pins s σ H x y v u Q I n o h m;obtain⟨p,xs,i,z,rfl,rfl,l,g,q⟩:=h;cases n;obtain⟨t,rfl⟩:=o;obtain⟨its,r,pl,E⟩:=I.tuple l;obtain⟨j,h1,f,A,B,C⟩:=qdr g;obtain⟨w,e,b⟩:=r.get f;have hl:=r.length;have D:=qcb;have a:EP X pins σ Q w s:=⟨z,H,I,b,q⟩;show subscriptTail_builtinR (x:=w) pl.typeIs slot_tuple_getitem.lookup
  (getItem_tuple (j:=j) (Q:=λr s'=>r=w/\EP X pins σ Q r s') pl (by lk) (by lk) (by rw[yA,<- hl];show h1) (by simpa using e) ⟨rfl,a⟩) m
theorem ix_str:IxR X rIxS:=by
 intro b a pins s σ H x y v u Q I o p h n;obtain⟨z,i,c,rfl,rfl,A,m,q⟩:=h;obtain⟨t,rfl⟩:=o;obtain⟨t',rfl⟩:=p;obtain⟨j,h1,f,r,g,l⟩:=qdr m;have hl:z.cps.toList.length=z.length:=by simp[Str.length]
 rw[hl] at h1 g l;have w:=qcb
 show tail_any (typeIs_str s z t) slot_str_getitem.lookup (getItem_str (c:=c) (by
  have d:decide (i < -(2 ^ 63:Int))=false:=yl (by lk);have e:decide (i ≥ 2 ^ 63)=false:=yl (by lk);rw[d,e,Ku]) (by rw[h1];simpa using f) ⟨.str ⟨#[c]⟩,H,I.tok _,⟨_,rfl⟩,q⟩) n
def rIx(K:yg):R2:=λx y H Q=>rIxL K x y H Q\/rIxT K x y H Q\/rIxS x y H Q
theorem ix_seq:IxR X (rIx X.K):=ix_list.or (ix_tup.or ix_str)
theorem mapSeq_set(its:List Value)(n j:Nat)(u:Value):Obj.mapSeq (·.setIfInBounds j u) { cls:=.type "list",data:=.seq its.toArray n }={ cls:=.type "list",data:=.seq (its.set j u).toArray n }:=by
 simp[Obj.mapSeq]
theorem Inv.lst(I:Inv X pins σ H s)(h:H p=some (.lst xs)) :
  ∃(its:List Value) (n:Nat),Vals xs its/\s.heap.get? p=some { cls:=.type "list",data:=.seq its.toArray n }/\xs.length<=sizeLine:=by
 obtain⟨z,its,n,r,e⟩:=I.hok p _ h;show⟨its,n,r,e,z⟩
theorem Inv.lstUpd{c:List V}{a:Nat}{f:Obj->Obj}(I:Inv X pins σ H s)(h:H p=some (.lst xs))
  (g:s.heap.get? p=some { cls:=.type "list",data:=.seq its.toArray n }) (d:f { cls:=.type "list",data:=.seq its.toArray n }={ cls:=.type "list",data:=.seq its'.toArray a }) (r:Vals c its') (i:c.length<=sizeLine) (t:Nat) :
  Inv X pins σ (upd H p (.lst c)) { s with heap:=s.heap.update p f,toks:=t }:=by
 have e:(s.heap.update p f).get? p=some { cls:=.type "list",data:=.seq its'.toArray a }:=by
  rw[xQ f g (by rw[d]<;>rfl),d]
 show I.write (x:=p) (e:=p) (by rw[h];trivial) (.inl rfl) (λb u hb q=>(YC _ _ (YI hb)).trans q) ⟨_,e⟩ ?_;show⟨i,its',a,r,e⟩
inductive rSetL(o:V)(i:V)(v:V)(H:Hp)(Q:(Hp->Prop)):Prop|mk (p xs k j:_) (_:o=.ref p) (_:i=.int k) (_:H p=some (.lst xs)) (_:ixN xs.length k=some j) (_:Q (upd H p (.lst (xs.set j v))))
theorem set_list:qg3 X rSetL:=by
 intro pins s σ H o i v C B u Q I x w y h;obtain⟨p,xs,k,j,rfl,rfl,g,l,q⟩:=h;cases x;obtain⟨t,rfl⟩:=w;obtain⟨its,n,r,b,m⟩:=I.lst g;obtain⟨h1,z,e,f⟩:=qeR l;have hl:=r.length;have A:=qcb
 have c:Inv X pins σ (upd H p (.lst (xs.set j v))) { s with heap:=s.heap.update p (Obj.mapSeq (·.setIfInBounds j u)) }:=
  I.lstUpd g b (mapSeq_set its n j u) (r.set y j) (by rw[XS];show m) s.toks
 by_cases d:0<=k
 .have a:k.toNat=j:=by
   rw[seqIndex_of d f] at h1;show ym h1
  show PySem.W.ki_setAt b d (by lk) (by rw[yA,<- hl];show f) (by rw[a];show⟨_,c,q⟩)
 .have a:(k+(its.toArray.size:Int)).toNat=j:=by
   rw[seqIndex_neg (by lk) e] at h1;rw[yA,<- hl];show ym h1
  show PySem.W.ki_setBack b (by lk) (by rw[yA,<- hl];show e) (by lk) (by rw[a];show⟨_,c,q⟩)
theorem slice_bounds(lo a:Option Int)(n:Nat):(sliceBounds lo a none n).1=((HT.sIx n 0 lo:Nat):Int)/\(sliceBounds lo a none n).2.1=((HT.sIx n n a:Nat):Int)/\(sliceBounds lo a none n).2.2=1:=by
 show⟨?_,?_,rfl⟩
 .cases lo with
  | none=>simp[sliceBounds,HT.sIx]
  | some i =>
   simp only[sliceBounds,HT.sIx,Option.getD_none,show(1:Int)>0 by decide,Xu];by_cases h:i<0
   .simp only[h,Xu]<;>lk
   .simp only[h,ki]<;>lk
 .cases a with
  | none=>simp[sliceBounds,HT.sIx]
  | some i =>
   simp only[sliceBounds,HT.sIx,Option.getD_none,show(1:Int)>0 by decide,Xu];by_cases h:i<0
   .simp only[h,Xu]<;>lk
   .simp only[h,ki]<;>lk
theorem qaL(its:List Value)(lo a:Option Int):slicePick its.toArray lo a none=((its.drop (HT.sIx its.length 0 lo)).take (HT.sIx its.length its.length a-HT.sIx its.length 0 lo)).toArray:=by
 obtain⟨h1,b,c⟩:=slice_bounds lo a its.toArray.size;unfold slicePick;rw[h1,b,c];simp only[sliceRange_one,pick_run,yA]<;>rfl
inductive rSlL(K:yg)(x:V)(lo:Option Int)(hi:Option Int)(H:Hp)(Q:VK):Prop|mk (a xs:_) (_:x=.ref a) (_:SqL K H a xs) (_:∀ p,H p=none->Q (.ref p) (upd H p (.lst (qcr xs lo hi))))
theorem sl_list:SlR X (rSlL X.K):=by
 intro pins s σ H x v p t lo d n Q I l f pl j h;obtain⟨a,xs,rfl,g,q⟩:=h;cases l;obtain⟨its,r,e,i⟩:=I.list g;have c:=r.length;show⟨"list",_,kj.lookup,e.isList.typeIs,?_⟩;show XR e.isList f pl j .none (by simp) ?_ (by rw[yA]<;>lk);rw[qaL,<- c];show⟨.ref s.heap.objs.size,_,I.laid (t':=s.toks) (o:=.lst (qcr xs lo d)) (λb m q=>yw _ q) (yh _) ?_,rfl,q _ (I.hok.fresh (yh _))⟩;show⟨yi (qbM xs lo d) i,_,0,(r.drop (HT.sIx xs.length 0 lo)).take (HT.sIx xs.length xs.length d-HT.sIx xs.length 0 lo),Ye _ rfl⟩
def qae:V->Bool
 | .non=>true
 | .bl _=>true
 | .int _=>true
 | .str _=>true
 | _=>false
def eqV:V->V->Bool
 | .non,.non=>true
 | .bl a,.bl b=>a==b
 | .bl a,.int b=>(if a then 1 else 0)==b
 | .int a,.bl b=>a==(if b then 1 else 0)
 | .int a,.int b=>a==b
 | .str a,.str b=>a==b
 | _,_=>false
theorem qeS(e:RelV y u)(c:RelV x v)(f:qae y=true)(d:qae x=true):SeqAt.EqAt A s u v (eqV y x):=by
 cases y with
 | non =>
  cases e
  cases x with
  | non=>cases c;show kE _
  | bl b=>cases c;show SeqAt.EqAt.none_bool b
  | int b=>obtain⟨t,rfl⟩:=c;show SeqAt.EqAt.none_int b t
  | str b=>obtain⟨t,rfl⟩:=c;show SeqAt.EqAt.none_str b t
  | _=>show absurd (show false=true from d) Yn
 | bl a =>
  cases e
  cases x with
  | non=>cases c;show SeqAt.EqAt.bool_none a
  | bl b=>cases c;show SeqAt.EqAt.bool_bool a b
  | int b=>obtain⟨t,rfl⟩:=c;show SeqAt.EqAt.bool_int a b t
  | str b=>obtain⟨t,rfl⟩:=c;show SeqAt.EqAt.bool_str a b t
  | _=>show absurd (show false=true from d) Yn
 | int a =>
  obtain⟨t',rfl⟩:=e
  cases x with
  | non=>cases c;show SeqAt.EqAt.int_none a t'
  | bl b=>cases c;show SeqAt.EqAt.int_bool a t' b
  | int b=>obtain⟨t,rfl⟩:=c;show SeqAt.EqAt.int_int a t' b t
  | str b=>obtain⟨t,rfl⟩:=c;show SeqAt.EqAt.int_str a t' b t
  | _=>show absurd (show false=true from d) Yn
 | str a =>
  obtain⟨t',rfl⟩:=e
  cases x with
  | non=>cases c;show SeqAt.EqAt.str_none a t'
  | bl b=>cases c;show SeqAt.EqAt.str_bool a t' b
  | int b=>obtain⟨t,rfl⟩:=c;show SeqAt.EqAt.str_int a t' b t
  | str b=>obtain⟨t,rfl⟩:=c;show SeqAt.EqAt.str_str a t' b t
  | _=>show absurd (show false=true from d) Yn
 | _=>show absurd (show false=true from f) Yn
def eqU(x:V)(u:Value):Bool:=match u with
 | .none=>eqV .non x
 | .bool b=>eqV (.bl b) x
 | .int i _=>eqV (.int i) x
 | .str z _=>eqV (.str z) x
 | _=>false
theorem qeT(r:RelV y u)(f:qae y=true):eqU x u=eqV y x:=by
 cases y with
 | non=>cases r;rfl
 | bl b=>cases r;rfl
 | int i=>obtain⟨t,rfl⟩:=r;rfl
 | str z=>obtain⟨t,rfl⟩:=r;rfl
 | _=>show absurd (show false=true from f) Yn
theorem qbN:∀{xs:List V} {us:List Value},Vals xs us->xs.all qae=true->us.any (eqU x)=xs.any λy=>eqV y x
 | _,_,.nil,_=>rfl
 | y::xs,u::us,.cons r t,f=>by
  rw[ky,yL] at f;rw[kz,kz,qeT r f.1,qbN t f.2]
theorem qan(b:RelV x v)(a:qae x=true):∀{xs:List V} {us:List Value},Vals xs us->xs.all qae=true->∀ u∈us,SeqAt.EqAt A s u v (eqU x u)
 | _,_,.nil,_=>λu hu=>by cases hu
 | y::xs,u::us,.cons r t,f=>λc hu=>by
  rw[ky,yL] at f;rcases yv.mp hu with rfl | hu
  .rw [qeT r f.1];show qeS r b f.1 a
  .show qan b a t f.2 c hu
def inV(x:V)(xs:List V):Bool:=xs.any λy=>eqV y x
inductive rIn(K:yg)(neg:Bool)(x:V)(y:V)(H:Hp)(Q:VK):Prop|mk (p xs:_) (_:y=.ref p) (_:(SqL K H p xs\/SqT K H p xs)) (_:qae x=true) (_:xs.all qae=true) (_:Q (.bl (if neg then !inV x xs else inV x xs)) H)
theorem op_in_seq:OpR X (compareOp .In) (rIn X.K false):=by
 intro pins s σ H x y v u Q I b d h;obtain⟨p,xs,rfl,hq,a,fs,q⟩:=h;cases d;rcases hq with hq | hq
 .obtain⟨its,r,pl,c⟩:=I.list hq;show SeqAt.in_listAt (eqU x) pl.isList (λw hw=>qan b a r fs w (by simpa using hw)) ⟨.bl _,H,I,rfl,?_⟩;rw[show its.toArray.any (eqU x)=its.any (eqU x) by simp,qbN r fs];show q
 .obtain⟨its,r,pl,c⟩:=I.tuple hq;show SeqAt.in_tupleAt (eqU x) pl (λw hw=>qan b a r fs w (by simpa using hw)) ⟨.bl _,H,I,rfl,?_⟩;rw[show its.toArray.any (eqU x)=its.any (eqU x) by simp,qbN r fs];show q
theorem op_notIn_seq:OpR X (compareOp .NotIn) (rIn X.K true):=by
 intro pins s σ H x y v u Q I b d h;obtain⟨p,xs,rfl,hq,a,fs,q⟩:=h;cases d;rcases hq with hq | hq
 .obtain⟨its,r,pl,c⟩:=I.list hq;show SeqAt.notIn_listAt (eqU x) pl.isList (λw hw=>qan b a r fs w (by simpa using hw)) ⟨.bl _,H,I,rfl,?_⟩;rw[show its.toArray.any (eqU x)=its.any (eqU x) by simp,qbN r fs];show q
 .obtain⟨its,r,pl,c⟩:=I.tuple hq;show SeqAt.notIn_tupleAt (eqU x) pl (λw hw=>qan b a r fs w (by simpa using hw)) ⟨.bl _,H,I,rfl,?_⟩;rw[show its.toArray.any (eqU x)=its.any (eqU x) by simp,qbN r fs];show q
theorem call_len_seq:zL X (.builtin "len") (λxs H Q=>∃ p b,xs=[.ref p]/\(SqL X.K H p b\/SqT X.K H p b)/\Q (.int b.length) H):=by
 intro pins s σ H xs us Q I r h;obtain⟨p,b,rfl,hq,q⟩:=h;obtain⟨u,rfl,e⟩:=qbn r;cases e;have f:=qcb;rcases hq with hq | hq
 .obtain⟨its,c,pl,d⟩:=I.list hq;have a:=c.length;show Calls.call_len_list pl.isList (by simp only[yA]<;>lk) ⟨.int b.length,H,I.tok _,⟨s.toks+1,by rw[yA,a]⟩,q⟩
 .obtain⟨its,c,pl,d⟩:=I.tuple hq;have a:=c.length;show len_tuple pl (by simp only[yA]<;>lk) ⟨.int b.length,H,I.tok _,⟨s.toks+1,by rw[yA,a]⟩,q⟩
theorem call_len_str:zL X (.builtin "len") (λxs H Q=>∃ z,xs=[.str z]/\z.length<=sizeLine/\Q (.int z.length) H):=by
 intro pins s σ H xs us Q I r h;obtain⟨z,rfl,b,q⟩:=h;obtain⟨u,rfl,t,rfl⟩:=qbn r;have a:=qcb;show len_str (by lk) ⟨.int z.length,H,I.tok _,⟨_,rfl⟩,q⟩
theorem call_list_of:zL X (.type "list") (λxs H Q=>∃ p d,xs=[.ref p]/\(SqL X.K H p d\/SqT X.K H p d)/\∀ l,H l=none->Q (.ref l) (upd H l (.lst d))):=by
 intro pins s σ H xs us Q I r h;obtain⟨p,d,rfl,hq,q⟩:=h;obtain⟨u,rfl,x⟩:=qbn r;cases x;have f:∀(its:List Value),Vals d its->d.length<=sizeLine->∀(h':Heap) (a:Nat),(∀ b v,s.heap.get? b=some v->h'.get? b=some v) ->
   h'.get? s.heap.objs.size=some { cls:=.type "list",dict:=none,data:=.seq its.toArray a,slots:=#[] }->EP X pins σ Q (.ref s.heap.objs.size) { s with heap:=h' }:=λits c i h' a j e =>
  ⟨.ref s.heap.objs.size,_,I.laid (t':=s.toks) j (yh _) (show ObjOk X.prog X.w _ h' _ (.lst d) from⟨i,its,a,c,e⟩),rfl,q _ (I.hok.fresh (yh _))⟩
 rcases hq with hq | hq
 .obtain⟨its,c,pl,i⟩:=I.list hq;have g:=c.length;obtain⟨o,t,hc,n,m⟩:=pl.isList;show call_list_seq p (.inl rfl) t hc m (λh' a j e=>f its c i h' a j e) (by simp only[yA]<;>lk)
 .obtain⟨its,c,pl,i⟩:=I.tuple hq;have g:=c.length;obtain⟨o,t,hc,n,m⟩:=pl;show call_list_seq p (.inr rfl) t hc m (λh' a j e=>f its c i h' a j e) (by simp only[yA]<;>lk)
theorem call_tuple_of:zL X (.type "tuple") (λxs H Q=>∃ p a,xs=[.ref p]/\((SqL X.K H p a/\∀ l,H l=none->Q (.ref l) (upd H l (.tup a)))\/(SqT X.K H p a/\Q (.ref p) H))):=by
 intro pins s σ H xs us Q I r h;obtain⟨p,a,rfl,h⟩:=h;obtain⟨u,rfl,n⟩:=qbn r;cases n;rcases h with⟨c,q⟩ | ⟨c,q⟩
 .obtain⟨its,d,pl,i⟩:=I.list c;have g:=d.length;show call_tuple_list pl.isList (λh' m=>?_) (by simp only[yA]<;>lk);have f:Inv X pins σ H { s with heap:=h' }:=I.kept (t':=s.toks) m
  have j:Inv X pins σ (upd H h'.objs.size (.tup a)) { s with heap:=h'.push { cls:=.type "tuple",data:=.seq its.toArray } }:=
   f.laid (t':=s.toks) (λb o e=>yw _ e) (yh _) (show ObjOk X.prog X.w _ _ _ (.tup a) from⟨i,its,d,IsTup.new _ _⟩)
  show⟨.ref h'.objs.size,_,j,rfl,q _ (f.hok.fresh (yh _))⟩
 .obtain⟨its,d,pl,i⟩:=I.tuple c;show call_tuple_same pl ⟨.ref p,H,I,rfl,q⟩
def tyV(K:yg)(T:String)(x:V)(H:Hp):Prop:=match x with
 | .str _=>T="str"
 | .int _=>T="int"
 | .ref p=>(T="list"/\∃ xs,SqL K H p xs)\/(T="tuple"/\∃ o,K.lookup p=some o/\o.cls=.type "tuple"/\o.dict=none) \/
   (T="dict"/\((∃ kvs,H p=some (.dK kvs))\/∃ kvs,H p=some (.dT kvs)))\/(T="set"/\∃ S n,H p=some (.set S n))
 | _=>False
theorem qfO{T:String}(I:Inv X pins σ H s)(r:RelV x v)(ty:tyV X.K T x H) :
  s.TypeIs v T/\∀ a,v=.ref a->∃ h,s.heap.get? a=some h/\h.dict=none:=by
 cases x with
 | str z =>
  obtain⟨t,rfl⟩:=r;cases (show T="str" from ty);show⟨typeIs_str s z t,λ_ e=>nomatch e⟩
 | int i =>
  obtain⟨t,rfl⟩:=r;cases (show T="int" from ty);show⟨typeIs_int s i t,λ_ e=>nomatch e⟩
 | ref p =>
  cases r;rcases ty with⟨rfl,xs,j⟩ | ⟨rfl,o,b,hc,g⟩ | ⟨rfl,b⟩ | ⟨rfl,S,n,b⟩
  .obtain⟨its,_,pl,_⟩:=I.list j;show⟨pl.isList.typeIs,λa e=>?_⟩;cases e;obtain⟨o,n,e,c,g,_⟩:=pl;show⟨o,e,g⟩
  .show⟨⟨o,I.kIn p o b,hc⟩,λa e=>?_⟩;cases e;show⟨o,I.kIn _ o b,g⟩
  .have z:∃ o,s.heap.get? p=some o/\o.ExactDict:=by
    rcases b with⟨kvs,b⟩ | ⟨kvs,b⟩
    .obtain⟨_,_,_,_,o,_,_,e,d,_⟩:=I.hok p _ b;show⟨o,e,d⟩
    .obtain⟨_,_,_,_,o,_,_,e,d,_⟩:=I.hok p _ b;show⟨o,e,d⟩
   obtain⟨o,e,d⟩:=z;show⟨⟨o,e,d.1⟩,λa f=>?_⟩;cases f;show⟨o,e,d.2.1⟩
  .obtain⟨o,_,_,_,e,d,_⟩:=I.hok p _ b;show⟨⟨o,e,d.1⟩,λa f=>?_⟩;cases f;show⟨o,e,d.2.1⟩
 | _=>show False.elim ty
def qg6(K:yg)(T:String)(r:V->List V->Hp->VK->Prop)(to:TE):TE:=fun σ H Q=>to σ H λx a=>tyV K T x a/\r x [] a Q
def tBM(K:yg)(T:String)(r:V->List V->Hp->VK->Prop)(to:TE)(t:TA):TE:=fun σ H Q=>to σ H λx a=>tyV K T x a/\t σ a λxs b=>r x xs b Q
variable{o e:Expr}{es:List Expr}{to:TE}{t:TA}{name:Str}{apos cpos:Pos}{T id:String}{r:V->List V->Hp->VK->Prop}
theorem pe_bm0(pa:PlainAttrs T)(c:Slot T name id)(d:typeOf (.builtin id)=pure (.type "method_descriptor"))(j:MtR X id r)(l:PE X o to)
  (a:attributeBase o name X.env (eval o X.env)=eval o X.env:=by rfl) (b:(apos.endLine==cpos.line)=true:=by rfl):PE X (.Call (.Attribute o name apos) [] [] cpos) (qg6 X.K T r to):=by
 intro pins s σ H Q I h;show wpAny_Call_method0_late a b (thn (l pins s σ H _ I h) λv n ⟨x,g,e,f,ty,m⟩=>?_);obtain⟨h1,i⟩:=qfO e f ty;show⟨T,id,pa,c,d,h1,i,xF rfl (PySem.evalArgs_none (j pins n σ g x [] v [] Q e f .nil m))⟩
theorem pe_bm(pa:PlainAttrs T)(f:Slot T name id)(g:typeOf (.builtin id)=pure (.type "method_descriptor"))(w:MtR X id r)(y:PE X o to)(u:PA X (e::es) t)
  (b:attributeBase o name X.env (eval o X.env)=eval o X.env:=by rfl)
  (d:((backTo cpos (starEach (e::es) X.env)).all (λx=>!x.1)&&(backToKw cpos (keywordEach [] X.env)).all (λx=>x.1.isSome)
   && decide ((e::es).length+([]:List Keyword).length+(if ([]:List Keyword).isEmpty then 0 else 1)<30))=true:=by rfl)
  (c:(apos.endLine==cpos.line)=true:=by rfl) (z:starEach (e::es) X.env=(false,eval e X.env)::starEach es X.env:=by rfl) (a:(backTo cpos (starEach es X.env)).any (·.1)=false:=by rfl) :
  PE X (.Call (.Attribute o name apos) (e::es) [] cpos) (tBM X.K T r to t):=by
 intro pins s σ H Q I h;show wpAny_Call_method_late b d c rfl (thn (y pins s σ H _ I h) λv D ⟨x,m,i,l,ty,A⟩=>?_);obtain⟨h1,q⟩:=qfO i l ty;show⟨T,id,pa,f,g,h1,q,?_⟩;have j:=u cpos pins D σ m _ i A;rw[z] at j ⊢;show xF (by show(false||(backTo cpos (starEach es X.env)).any (·.1))=false;rw[a]<;>rfl) (Xy ?_);show thn j λus E ⟨vs,n,p,C,B⟩=>w pins E σ n x vs v us Q p l C B
end
def MtM(X:Cx)(id:String)(r:V->List V->Hp->VK->Prop):Prop:=
 ∀(pins:List (Addr×Obj)) (s:Shared) (σ:St) (H:Hp) (x:V) (xs:List V) (v:Value) (us:List Value) (Q:VK),Inv X pins σ H s->RelV x v->Vals xs us->r x xs H Q ->
  wpAny (model X.prog X.w) X.A (call (.builtin id) (v::us)) (EP X pins σ Q) X.xe s
theorem Vals.one:∀{x:V} {us:List Value},Vals [x] us->∃ u,us=[u]/\RelV x u
 | _,_,.cons r .nil=>⟨_,rfl,r⟩
theorem Vals.zero:∀{us:List Value},Vals [] us->us=[]
 | _,.nil=>rfl
theorem Vals.dropLast(h:Vals xs us):Vals xs.dropLast us.dropLast:=by
 induction h with
 | nil=>show .nil
 | cons r t ih =>
  cases t with
  | nil=>show .nil
  | cons q t'=>show .cons r ih
theorem Vals.rep(h:Vals xs us):∀ k:Nat,Vals (List.replicate k xs).flatten (List.replicate k us).flatten
 | 0=>.nil
 | k+1=>by
  rw[xz,xz,xw,xw];show Vals.append h (Vals.rep h k)
theorem erase_last(l:List α):l.eraseIdx (l.length-1)=l.dropLast:=by
 induction l with
 | nil=>rfl
 | cons a r ih =>
  cases r with
  | nil=>rfl
  | cons b r =>
   have e:(a::b::r).length-1=((b::r).length-1)+1:=by
    have h1:(a::b::r).length=r.length+2:=rfl;have c:(b::r).length=r.length+1:=rfl;lk
   rw[e,List.eraseIdx_cons_succ,ih]
   all_goals rfl
theorem qcY(its:List Value):∀(k:Nat) (acc:List Value),
  List.foldl (λb c=>b++c) acc.toArray (List.replicate k its.toArray)=(acc++(List.replicate k its).flatten).toArray
 | 0,acc=>by simp
 | k+1,acc=>by
  have e:acc.toArray++its.toArray=(acc++its).toArray:=by simp
  have a:(acc++its)++(List.replicate k its).flatten=acc++(List.replicate (k+1) its).flatten:=by
   rw[xz,xw,Xv]
  rw[<- a,<- qcY its k (acc++its),<- e,xz,List.foldl_cons]
section
variable{X:Cx}{pins:List (Addr×Obj)}{σ:St}{H:Hp}{s:Shared}{l b:Addr}{xs ys zs:List V}
theorem Inv.lset{f:Array Value->Array Value}(I:Inv X pins σ H s)(a:H l=some (.lst xs))
  (e:s.heap.get? l=some { cls:=.type "list",data:=.seq its.toArray n }) (b:f its.toArray=its'.toArray) (hv:Vals ys its') (d:ys.length<=sizeLine) :
  Inv X pins σ (upd H l (.lst ys)) { s with heap:=s.heap.update l (Obj.mapSeq f),toks:=t' }:=by
 have q:=PySem.IsL.update e f;rw[b] at q;show I.write (x:=l) (e:=l) (by rw[a];show trivial) (.inl rfl) (λg u hb c=>(YC s.heap (Obj.mapSeq f) (YI hb)).trans c) ⟨_,q⟩ ?_;show⟨d,its',_,hv,q⟩
theorem Inv.lnew(I:Inv X pins σ H s)(hv:Vals ys its)(a:ys.length<=sizeLine) :
  Inv X pins σ (upd H s.heap.objs.size (.lst ys)) { s with heap:=s.heap.push { cls:=.type "list",data:=.seq its.toArray },toks:=t' }:=
 I.laid (λ_ _ q=>yw _ q) (yh _) ⟨a,its,0,hv,Ye _ rfl⟩
theorem Inv.fresh(I:Inv X pins σ H s):H s.heap.objs.size=none:=I.hok.fresh (yh _)
theorem Inv.lstM(I:Inv X pins σ H s)(a:H l=some (.lst xs)):xs.length<=sizeLine/\∃(its:List Value) (n:Nat),Vals xs its/\xs.length=its.length/\s.heap.get? l=some { cls:=.type "list",data:=.seq its.toArray n }:=by
 obtain⟨z,its,n,r,e⟩:=I.hok l _ a;show⟨z,its,n,r,r.length,e⟩
theorem qdV(h:n<=sizeLine):Builtin.List.listTooLong n=false:=by
 unfold Builtin.List.listTooLong;show yl (by lk)
end
section
variable{X:Cx}
inductive rAppend(x:V)(vs:List V)(H:Hp)(Q:VK):Prop|mk (l xs y:_) (_:x=.ref l) (_:vs=[y]) (_:H l=some (.lst xs)) (_:xs.length<sizeLine) (_:Q .non (upd H l (.lst (xs++[y]))))
theorem mt_append:MtM X "list.append" rAppend:=by
 intro pins s σ H x vs v us Q I d c h;obtain⟨l,xs,y,rfl,rfl,a,f,q⟩:=h;cases d;obtain⟨u,rfl,b⟩:=c.one;obtain⟨z,its,n,r,hl,e⟩:=I.lstM a;show kP F.slot_list_append ⟨_,e,rfl⟩ F.entry_list_append (F.args_list_append_2 _ _) (PySem.list_append l its.toArray n u (by rw[yA];lk)) ⟨e,?_⟩;show⟨.non,_,I.lset (its':=its++[u]) a e (by simp) (r.append (.cons b .nil)) ?_,rfl,q⟩;rw[yu,List.length_singleton];lk
inductive rExtend(x:V)(vs:List V)(H:Hp)(Q:VK):Prop|mk (l b xs zs:_) (_:x=.ref l) (_:vs=[.ref b]) (_:H l=some (.lst xs)) (_:H b=some (.lst zs)) (_:xs.length+zs.length<=sizeLine) (_:Q .non (upd H l (.lst (xs++zs))))
theorem mt_extend:MtM X "list.extend" rExtend:=by
 intro pins s σ H x vs v us Q I t p h;obtain⟨l,b,xs,A,rfl,rfl,d,g,w,q⟩:=h;cases t;obtain⟨u,rfl,o⟩:=p.one;cases o;obtain⟨z,its,n,r,hl,e⟩:=I.lstM d;obtain⟨y,a,j,m,i,f⟩:=I.lstM g;have hsz:its.toArray.size+a.toArray.size<=sizeLine:=by rw[yA,yA];lk
 have c:¬ (!its.toArray.isEmpty&&Builtin.List.listTooLong (its.toArray.size+a.toArray.size))=true:=by
  rw[qdV hsz,Bool.and_false];show Yn
 show kP F.slot_list_extend ⟨_,e,rfl⟩ F.entry_list_extend (F.args_list_extend_2 _ _)
  (AutoSeq1.list_extend_list_list_0 l its.toArray n b a.toArray j c (by rw[yA];lk) (by lk)) ⟨e,f,?_⟩
 show⟨.non,_,I.lset (its':=its++a) d e (by simp) (r.append m) ?_,rfl,q⟩;rw[yu];lk
inductive rPop(x:V)(vs:List V)(H:Hp)(Q:VK):Prop|mk (l xs y:_) (_:x=.ref l) (_:vs=[]) (_:H l=some (.lst xs)) (_:xs[xs.length-1]?=some y) (_:Q y (upd H l (.lst xs.dropLast)))
theorem mt_pop:MtM X "list.pop" rPop:=by
 intro pins s σ H x vs v us Q I j i h;obtain⟨l,xs,y,rfl,rfl,c,f,q⟩:=h;cases j;have a:=i.zero;subst a;obtain⟨z,its,n,r,hl,e⟩:=I.lstM c;obtain⟨u,d,g⟩:=r.get f
 have b:its.toArray[its.toArray.size-1]?=some u:=by
  show its.toArray[its.length-1]?=some u;rw[<- Array.getElem?_toList,<- hl];show d
 show kP F.slot_list_pop ⟨_,e,rfl⟩ F.entry_list_pop (F.args_list_pop_1 _) (MeetsSeq.list_pop_last l its.toArray n u b (by rw[yA];lk)) ⟨e,?_⟩;show⟨y,_,I.lset (its':=its.dropLast) c e ?_ r.dropLast ?_,g,q⟩
 .show its.toArray.eraseIdxIfInBounds (its.toArray.size-1)=its.dropLast.toArray;rw[yA,List.eraseIdxIfInBounds_toArray,erase_last]
 .rw [List.length_dropLast];lk
inductive rPopAt(x:V)(vs:List V)(H:Hp)(Q:VK):Prop|mk (l xs i k y:_) (_:x=.ref l) (_:vs=[.int i]) (_:H l=some (.lst xs)) (_:-(2 ^ 63)<=i) (_:i<2 ^ 63) (_:seqIndex? i xs.length=some k) (_:xs[k]?=some y) (_:Q y (upd H l (.lst (xs.eraseIdx k))))
inductive rReverse(x:V)(vs:List V)(H:Hp)(Q:VK):Prop|mk (l xs:_) (_:x=.ref l) (_:vs=[]) (_:H l=some (.lst xs)) (_:Q .non (upd H l (.lst xs.reverse)))
inductive rClear(x:V)(vs:List V)(H:Hp)(Q:VK):Prop|mk (l xs:_) (_:x=.ref l) (_:vs=[]) (_:H l=some (.lst xs)) (_:Q .non (upd H l (.lst [])))
inductive rCat(x:V)(y:V)(H:Hp)(Q:VK):Prop|mk (l b xs zs:_) (_:x=.ref l) (_:y=.ref b) (_:H l=some (.lst xs)) (_:H b=some (.lst zs)) (_:xs.length+zs.length<=sizeLine) (_:∀ p,H p=none->Q (.ref p) (upd H p (.lst (xs++zs))))
theorem op_cat:OpR X (binaryOp .Add) rCat:=by
 intro pins s σ H x y v u Q I m o h;obtain⟨l,b,xs,A,rfl,rfl,g,f,p,q⟩:=h;cases m;cases o;obtain⟨z,its,n,r,hl,e⟩:=I.lstM g;obtain⟨w,a,t,j,i,c⟩:=I.lstM f;show PySem.P.add_list e c ?_ (by rw[yA,yA];lk);have d:its.toArray++a.toArray=(its++a).toArray:=by simp
 rw[d];show⟨.ref _,_,I.lnew (t':=s.toks) (r.append j) (by rw[yu];lk),rfl,q _ I.fresh⟩
inductive rRep(x:V)(y:V)(H:Hp)(Q:VK):Prop|mk (l k xs:_) (_:x=.ref l) (_:y=.int k) (_:H l=some (.lst xs)) (_:-(2 ^ 63)<=k) (_:k<2 ^ 63) (_:xs.length*k.toNat<=sizeLine) (_:∀ p,H p=none->Q (.ref p) (upd H p (.lst (List.replicate k.toNat xs).flatten)))
theorem len_rep(xs:List α)(k:Nat):(List.replicate k xs).flatten.length=k*xs.length:=by
 induction k with
 | zero=>simp
 | succ k ih=>rw[xz,xw,yu,ih,Nat.succ_mul,Nat.add_comm]
theorem qdW:OpR X (binaryOp .Mult) rRep:=by
 intro pins s σ H x y v u Q I B C h;obtain⟨l,k,xs,rfl,rfl,A,h1,w,o,q⟩:=h;cases B;obtain⟨t,rfl⟩:=C;obtain⟨z,its,n,r,hl,e⟩:=I.lstM A;have f:its.toArray.size*k.toNat<=sizeLine:=by rw[yA,<- hl];show o
 have c:¬ its.toArray.size*k.toNat>(2 ^ 63-1) / 8:=by
  have:(sizeLine:Nat)<=(2 ^ 63-1) / 8:=by decide
  lk
 have d:¬ (!Builtin.List.listFitsIndex k)=true:=by
  rw[fitsIndex_both h1 w];show Yn
 have b:¬ Builtin.List.listTooLong (its.toArray.size*k.toNat)=true:=by
  rw[qdV f];show Yn
 have g:List.foldl (λi j=>i++j) #[] (List.replicate (if its.toArray.isEmpty=true then 0 else k.toNat) its.toArray)=(List.replicate k.toNat its).flatten.toArray:=by
  have p:∀ m:Nat,List.foldl (λi j=>i++j) #[] (List.replicate m its.toArray)=(List.replicate m its).flatten.toArray:=λm=>by
   have:=qcY its m [];rw[List.nil_append] at this;show this
  rw[p]
  cases its with
  | nil=>simp
  | cons a r'=>rw[yD (by simp)]
 show wpAny_binaryOp_repeat_ref (T:="list") (U:="int") (by decide) ⟨_,e,rfl⟩ (λs'=>typeIs_int s' k t) noFill_list_mul F.fills_int_mul F.slot_int_rmul repeat_list F.slot_int_index.lookup
  (kP F.slot_int_rmul (typeIs_int s k t) F.entry_int_rmul (F.args_int_rmul_2 _ _) (int___rmul___int_list k t l its.toArray n)
   ⟨e,rfl,⟨_,e,rfl⟩,kP F.slot_list_mul ⟨_,e,rfl⟩ F.entry_list_mul (F.args_list_mul_2 _ _) (AutoListH.list___mul___list_int_3 l its.toArray n k t d c b) ⟨e,?_⟩⟩)
 rw[g];show⟨.ref _,_,I.lnew (t':=s.toks) (r.rep k.toNat) (by rw[len_rep,Nat.mul_comm];show o),rfl,q _ I.fresh⟩
end
section
variable{prog:Program}{w:World}{A:Around}{E:Value->Shared->Prop}{s:Shared}
set_option maxRecDepth 100000 in
end
section
variable{X:Cx}
end
section
variable{κ:Type}[DecidableEq κ]
def zG(kvs:List (κ×V))(k:κ):Option V:=(kvs.find? λa=>decide (a.1=k)).map (·.2)
def qaM(kvs:List (κ×V))(k:κ)(v:V):List (κ×V):=
 if (kvs.any λa=>decide (a.1=k))=true then kvs.map (λa=>if a.1=k then(a.1,v) else a) else kvs++[(k,v)]
def dropK(kvs:List (κ×V))(k:κ):List (κ×V):=kvs.filter λa=>decide (a.1≠k)
theorem jd{p:κ×V}{r:List (κ×V)}{k:κ}(e:p.1=k):zG (p::r) k=some p.2:=by simp[zG,xT,e]
theorem qV{p:κ×V}{r:List (κ×V)}{k:κ}(e:¬ p.1=k):zG (p::r) k=zG r k:=by simp[zG,xT,e]
theorem qaN(k:κ):∀ kvs:List (κ×V),(kvs.any λa=>decide (a.1=k))=(zG kvs k).isSome
 | []=>rfl
 | p::r=>by
  rw[kz];by_cases e:p.1=k
  .simp only[jd e,yz e,Bool.true_or,XV]
  .rw [qV e,yl e,Bool.false_or];show qaN k r
theorem qdX(k j:κ)(y:V):∀ kvs:List (κ×V),zG (kvs.map λa=>if a.1=k then(a.1,y) else a) j=(zG kvs j).map λx=>if j=k then y else x
 | []=>rfl
 | p::r=>by
  have b:=qdX k j y r;rw[YG];by_cases h:p.1=k
  .rw [yH h];by_cases e:p.1=j
   .rw [jd (p:=(p.1,y)) e,jd e,kF,yH (e.symm.trans h)]
   .rw [qV (p:=(p.1,y)) e,qV e,b]
  .rw [yD h];by_cases e:p.1=j
   .rw [jd (p:=p) e,jd e,kF,yD (λz=>h (e.trans z))]
   .rw [qV (p:=p) e,qV e,b]
theorem qcZ(k j:κ)(y:V):∀ kvs:List (κ×V),zG kvs k=none->zG (kvs++[(k,y)]) j=if j=k then some y else zG kvs j
 | [],_=>by
  by_cases e:k=j
  .rw [yH e.symm];show jd (p:=(k,y)) e
  .rw [yD (λz=>e z.symm)];show qV (p:=(k,y)) e
 | p::r,hn=>by
  rw[Ke];have a:¬ p.1=k:=λz=>by rw[jd z] at hn;cases hn
  rw[qV a] at hn;have b:=qcZ k j y r hn;by_cases e:p.1=j
  .rw [jd e,jd e,yD (λz=>a (e.trans z))]
  .rw [qV e,qV e,b]
theorem valV_put(kvs:List (κ×V))(k j:κ)(y:V):zG (qaM kvs k y) j=if j=k then some y else zG kvs j:=by
 unfold qaM;by_cases a:(kvs.any λc=>decide (c.1=k))=true
 .rw [yH a,qdX];rw[qaN] at a;by_cases e:j=k
  .obtain⟨x,b⟩:=YX.mp a;rw[yH e,e,b,kF,yH rfl]
  .rw [yD e]
   cases zG kvs j with
   | none=>rfl
   | some x=>rw[kF,yD e]
 .rw [yD a];show qcZ k j y kvs ?_;rw[qaN] at a
  cases q:zG kvs k with
  | none=>rfl
  | some x=>rw[q] at a;show(a rfl).elim
theorem ze(kvs:List (κ×V))(k:κ)(v:V):(qaM kvs k v).length<=kvs.length+1:=by
 unfold qaM;split
 .rw [ya];lk
 .rw [yu,yx,Yv];lk
theorem qbt{kvs:List (κ×V)}{k:κ}(v:V)(h:zG kvs k=none):qaM kvs k v=kvs++[(k,v)]:=by
 unfold qaM;rw[qaN,h];show yD (by decide)
theorem RelO.isSome_eq{u:Option Value}(r:RelO o u):o.isSome=u.isSome:=by
 cases o with
 | none=>cases u with
  | none=>rfl
  | some _=>show(show False from r).elim
 | some _=>cases u with
  | none=>show(show False from r).elim
  | some _=>rfl
theorem RelO.getD{u:Option Value}{d:V}{d':Value}(r:RelO o u)(a:RelV d d'):RelV (o.getD d) (u.getD d'):=by
 cases o with
 | none=>cases u with
  | none=>show a
  | some _=>show(show False from r).elim
 | some _=>cases u with
  | none=>show(show False from r).elim
  | some _=>show r
theorem KV.val{kvs:List (κ×V)}{vs:List (κ×Value)}(r:KV kvs vs)(k:κ):RelO (zG kvs k) (valueAt vs k):=by
 unfold KV at r
 induction r with
 | nil=>show YR
 | @cons p q ps qs h t ih =>
  obtain⟨h1,c⟩:=h;by_cases e:p.1=k
  .have a:q.1=k:=h1.symm.trans e;have b:valueAt (q::qs) k=some q.2:=by simp[valueAt,xT,a]
   rw[jd e,b];show c
  .have a:¬ q.1=k:=λz=>e (h1.trans z);have b:valueAt (q::qs) k=valueAt qs k:=by simp[valueAt,xT,a]
   rw[qV e,b];show ih
theorem KV.any{kvs:List (κ×V)}{vs:List (κ×Value)}(r:KV kvs vs)(k:κ):(kvs.any λa=>decide (a.1=k))=vs.any λa=>decide (a.1=k):=by
 unfold KV at r
 induction r with
 | nil=>rfl
 | cons h t ih=>rw[kz,kz,ih,h.1]
theorem KV.repl{kvs:List (κ×V)}{vs:List (κ×Value)}(r:KV kvs vs)(k:κ)(c:RelV y u) :
  KV (kvs.map λa=>if a.1=k then(a.1,y) else a) (vs.map λa=>if a.1=k then(a.1,u) else a):=by
 unfold KV at r ⊢
 induction r with
 | nil=>show .nil
 | @cons p q ps qs h t ih =>
  rw[YG,YG];show .cons ?_ ih;obtain⟨h1,b⟩:=h;by_cases e:p.1=k
  .rw [yH e,yH (h1.symm.trans e)];show⟨h1,c⟩
  .rw [yD e,yD (λz=>e (h1.trans z))];show⟨h1,b⟩
theorem KV.put{kvs:List (κ×V)}{vs:List (κ×Value)}(r:KV kvs vs)(k:κ)(a:RelV y u):KV (qaM kvs k y) (stored vs k u):=by
 unfold qaM stored;rw[r.any k];by_cases e:(vs.any λb=>decide (b.1=k))=true
 .rw [yH e,yH e];show r.repl k a
 .rw [yD e,yD e];show Paired.snoc r ⟨rfl,a⟩
theorem KV.length{kvs:List (κ×V)}{vs:List (κ×Value)}(r:KV kvs vs):kvs.length=vs.length:=Paired.length r
end
theorem qds{k:Key}(r:RelV (kV k) u):(jc P w).is k u=true:=by
 cases k with
 | inl i=>obtain⟨t,e⟩:=(show ∃ t,u=Value.int i t from r);subst e;show mixKind_int P w i t
 | inr x=>obtain⟨t,e⟩:=(show ∃ t,u=Value.str x t from r);subst e;show mixKind_str P w x t
theorem qc0:∀{ks:List Key} {us:List Value},Vals (ks.map kV) us->ItemsAre (jc P w) ks us
 | [],_,r=>by rw[List.map_nil] at r;cases r;show .nil
 | k::ks,_,r=>by
  rw[YG] at r
  cases r with
  | cons h t=>show .cons (qds h) (qc0 t)
abbrev KT(H:Hp):List (List Key×V)->List (List Key×Addr×Value)->Prop:=Paired λp q=>p.1=q.1/\H q.2.1=some (.tup (p.1.map kV))/\RelV p.2 q.2.2
theorem KT.val{xs:List (List Key×Addr×Value)}(r:KT H kvs xs)(k:List Key):RelO (zG kvs k) ((atKey xs k).map (·.2)):=by
 induction r with
 | nil=>show YR
 | @cons p q ps qs h t ih =>
  obtain⟨h1,_,c⟩:=h;by_cases e:p.1=k
  .have a:q.1=k:=h1.symm.trans e;have b:atKey (q::qs) k=some q.2:=by simp[atKey,xT,a]
   rw[jd e,b];show c
  .have a:¬ q.1=k:=λz=>e (h1.trans z);have b:atKey (q::qs) k=atKey qs k:=by simp[atKey,xT,a]
   rw[qV e,b];show ih
theorem KT.repl{xs:List (List Key×Addr×Value)}(r:KT H kvs xs)(k:List Key)(d:RelV y u) :
  KT H (kvs.map λa=>if a.1=k then(a.1,y) else a) (xs.map (putAt k u)):=by
 induction r with
 | nil=>show .nil
 | @cons p q ps qs h t ih =>
  rw[YG,YG];show .cons ?_ ih;obtain⟨h1,b,c⟩:=h;unfold putAt;by_cases e:p.1=k
  .rw [yH e,yH (h1.symm.trans e)];show⟨h1,b,d⟩
  .rw [yD e,yD (λz=>e (h1.trans z))];show⟨h1,b,c⟩
theorem KT.put{xs:List (List Key×Addr×Value)}(r:KT H kvs xs)(k:List Key){b:Addr}(hb:H b=some (.tup (k.map kV)))(a:RelV y u) :
  KT H (qaM kvs k y) (storedH xs k b u):=by
 have e:(kvs.any λc=>decide (c.1=k))=(atKey xs k).isSome:=by
  rw[qaN,(r.val k).isSome_eq,Xw]
 unfold qaM storedH;rw[e];by_cases q:(atKey xs k).isSome=true
 .rw [yH q,yH q];show r.repl k a
 .rw [yD q,yD q];show Paired.snoc r ⟨rfl,hb,a⟩
theorem KT.keeps{xs:List (List Key×Addr×Value)}(r:KT H kvs xs)(c:∀ b a,H b=some (.tup a)->H' b=some (.tup a)):KT H' kvs xs:=
 Paired.mapP r λ_ _ z=>⟨z.1,c _ _ z.2.1,z.2.2⟩
section
variable{P:Program}{w:World}{H:Hp}{h:Heap}{a:Addr}
theorem qgA{u:HO}(ok:HOk P w H h)(e:Rd H a u):ObjOk P w H h a u:=e.ok ok
theorem qcs{kvs:List (Key×V)}(ok:HOk P w H h)(e:Rd H a (.dK kvs)):kvs.length<=sizeLine/\(a==sysModules)=false/\∃ vs,KV kvs vs/\h.DictOf (jc P w) a vs:=
 show ObjOk P w H h a (.dK kvs) from qgA ok e
theorem qgB{kvs:List (Key×V)}(ok:HOk P w H h)(e:H a=some (.dK kvs)):kvs.length<=sizeLine/\(a==sysModules)=false/\∃ vs,KV kvs vs/\h.DictOf (jc P w) a vs:=qcs ok (.inl e)
theorem qbO{ks:List Key}(ok:HOk P w H h)(e:H a=some (.tup (ks.map kV))):(tupleKind (jc P w)).is h ks a:=by
 obtain⟨_,its,r,o,h1,b,n,c⟩:=(show ObjOk P w H h a (.tup (ks.map kV)) from ok a _ e);show⟨o,its.toArray,n,h1,b,c,by simpa using qc0 r⟩
theorem qc1(ok:HOk P w H h)(e:Rd H a (.dT kvs)):kvs.length<=sizeLine/\(a==sysModules)=false /\
  ∃ xs,KT H kvs xs/\h.DictOfH (tupleKind (jc P w)) a xs:=by
 obtain⟨z,y,xs,r,o,b,ep,h1,c,d,f,g⟩:=(show ObjOk P w H h a (.dT kvs) from qgA ok e);show⟨z,y,xs,r,o,b,ep,h1,c,d,f,λx hx=>?_,g⟩
 have all:∀{l:List (List Key×V)} {m:List (List Key×Addr×Value)},KT H l m->∀ x∈m,(tupleKind (jc P w)).is h x.1 x.2.1:=by
  intro l m q
  induction q with
  | nil=>intro x hx;show nomatch hx
  | @cons p q ps qs hq t ih =>
   intro x hx;rcases yv.mp hx with e | hx
   .subst e;show qbO ok (by rw[<- hq.1];show hq.2.1)
   .show ih x hx
 show all r x hx
theorem dt_of(ok:HOk P w H h)(e:H a=some (.dT kvs)):kvs.length<=sizeLine/\(a==sysModules)=false /\
  ∃ xs,KT H kvs xs/\h.DictOfH (tupleKind (jc P w)) a xs:=qc1 ok (.inl e)
end
def DGet(H:Hp)(a:Addr)(y:V)(r:Option V):Prop:=
 (∃ kvs k,Rd H a (.dK kvs)/\y=kV k/\r=zG kvs k)\/∃ kvs k b,Rd H a (.dT kvs)/\y=.ref b/\H b=some (.tup (k.map kV))/\r=zG kvs k
def DPut(H:Hp)(a:Addr)(y v:V)(H':Hp):Prop:=
 (∃ kvs k,H a=some (.dK kvs)/\y=kV k/\kvs.length<sizeLine/\H'=upd H a (.dK (qaM kvs k v))) \/
 ∃ kvs k b,H a=some (.dT kvs)/\y=.ref b/\H b=some (.tup (k.map kV))/\kvs.length<sizeLine/\H'=upd H a (.dT (qaM kvs k v))
theorem DGet.k{kvs:List (Key×V)}{k:Key}(e:H a=some (.dK kvs)):DGet H a (kV k) (zG kvs k):=.inl ⟨kvs,k,.inl e,rfl,rfl⟩
theorem DPut.k{kvs:List (Key×V)}{k:Key}{v:V}(e:H a=some (.dK kvs))(hl:kvs.length<sizeLine):DPut H a (kV k) v (upd H a (.dK (qaM kvs k v))):=.inl ⟨kvs,k,e,rfl,hl,rfl⟩
section
variable{X:Cx}{pins:List (Addr×Obj)}{σ:St}{H:Hp}{s:Shared}{a:Addr}{y v:V}{u r:Value}{o:Option V}{A:Around}{E:Value->Shared->Prop}
theorem Inv.big(I:Inv X pins σ H s):sysModules<s.heap.objs.size:=by
 have h:mainGlobals<s.heap.objs.size:=(I.mod.glob.keeps I.bk).lt;show Km (by decide) h
theorem d_getItem{Q:Value->Shared->Prop}(x:A.units+1<cLine)(I:Inv X pins σ H s)(g:DGet H a y (some v))(n:RelV y u)(h:∀ f s',Inv X pins σ H s'->RelV v f->Q f s') :
  wpAny (model X.prog X.w) A (getItem (.ref a) u) Q E s:=by
 rcases g with⟨kvs,k,e,j,l⟩ | ⟨kvs,k,b,e,j,q,l⟩
 .subst j;obtain⟨z,r,vs,c,i⟩:=qcs I.hok e;obtain⟨f,hw,d⟩:=RelO.some_of (v:=v) (o:=valueAt vs k) (by rw[l];show c.val k);show wpAny_getItem_of (qds n) i.mapOf hw (h f _ (I.tok _) d)
 .subst j;cases (show u=Value.ref b from n);obtain⟨z,r,xs,c,i⟩:=qc1 I.hok e;obtain⟨f,hw,d⟩:=RelO.some_of (v:=v) (o:=(atKey xs k).map (·.2)) (by rw[l];show c.val k);obtain⟨p,t,m⟩:=yn.mp hw;show wpAny_getItem_heap (xL x) (qbO I.hok q) i t ?_;rw[m];show h f _ (I.tok _) d
theorem d_in{Q:Value->Shared->Prop}(n:A.units+1<cLine)(I:Inv X pins σ H s)(g:DGet H a y o)(j:RelV y u)(h:∀ s',Inv X pins σ H s'->Q (.bool o.isSome) s') :
  wpAny (model X.prog X.w) A (compareOp .In u (.ref a)) Q E s:=by
 rcases g with⟨kvs,k,e,f,l⟩ | ⟨kvs,k,b,e,f,m,l⟩
 .subst f;obtain⟨z,i,vs,c,d⟩:=qcs I.hok e;show wpAny_in_of (qds j) i d.mapOf ?_;rw[<- (c.val k).isSome_eq,<- l];show h _ (I.tok _)
 .subst f;cases (show u=Value.ref b from j);obtain⟨z,i,xs,c,d⟩:=qc1 I.hok e;show wpAny_in_heap (xL n) (qbO I.hok m) i d ?_;have q:=(c.val k).isSome_eq;rw[Xw] at q;rw[<- q,<- l];show h _ (I.tok _)
theorem d_notIn{Q:Value->Shared->Prop}(n:A.units+1<cLine)(I:Inv X pins σ H s)(g:DGet H a y o)(j:RelV y u)(h:∀ s',Inv X pins σ H s'->Q (.bool (!o.isSome)) s') :
  wpAny (model X.prog X.w) A (compareOp .NotIn u (.ref a)) Q E s:=by
 rcases g with⟨kvs,k,e,f,l⟩ | ⟨kvs,k,b,e,f,m,l⟩
 .subst f;obtain⟨z,i,vs,c,d⟩:=qcs I.hok e;show wpAny_notIn_of (qds j) i d.mapOf ?_;rw[<- (c.val k).isSome_eq,<- l];show h _ (I.tok _)
 .subst f;cases (show u=Value.ref b from j);obtain⟨z,i,xs,c,d⟩:=qc1 I.hok e;show wpAny_notIn_heap (xL n) (qbO I.hok m) i d ?_;have q:=(c.val k).isSome_eq;rw[Xw] at q;rw[<- q,<- l];show h _ (I.tok _)
theorem qeU{c:HO}(I:Inv X pins σ H s)(g:Mut (H a))(f:Heap.SameBut a s.heap h')(d:∃ q,h'.get? a=some q)(new:ObjOk X.prog X.w (upd H a c) h' a c) :
  Inv X pins σ (upd H a c) { s with heap:=h',toks:=t' }:=
 I.write (x:=a) (e:=a) g (.inl rfl) (λb q hb z=>(f.2 b hb).trans z) d new
theorem dk_new{kvs:List (Key×V)}{vs:List (Key×Value)}(z:kvs.length<=sizeLine)(d:(a==sysModules)=false)(b:KV kvs vs)(c:h'.DictOf (jc P w) a vs) :
  ObjOk P w H' h' a (.dK kvs):=⟨z,d,vs,b,c⟩
theorem d_setItem{Q:Unit->Shared->Prop}(N:A.units+1<cLine)(I:Inv X pins σ H s)(g:DPut H a y v H')(D:RelV y u)(C:RelV v r)(h:∀ s',Inv X pins σ H' s'->Q () s') :
  wpAny (model X.prog X.w) A (setItem (.ref a) u r) Q E s:=by
 rcases g with⟨kvs,k,e,n,l,m⟩ | ⟨kvs,k,b,e,n,x,l,m⟩
 .subst n m;obtain⟨z,o,vs,d,j⟩:=qgB I.hok e;have t:vs.length<=sizeLine:=by rw[<- d.length];show z
  have hl:(qaM kvs k v).length<=sizeLine:=by have:=ze kvs k v;lk
  show wpAny_setItem_pairs (hsz:=t) (qds D) j λh' f p=>h _ ?_;have M:∃ q,h'.get? a=some q:=let ⟨q,_,_,i,_⟩:=f;⟨q,i⟩;show qeU I (by rw[e];show YR) p M (dk_new hl o (d.put k C) f)
 .subst n m;cases (show u=Value.ref b from D);obtain⟨z,o,xs,d,j⟩:=dt_of I.hok e;have t:xs.length<=sizeLine:=by rw[<- Paired.length d];show z
  have hl:(qaM kvs k v).length<=sizeLine:=by have:=ze kvs k v;lk
  show wpAny_setItem_heap (hsz:=t) (xL N) (qbO I.hok x) j λh' f p=>h _ ?_;obtain⟨q,F,ep,i,G,J,K,_,L⟩:=f;show qeU I (by rw[e];show YR) p ⟨q,i⟩ ⟨hl,o,_,(d.put k x C).keeps λc O B=>?_,q,F,ep,i,G,J,K,L⟩;rw[qi (qeJ B e (λz=>nomatch z))];show B
end
section
variable{X:Cx}{pins:List (Addr×Obj)}{σ:St}{H:Hp}{s:Shared}{a:Addr}{kvs:List (Key×V)}{k:Key}{u:Value}{A:Around}{E:Value->Shared->Prop}
theorem d_len{Q:Value->Shared->Prop}(I:Inv X pins σ H s)(e:Rd H a (.dK kvs))(h:∀ t s',Inv X pins σ H s'->Q (.int kvs.length t) s'):wpAny (model X.prog X.w) A (call (.builtin "len") [.ref a]) Q E s:=by
 obtain⟨z,d,vs,b,c⟩:=qcs I.hok e;show call_len_dict d c (by rw[<- b.length];rw[xt] at z;lk) ?_;rw[<- b.length];show h _ _ (I.tok _)
end
theorem dict_typeIs(I:Inv X pins σ H s)(g:DGet H a y o):s.TypeIs (.ref a) "dict":=by
 rcases g with⟨kvs,k,e,_,_⟩ | ⟨kvs,k,b,e,_,_,_⟩
 .obtain⟨_,_,vs,_,c⟩:=qcs I.hok e;show c.typeIs
 .obtain⟨_,_,xs,_,c⟩:=qc1 I.hok e;show c.typeIs
section
variable{X:Cx}{o i e value:Expr}{pos pos' tpos:Pos}{td ty tv:TE}
end
theorem dk_empty(h:Heap)(hb:sysModules<h.objs.size):ObjOk P w H (h.push { cls:=.type "dict",data:=.dict #[] }) h.objs.size (.dK []):=
 ⟨Yx _,Yy.mpr (YI (Yl hb)),[],.nil,Heap.DictOf.new h⟩
def tDNewK:TE:=λ_ H Q=>∀ p,H p=none->Q (.ref p) (upd H p (.dK []))
section
variable{X:Cx}{pos:Pos}
theorem j8:PE X (.Dict [] [] pos) tDNewK:=λpins s σ H Q I h =>
 wpAny_Dict_empty ⟨.ref s.heap.objs.size,_,I.laid (a:=s.heap.objs.size) (o:=.dK []) (t':=s.toks) (λ_ _ q=>yw _ q) (yh _) (dk_empty s.heap I.big),rfl,h _ (I.hok.fresh (yh _))⟩
end
def mergeK(kvs a:List (Key×V)):List (Key×V):=a.foldl (λacc b=>qaM acc b.1 b.2) kvs
structure M1(X:Cx)(o:Expr)(m:Str)(apos:Pos)(e:Expr)(cpos:Pos):Prop where
 base:attributeBase o m X.env (eval o X.env)=eval o X.env
 few:((backTo cpos (starEach [e] X.env)).all (λx=>!x.1)&&(backToKw cpos (keywordEach [] X.env)).all (λx=>x.1.isSome)
  && decide (([e]:List Expr).length+([]:List Keyword).length+(if ([]:List Keyword).isEmpty then 0 else 1)<30))=true
 line:(apos.endLine==cpos.line)=true
 trees:backTo cpos (starEach [e] X.env)=[(false,eval e X.env)]
structure M2(X:Cx)(o:Expr)(m:Str)(apos:Pos)(e f:Expr)(cpos:Pos):Prop where
 base:attributeBase o m X.env (eval o X.env)=eval o X.env
 few:((backTo cpos (starEach [e,f] X.env)).all (λx=>!x.1)&&(backToKw cpos (keywordEach [] X.env)).all (λx=>x.1.isSome)
  && decide (([e,f]:List Expr).length+([]:List Keyword).length+(if ([]:List Keyword).isEmpty then 0 else 1)<30))=true
 line:(apos.endLine==cpos.line)=true
 trees:backTo cpos (starEach [e,f] X.env)=[(false,eval e X.env),(false,eval f X.env)]
def IsD(H:Hp)(a:Addr):Prop:=(∃ kvs,Rd H a (.dK kvs))\/∃ kvs,Rd H a (.dT kvs)
theorem qfP(I:Inv X pins σ H s)(d:IsD H a) :
  s.TypeIs (.ref a) "dict"/\(∀ b,Value.ref a=.ref b->∃ c,s.heap.get? b=some c/\c.dict=none)/\(a==sysModules)=false:=by
 rcases d with⟨kvs,e⟩ | ⟨kvs,e⟩
 .obtain⟨_,h,vs,_,f⟩:=qcs I.hok e;show⟨f.typeIs,λb q=>?_,h⟩;cases q;obtain⟨c,_,_,h1,g,_⟩:=f;show⟨c,h1,g.2.1⟩
 .obtain⟨_,h,xs,_,f⟩:=qc1 I.hok e;show⟨f.typeIs,λb q=>?_,h⟩;cases q;obtain⟨c,_,_,h1,g,_⟩:=f;show⟨c,h1,g.2.1⟩
section
variable{X:Cx}{pins:List (Addr×Obj)}{σ:St}{H:Hp}{s:Shared}{a:Addr}{y d:V}{u r:Value}{o:Option V}{A:Around}{E:Value->Shared->Prop}
theorem d_get1{Q:Value->Shared->Prop}(p:A.units+1<cLine)(I:Inv X pins σ H s)(g:DGet H a y o)(j:RelV y u)(h:∀ m s',Inv X pins σ H s'->RelV (o.getD .non) m->Q m s') :
  wpAny (model X.prog X.w) A (call (.builtin "dict.get") [.ref a,u]) Q E s:=by
 rcases g with⟨kvs,k,e,f,l⟩ | ⟨kvs,k,b,e,f,n,l⟩
 .subst f;obtain⟨z,i,vs,c,d⟩:=qcs I.hok e;show Kn xp d.typeIs Xo (PySem.F.args_dict_get_2 _ _) (meets_dict_get (jc X.prog X.w) a (qds j) i) ⟨_,d.mapOf,h _ _ (I.tok _) ?_⟩;rw[l];show(c.val k).getD rfl
 .subst f;cases (show u=Value.ref b from j);obtain⟨z,i,xs,c,d⟩:=qc1 I.hok e;show Kn xp d.typeIs Xo (PySem.F.args_dict_get_2 _ _) (meetsH_dict_get (tupleKind (jc X.prog X.w)) a b i) ⟨xL p,k,xs,qbO I.hok n,d,h _ _ (I.tok _) ?_⟩;rw[l];show(c.val k).getD rfl
theorem d_get2{Q:Value->Shared->Prop}(t:A.units+1<cLine)(I:Inv X pins σ H s)(g:DGet H a y o)(n:RelV y u)(m:RelV d r)(h:∀ p s',Inv X pins σ H s'->RelV (o.getD d) p->Q p s') :
  wpAny (model X.prog X.w) A (call (.builtin "dict.get") [.ref a,u,r]) Q E s:=by
 rcases g with⟨kvs,k,e,i,l⟩ | ⟨kvs,k,b,e,i,q,l⟩
 .subst i;obtain⟨z,j,vs,c,f⟩:=qcs I.hok e;show Kn xp f.typeIs Xo (PySem.F.args_dict_get_3 _ _ _) (meets_dict_get_default (jc X.prog X.w) a (qds n) j r) ⟨_,f.mapOf,h _ _ (I.tok _) ?_⟩;rw[l];show(c.val k).getD m
 .subst i;cases (show u=Value.ref b from n);obtain⟨z,j,xs,c,f⟩:=qc1 I.hok e;show Kn xp f.typeIs Xo (PySem.F.args_dict_get_3 _ _ _) (meetsH_dict_get_default (tupleKind (jc X.prog X.w)) a b j r) ⟨xL t,k,xs,qbO I.hok q,f,h _ _ (I.tok _) ?_⟩;rw[l];show(c.val k).getD m
end
def qfQ(d ty:TE):TE:=fun σ H Q=>d σ H λx b=>∃ a,x=.ref a/\IsD b a/\ty σ b λy c=>∃ o,DGet c a y o/\Q (o.getD .non) c
def qfR(e ty f:TE):TE:=fun σ H Q=>e σ H λx b=>∃ a,x=.ref a/\IsD b a/\ty σ b λy d=>f σ d λz c=>∃ o,DGet c a y o/\Q (o.getD z) c
section
variable{X:Cx}{o e f:Expr}{apos cpos:Pos}{td ty tx:TE}
theorem pe_dget1(r:X.A.units+1<cLine)(q:PE X o td)(p:PE X e ty)(m:M1 X o "get" apos e cpos):PE X (.Call (.Attribute o "get" apos) [e] [] cpos) (qfQ td ty):=by
 intro pins s σ H Q I h;show wpAny_Call_method m.base m.few m.line PySem.F.plainAttrs_dict xp PySem.F.type_dict_get (thn (q pins s σ H _ I h) λu B ⟨x,f,c,w,a,n,d,t⟩=>?_);subst n;obtain rfl:u=Value.ref a:=w;obtain⟨C,D,_⟩:=qfP c d;show⟨C,D,?_⟩;rw[m.trees];show xF rfl (Xy (XU (thn (p pins B σ f _ c t) λE J ⟨y,i,j,z,G,g,v⟩=>kS ?_)));show d_get1 r j g z λL K l b=>⟨_,i,l,b,v⟩
theorem pe_dget2(B:X.A.units+1<cLine)(w:PE X o td)(t:PE X e ty)(v:PE X f tx)(m:M2 X o "get" apos e f cpos):PE X (.Call (.Attribute o "get" apos) [e,f] [] cpos) (qfR td ty tx):=by
 intro pins s σ H Q I h;show wpAny_Call_method m.base m.few m.line PySem.F.plainAttrs_dict xp PySem.F.type_dict_get (thn (w pins s σ H _ I h) λu L ⟨x,i,c,G,a,r,d,C⟩=>?_);subst r;obtain rfl:u=Value.ref a:=G;obtain⟨N,O,_⟩:=qfP c d;show⟨N,O,?_⟩;rw[m.trees]
 show xF rfl (Xy (XU (thn (t pins L σ i _ c C) λR M ⟨y,j,n,J,D⟩ =>
  XU (thn (v pins M σ j _ n D) λP T ⟨z,l,p,K,S,g,E⟩=>kS ?_))))
 show d_get2 B p g J K λW U q b=>⟨_,l,q,b,E⟩
end
section
variable{X:Cx}{pins:List (Addr×Obj)}{σ:St}{H:Hp}{s:Shared}{a:Addr}{kvs:List (Key×V)}{A:Around}{E:Value->Shared->Prop}
end
section
variable{X:Cx}{pins:List (Addr×Obj)}{σ:St}{H:Hp}{s:Shared}{a:Addr}{y:V}{u:Value}{A:Around}{E:Value->Shared->Prop}
end
end L2
namespace Att
open PySem PySem.W PySem.Calls PyProof.Rows
variable{P:Params}{h:Heap}{l:OpenLaw}{n:Nat}
theorem ints_of_wellAll:∀(ns:LQ) (vs:List Value),WellAll P h vs (ns.map WData.int)->IntsAre vs ns:=by
 intro ns
 induction ns with
 | nil =>
  intro vs w;rw[List.map_nil] at w;cases w;show .nil
 | cons n ns ih =>
  intro vs w;rw[YG] at w
  cases w with
  | cons a b =>
   cases a;show .cons _ _ (ih _ b)
theorem script_of(p:l.most=some n){args:List WData}{c:List Value}
  (b:l.row.toRowW.claim.pre args=true) (j:WellAll P h c args) :
  ∃ a vs ns,c=[Value.ref a]/\args=[WData.list (ns.map WData.int)]/\h.get? a=some { cls:=.type "list",data:=.seq vs.toArray }/\IntsAre vs ns/\ns.length<=n:=by
 have i:WShape.hasAll [] args [.list .int]=true:=(pre_splitW b).1;have hc:l.pre.holds [] { args:=args }=true:=(pre_splitW b).2;obtain⟨d,r,rfl,h1,m⟩:=hasAllW_cons i;obtain rfl:=hasAllW_nil m;obtain⟨xs,rfl,o⟩:=hasW_list h1;obtain⟨ns,rfl⟩:=items_int o
 have e:ns.length<=n:=by
  unfold OpenLaw.pre at hc
  have f:(WTm.not (.lt (.lit (.int (n:Int))) (.len (.arg 0)))).holds [] { args:=[.list (ns.map .int)] }=true:=by
   have f:=(holds_andW hc).1;rw[p] at f;show f
  have g:=condW_of f (w_not (w_lt w_lit (w_len_list (w_arg rfl))));rw[ya] at g;show Nat.le_of_not_lt λq=>?_;have s:(n:Int)<((ns.length:Nat):Int):=by lk
  first
   | (rw[yz s] at g;show absurd g (by decide))
   | (simp at g;lk)
 cases j with
 | cons w1 w2 =>
  cases w2
  cases w1 with
  | list ho hall=>show⟨_,_,ns,rfl,rfl,ho,ints_of_wellAll ns _ hall,e⟩
theorem post_true(l:OpenLaw)(args:List WData):l.row.toRowW.claim.post args (.bool true) args=true:=
 postW_of (r:=l.row.toRowW) (X:=(true==true))
  (show WShape.has [] (.bool true) .bool=true by first | rfl | decide | simp[WShape.has,WShape.arms,WShape.armsAll])
  (show(WTm.eq .res (.lit (.bool true))).value [] { args:=args,res:=some (.bool true),after:=args }=some (.bool (true==true)) from w_eq_bool (w_res rfl) w_lit) rfl
theorem attach_call{q:Program}{loose:LS}{XP:(Str->Option Value)->Heap->Prop}{YP:World->Heap->Prop}{d:DefRec}
  (M:l.most=some n) (u:d.params.defaults=[])
  (call:∀(w:World) (c b:Shared) (s y:Str->Option Value) (h:Addr) (o:Obj) (z p e:Value) (a:Addr) (vs:List Value) (ns:LQ),
   Ground q loose [] XP w c s y b.heap->YP w b.heap ->
   b.heap.get? h=some o->o.data=.func (docDef d.name d.params d.body d.scope z p e)->b.heap.CodeRec p d.name->s d.name=some (.ref h) ->
   b.heap.get? a=some { cls:=.type "list",data:=.seq vs.toArray }->IntsAre vs ns->ns.length<=n->b.gens=#[] ->
   codeAny (model l.prog w) callerA (.call (.ref h) ⟨[.ref a],[]⟩) (λr s'=>r=.ok (.ret (.bool true))/\OldK b.heap s'.heap/\s'.os=b.os/\AllBare s'.gens) b) :
  WalkO q loose XP YP l.row.toRowW d [] (λf vs=>PySem.call f vs):=by
 intro w c b s y G Y h o z p e D kV N I t A v J args C R m B P x K;obtain rfl:D=.none:=Dflts.none A u;obtain rfl:kV=.none:=Dflts.noKw A;obtain⟨a,vs,ns,rfl,rfl,j,g,i⟩:=script_of M m x;show enter_call (XF (call w c b s y h o z p e a vs ns G Y N (fd_plain I) t v j g i J) λr s' O=>?_);obtain⟨rfl,E,F,H⟩:=O;show⟨.inl ⟨.bool true,.bool true,[],rfl,λ_=>rfl,.bool true,post_true l _,λ_=>⟨List.Pairwise.nil,λ_ L=>(nomatch L)⟩⟩,E,F,H⟩
section
variable{prog:Program}{w:World}{A:Around}{E:Value->Shared->Prop}{s:Shared}{K:Frag}
def ledger(h:Heap)(L d:Addr):List (Addr×Obj):=(List.range h.objs.size).filterMap λa=>if a=L\/a=d then none else(h.get? a).map λo=>(a,o)
end
end Att
namespace L2
open PySem PySem.Spec PyProof.Rows
variable{A B:Prop}{H H':Hp}{a f:Addr}{fd:FuncData}{n:Nat}{ps:LS}{qual x:Str}{sp:Sp}{st:Stmt}
theorem qc2:∀{vs:List Value} {ns:LQ},IntsAre vs ns->Vals (ns.map V.int) vs
 | _,_,.nil=>.nil
 | _,_,.cons n t h=>.cons ⟨t,rfl⟩ (qc2 h)
def qg7(H:Hp):Prop:=∀ b,H b=none\/∃ o xs,H b=some (.frz o (.lst xs))
theorem law_call{P:Program}{w:World}{K:yg}{D R:Str->Option Value}{CX:CXT}{k:Nat}{J:Addr}{c:Shared}{vs:List Value}{ns:LQ}
  (T:K.In c.heap) (y:c.heap.Ns mainGlobals D) (hb:c.heap.Ns builtinsNs R) (M:∀ x:Str,x≠"__name__"->R x=bootBuiltins x) (t:c.heap.NoLimit) (hg:c.gens=#[])
  (G:c.heap.get? a=some { cls:=.type "list",data:=.seq vs.toArray }) (Y:IntsAre vs ns) (hl:ns.length<=sizeLine) (hr:Room k callerA)
  (F:∀ base:Heap,K.In base->base.Ns mainGlobals D->FnOk P w K D base CX k J fd [x] sp) (i:∀(s:Shared) (u:Value),BindsTo s fd ⟨[u],[]⟩ [(x,u)])
  (O:∀ H:Hp,qg7 H->SqL K H a (ns.map V.int)->sp [.ref a] H (λv _=>v=.bl true) λ_ _ _=>False)
  (L:∀ H e s',CX [] H c (λ_ _ _=>False) e s'->False) :
  codeAny (model P w) callerA (.call (.ref J) ⟨[.ref a],[]⟩) (λr s'=>r=.ok (.ret (.bool true))/\OldK c.heap s'.heap/\s'.os=c.os/\AllBare s'.gens) c:=by
 have Z:=qc2 Y;have C:=Y.length;have g:∀ H:Hp,qg7 H->SqL K H a (ns.map V.int)->HOk P w H c.heap->(∀ b,H b≠none->b=a)->(H a≠none->K.lookup a=none) ->
   codeAny (model P w) callerA (.call (.ref J) ⟨[.ref a],[]⟩) (λr s'=>r=.ok (.ret (.bool true))/\OldK c.heap s'.heap/\s'.os=c.os/\AllBare s'.gens) c:=by
  intro H X hS A W hK;have base_of:∀{b:Addr} {o:Obj},c.heap.get? b=some o->H b=none->(qfA c.heap H).get? b=some o:=λe n=>hidT_get e n
  have S:∀{b:Addr} {o:Obj} {l:Array DictEntry} {ep:Nat},c.heap.get? b=some o->o.data=.dict l ep->H b=none:=λ{b o l ep} e d=>by
   cases q:H b with
   | none=>rfl
   | some u =>
    have I:b=a:=W b (by rw[q];simp);subst I;rw[G] at e;cases e;have d':Data.seq vs.toArray _=Data.dict l ep:=d;cases d'
  have f:∀{b:Addr} {m:Str->Option Value},c.heap.Ns b m->(qfA c.heap H).Ns b m:=λ{b m} ⟨o,l,ep,e,d,r⟩=>⟨o,l,ep,base_of e (S e d),d,r⟩
  have p:K.In (qfA c.heap H):=λb o e=>base_of (T b o e) (by
   cases q:H b with
   | none=>rfl
   | some u =>
    have I:b=a:=W b (by rw[q];simp);subst I;rw[hK (by rw[q];simp)] at e;cases e)
  have hM:Mod K D (qfA c.heap H):=⟨p,f y,⟨R,f hb,M⟩,let ⟨mc,h1,h2⟩:=t;⟨mc,f h1,h2⟩⟩;have e0:Env0 P w K D (qfA c.heap H) callerA [] c H:=⟨rfl,hM,λb o e=>of_hidT e,kg (hidT_size _ _),trivial,λb hb=>absurd (show b∈([]:LI) from hb) (by simp),A,.of_eq hg⟩;show XF ((F _ p (f y)).run callerA [] c H ⟨[.ref a],[]⟩ [.ref a] [.ref a] _ _ hr e0 (i c (.ref a)) (.cons rfl .nil) (O H X hS)) λr s' h=>?_
  cases r with
  | error e=>show(L H e s' h).elim
  | ok fl =>
   cases fl with
   | next=>show False.elim h
   | brk=>show False.elim h
   | cont=>show False.elim h
   | ret u =>
    obtain⟨v,H',os,j,un,B,r',q⟩:=h;have q':v=.bl true:=q;subst q';obtain rfl:u=Value.bool true:=r';show⟨rfl,OldK.of_keep λb o e=>?_,os,j⟩
    cases q:H b with
    | none=>show un.keep b o e q (by intro z;show absurd (show b∈([]:LI) from z) (by simp)) (by simp)
    | some u =>
     rcases X b with z | ⟨ob,xs,z⟩
     .rw [q] at z;cases z
     .have z2:=un.frzs b ob _ z;obtain⟨U,_⟩:=A b _ z;obtain⟨e2,_⟩:=B b _ z2;rw[e] at U;cases U;show e2
 cases N:K.lookup a with
 | some o =>
  have e:=T a o N;rw[G] at e;cases e;show g (λ_=>none) (λ_=>.inl rfl) (.inr ⟨_,vs.toArray,_,N,rfl,rfl,rfl,by rw[yA,C];show hl,by simpa using Z⟩) (λb u z=>by have E:(none:Option HO)=some u:=z;cases E) (λb z=>absurd rfl z) λz=>absurd rfl z
 | none =>
  show g (λb=>if b=a then some (.frz { cls:=.type "list",data:=.seq vs.toArray } (.lst (ns.map V.int))) else none) (λb=>?_) (.inl (.inr ⟨{ cls:=.type "list",data:=.seq vs.toArray },yH rfl⟩)) (λb u z=>?_) (λb z=>?_) λ_=>N
  .by_cases hb:b=a
   .show .inr ⟨_,_,yH hb⟩
   .show .inl (yD hb)
  .by_cases hb:b=a
   .have E:=(yH hb).symm.trans z;cases E;subst hb;show⟨G,by rw[ya];show hl,vs,_,Z,G⟩
   .have E:=(yD hb).symm.trans z;cases E
  .by_cases hb:b=a
   .show hb
   .show absurd (yD hb) z
abbrev KOf{K:yg}{h:Heap}(_:K.In h):yg:=K
theorem walk_of{l:PySem.W.OpenLaw}{k:Nat}{q:Program}{loose:LS}{XP:(Str->Option Value)->Heap->Prop}{YP:World->Heap->Prop}{d:DefRec}{K:Params->yg}{CX:World->CXT}{sp:World->Sp}
  (P:l.most=some n) (A:n<=sizeLine) (y:d.params.defaults=[]) (R:Room k callerA)
  (M:∀(w:World) (h:Heap),YP w h->(K w.params).In h)
  (F:∀(w:World) (j:Str->Option Value) (r:Addr) (h:Heap),(K w.params).In h->h.Ns mainGlobals j->j d.name=some (.ref r) ->
   ∃ fd:FuncData,(∀(s:Shared) (u:Value),BindsTo s fd ⟨[u],[]⟩ [(x,u)]) /\
    ∀ base:Heap,(K w.params).In base->base.Ns mainGlobals j->FnOk l.prog w (K w.params) j base (CX w) k r fd [x] (sp w))
  (B:∀(w:World) (H:Hp) (a:Addr) (ns:LQ),ns.length<=n->qg7 H->SqL (K w.params) H a (ns.map V.int)->sp w [.ref a] H (λv _=>v=.bl true) λ_ _ _=>False)
  (t:∀(w:World) (H:Hp) (s:Shared) (e:Value) (s':Shared),CX w [] H s (λ_ _ _=>False) e s'->False) :
  PySem.W.WalkO q loose XP YP l.row.toRowW d [] (λf vs=>PySem.call f vs):=by
 show Att.attach_call P y λw D p j Z r o pm S E a vs ns G Y X U N z m i c O=>?_;have C:=M w _ Y;obtain⟨fd,hb,I⟩:=F w j r _ C G.T.g z;show law_call C G.T.g G.T.b G.T.builtins G.T.nolimit O m i (yi c A) R I hb (λH J L=>B w H a ns c J L) λH e s'=>t w H p e s'
abbrev CX0:CXT:=λ_ _ _ _ _ _=>False
abbrev E0:XK:=λ_ _ _=>False
theorem qy{X:Cx}:qad CX0 X E0:=λ_ _ _ _ _ _ _ h=>h.elim
structure Fun(K:yg)(x qual:Str)(st:Stmt)(f:Addr)(fd:FuncData):Prop where
 ex:∃(oc:Value) (od:Option Addr) (kV doc pm:Value) (an:Option Addr) (cdv ct:Value) (osl:Array (Option Value)),
  fd=PySem.W.fnOf x qual (qaA st) (zN st) (qg st) .none kV doc pm an cdv ct/\K.lookup f=some ⟨oc,od,.func fd,osl⟩/\PySem.W.codeIn K cdv qual=true
 kp:PySem.W.keepIn K (.ref f)=true
section
variable{P:Program}{w:World}{K:yg}{mg:Str->Option Value}{base:Heap}
theorem Fun.ok{N:LS}{k:Nat}(F:Fun K x qual st f fd)(S:FnScope N ps (qg st)) (c:∀(b:Value) (A:Around) (a:List Env) (s:Shared) (H:Hp) (vs:List V) (Q:VK) (E:XK),Room k (A.deeper (envOfC qual (qg st) s.heap.objs.size f b))->sp vs H Q E ->
   ∃ t,PSs (qfN CX0 P w K mg base N qual (qg st) f b A a s H E).nox (zN st) t/\t { nx:=λ_ H'=>Q .non H',rt:=Q } (start N vs) H) (g:∀ vs H Q E,sp vs H Q E->vs.length=ps.length:=by intro _ _ _ _ h;cases h;subst_vars;rfl):wqqb (k+1) f fd ps sp:=by
 obtain⟨o,od,kV,i,p,n,b,ct,m,rfl,l,d⟩:=F.ex;show qgy l d S g λA a s H vs Q E j e=>?_;obtain⟨t,h,q⟩:=c b A a s H vs Q E j e;show⟨t,h.nox,q⟩
theorem Fun.binds(F:Fun K x qual st f fd)
  (h:∀(kV b d:Value) (c:Option Addr) (a ct:Value) (us:List Value),us.length=ps.length->bindArgs (PySem.W.fnOf x qual (qaA st) (zN st) (qg st) .none kV b d c a ct) ⟨us,[]⟩=pure (ps.zip us)):Binds K fd ps []:=by
 obtain⟨j,od,kV,b,d,c,a,ct,g,rfl,i,e⟩:=F.ex;show .all (h kV b d c a ct)
theorem fun_mk{h:Value}{od e:Option Addr}{d:Array (Option Value)}{kV b g a ct:Value}(l:K.lookup f=some ⟨h,od,.func (PySem.W.fnOf x qual (qaA st) (zN st) (qg st) .none kV b g e a ct),d⟩)
  (c:PySem.W.codeIn K a qual=true) (k:PySem.W.keepIn K (.ref f)=true):Fun K x qual st f (PySem.W.fnOf x qual (qaA st) (zN st) (qg st) .none kV b g e a ct):=⟨⟨h,od,kV,b,g,e,a,ct,d,rfl,l,c⟩,k⟩
end
theorem qh(h:n<=1000):n<sizeLine:=YH h (by decide)
section
variable{X:Cx}
theorem pv(i:Nat){b:Pos}(c:X.N[i]?=some x:=by rfl)(hv:Vis X.env.scope x:=by first | show yF rfl | show Xg (yF rfl) | show Xg (Xg rfl))(d:(x==("__debug__":Str))=false:=by decide)
  (a:(x==("__classdict__":Str))=false:=by decide):PE X (.Name x b) (qg1 i):=pe_var c hv d a
theorem call_lenD:zL X (.builtin "len") (λxs H Q=>∃ a kvs,xs=[V.ref a]/\H a=some (.dK kvs)/\Q (.int kvs.length) H):=by
 intro b s f H xs us Q I r h;obtain⟨a,kvs,rfl,d,q⟩:=h;obtain⟨u,rfl,e⟩:=qbn r;cases e;show d_len I (.inl d) λt s' c=>⟨.int kvs.length,H,c,⟨t,rfl⟩,q⟩
end
theorem zX(h:A):if true=true then A else B:=by
 rw[yH rfl];show h
theorem qL{c:Prop}[Decidable c](h1:c->A)(a:¬ c->B):if c then A else B:=by
 by_cases h:c
 .rw [yH h];show h1 h
 .rw [yD h];show a h
def Same(H H':Hp):Prop:=∀ b o,H b=some o->H' b=some o
theorem Same.refl(H:Hp):Same H H:=λ_ _ h=>h
theorem Same.trans{d e:Hp}(a:Same H d)(b:Same d e):Same H e:=λc o h=>b c o (a c o h)
theorem Same.free(e:Same H H'){l:Addr}(h:H' l=Option.none):H l=Option.none:=by
 cases q:H l with
 | none=>rfl
 | some o =>
  rw[e l o q] at h;cases h
theorem Same.seq{K:yg}{xs:List V}(e:Same H H')(h:SqL K H a xs):SqL K H' a xs:=by
 rcases h with(h | ⟨o,h⟩) | h
 .show .inl (.inl (e _ _ h))
 .show .inl (.inr ⟨o,e _ _ h⟩)
 .show .inr h
section
variable{κ:Type}[DecidableEq κ]
end
end L2
set_option maxHeartbeats 4000000
namespace L2
open PySem PySem.Spec PyProof.Rows
variable{A:Around}{C D a a0 c e f it p:Addr}{E:Value->Shared->Prop}{H H':Hp}{M:Model}{N ps:LS}{P prog:Program}{QO:Option Int->Hp->Prop}{R:It->Hp->Prop}{T:String}{X:Cx}{acc:List (Str×Addr)}{b expr:Bool}{dx:Option Addr}{elt iter tg:Expr}{env:Env}{fd:FuncData}{fl t u:Value}{fp zs:LI}{g:TG}{h h':Heap}{i j:Int}{ifs:List Expr}{its l us:List Value}{ixs:LN}{n nl:Nat}{names:List (Str×NameKind)}{od:Option Obj}{ox:Obj}{pins:List (Addr×Obj)}{pos:Pos}{qual x z:Str}{s:Shared}{sc scope:Scope}{sp:Sp}{tc:TT}{te:TE}{tk:Tok}{v y:V}{vs:Array Value}{w:World}{wi:TI}{xs ys:List V}{σ:St}
section
variable{prog:Program}{w:World}{A:Around}{R:Result->Shared->Prop}{s:Shared}
theorem compLoop_own{a:Expr}{it acc:Value}(I:Nat->Shared->Prop)
  (turn:∀ n s,I n s->wpAny (model prog w) A (pyNext it) (λr e=>match r with
   | none=>R (.ok .next) e
   | some v=>wpAny (model prog w) A (letOwnedTupleGo a it v) (λ_ b=>wpAny (model prog w) A (assign a env v) (λ_ i =>
     wpAny (model prog w) A (forIn ifs true λc r=>if r=true then do let ok <- isTrue c env (eval c env);pure (ForInStep.yield ok) else pure (ForInStep.yield r)) (λok f =>
      if ok=true then wpAny (model prog w) A (eval elt env) (λx j =>
       wpAny (model prog w) A (call (.builtin "list.append") [acc,x]) (λ_ l=>∃ m,m<n/\I m l) (λ_ _=>False) j) (λ_ _=>False) f
      else ∃ m,m<n/\I m f) (λ_ _=>False) i) (λ_ _=>False) b) (λ_ _=>False) e) (λ_ _=>False) s)
  (n:Nat) (h:I n s) :
  codeAny (model prog w) A (.compLoop (.ListComp elt [⟨a,iter,ifs,0⟩] scope pos) 0 it acc env) R s:=by
 show codeAny_loop rfl I (λn s t=>?_) n h;show wpAny _ A ((compTurn (.ListComp elt [⟨a,iter,ifs,0⟩] scope pos) 0 it acc env).onRaise (λx=>do noteFrame x env;theTreesLotGoes x)) _ _ s;show wpAny_noted ?_;rw[compTurn_list];show yr (XM (yr (YJ (turn n s t) (λr e h1=>?_) λ_ _ h'=>h'.elim)))
 cases r with
 | none=>show yE h1
 | some v =>
  show yr (YJ h1 (λ_ b d=>?_) λ_ _ h'=>h'.elim);show yr (YJ d (λ_ i o=>yr (YJ o (λok f g=>?_) λ_ _ h'=>h'.elim)) λ_ _ h'=>h'.elim)
  cases ok with
  | false=>show yE ⟨rfl,g⟩
  | true =>
   show yr (yr (YJ g (λx j p=>yr (YJ p (λ_ l q=>yE (yE ⟨rfl,q⟩)) λ_ _ h'=>h'.elim)) λ_ _ h'=>h'.elim))
end
def qM(env:Env):List (Str×NameKind)->List (Str×Addr)->List (Str×Addr)
 | [],acc=>acc
 | (n,k)::r,acc=>qM env r (if (k==.free)=true then(n,(env.cells.lookup n).getD 0)::acc else acc)
theorem zO:∀{names:List (Str×NameKind)} {acc:List (Str×Addr)} {x:Str} {c:Addr},(qM env names acc).lookup x=some c ->
  ((x,NameKind.free)∈names/\c=(env.cells.lookup x).getD 0)\/acc.lookup x=some c
 | [],_,_,_,h=>.inr h
 | (n,k)::r,acc,x,c,h=>by
  unfold qM at h;rcases zO h with⟨h1,f⟩ | h1
  .show .inl ⟨yy _ h1,f⟩
  .by_cases a:(k==NameKind.free)=true
   .rw [yH a,xq] at h1
    cases b:x==n with
    | true =>
     rw[b] at h1;have e:x=n:=Ym.mp b;have d:k=.free:=Ym.mp a;subst e d;show .inl ⟨yM,(ym h1).symm⟩
    | false =>
     rw[b] at h1;show .inr h1
   .rw [yD a] at h1;show .inr h1
theorem qaO:∀{names:List (Str×NameKind)} {acc:List (Str×Addr)} {x:Str},(∃ c,acc.lookup x=some c)->∃ c,(qM env names acc).lookup x=some c
 | [],_,_,h=>h
 | (n,k)::r,acc,x,h=>by
  unfold qM;apply qaO;by_cases a:(k==NameKind.free)=true
  .rw [yH a,xq]
   cases b:x==n with
   | true=>show⟨_,rfl⟩
   | false=>show h
  .rw [yD a];show h
theorem zP:∀{names:List (Str×NameKind)} {acc:List (Str×Addr)} {x:Str},(x,NameKind.free)∈names->∃ c,(qM env names acc).lookup x=some c
 | [],_,_,h=>by cases h
 | (n,k)::r,acc,x,h=>by
  unfold qM;rcases yv.mp h with e | e
  .cases e;apply qaO;rw[show(NameKind.free==NameKind.free)=true from rfl,yH rfl,xq,Xh];show⟨_,rfl⟩
  .show zP e
theorem qaP(h:∀ n,(n,NameKind.free)∈scope.names->∃ c,env.cells.lookup n=some c):closureFor scope env=pure (qM env scope.names []):=by
 have f:∀(names:List (Str×NameKind)) (acc:List (Str×Addr)),(∀ n,(n,NameKind.free)∈names->∃ c,env.cells.lookup n=some c) ->
   (forIn names acc (λ(x:Str×NameKind) (r:List (Str×Addr))=>(if (x.2==NameKind.free)=true then(cellOf env x.1>>=λc=>pure (ForInStep.yield ((x.1,c)::r))) else pure (ForInStep.yield r):Sem (ForInStep (List (Str×Addr))))))=(pure (qM env names acc):Sem (List (Str×Addr))):=by
  intro names
  induction names with
  | nil=>intro acc _;rfl
  | cons x r ih =>
   intro acc d;obtain⟨n,k⟩:=x;rw[List.forIn_cons];unfold qM;by_cases a:(k==NameKind.free)=true
   .have g:k=.free:=Ym.mp a;subst g;obtain⟨c,hc⟩:=d n yM;have i:cellOf env n=pure c:=by unfold cellOf;rw[hc]
    simp only[a,Xu,i,hc,Option.getD_some];show ih _ λm b=>d m (yy _ b)
   .simp only[a,ki];show ih _ λm b=>d m (yy _ b)
 have e:=f scope.names [] h;unfold closureFor;show Eq.trans (congrArg (λm=>m>>=pure) e) rfl
@[reducible] def Cx.comp(X:Cx)(N:LS)(scope:Scope)(C:Addr)(s0:Shared)(H0:Hp)(ex:LI):Cx where
 prog:=X.prog
 w:=X.w
 K:=X.K
 mg:=X.mg
 base:=X.base
 A:=X.A
 N:=N
 s₀:=s0
 H₀:=H0
 env:=compEnvC scope (cellsFrom (C+1) scope.names (qM X.env scope.names [])) C X.env
 outer:=X.stack
 stack:=X.stack
 ex:=ex
 fn:=λx=>scope.names.lookup x==some NameKind.cell
 calm:=X.calm
 pn:=[]
 xe:=λ_ _=>False
theorem jw:∀(names:List (Str×NameKind)) (n:Nat) (acc:List (Str×Addr)),cellsFrom n names acc=cellsFrom n names []++acc
 | [],_,_=>rfl
 | (m,k)::r,n,acc=>by
  unfold cellsFrom;split
  .rw [jw r (n+1) ((m,n)::acc),jw r (n+1) [(m,n)],Xv];rfl
  .show jw r n acc
theorem qaQ:∀{names:List (Str×NameKind)} {n:Nat} {x:Str},(x,NameKind.cell)∈names->∃ c,(cellsFrom n names []).lookup x=some c
 | (m,k)::r,n,x,h=>by
  unfold cellsFrom;rcases yv.mp h with e | e
  .cases e;rw[yH (show(NameKind.cell==NameKind.cell)=true from rfl),jw,xM]
   cases q:(cellsFrom (n+1) r []).lookup m with
   | some c=>show⟨c,rfl⟩
   | none=>show⟨n,by show List.lookup m [(m,n)]=some n;rw[xq,Xh]⟩
  .split
   .rw [jw,xM];obtain⟨c,hc⟩:=qaQ (n:=n+1) e;show⟨c,by rw[hc];rfl⟩
   .show qaQ e
theorem qbP:∀{names:List (Str×NameKind)} {n:Nat} {x:Str} {c:Addr},(x,c)∈cellsFrom n names []->(x,NameKind.cell)∈names
 | (m,k)::r,n,x,c,h=>by
  unfold cellsFrom at h;split at h
  .rename_i hk
   rw[jw] at h;rcases yG.mp h with z | z
   .show yy _ (qbP z)
   .have e:(x,c)=(m,n):=yC.mp z;cases e;rw[Ym.mp hk];show yM
  .show yy _ (qbP h)
theorem qbQ(h:(cellsFrom n names acc).lookup x=some c):(x,c)∈cellsFrom n names []\/acc.lookup x=some c:=by
 rw[jw,xM] at h
 cases e:(cellsFrom n names []).lookup x with
 | some d=>rw[e] at h;cases h;show .inl (mem_of_lookup e)
 | none=>rw[e] at h;show .inr h
theorem cells_some(h:(x,NameKind.cell)∈names\/∃ c,acc.lookup x=some c):∃ c,(cellsFrom n names acc).lookup x=some c:=by
 rw[jw,xM]
 cases e:(cellsFrom n names []).lookup x with
 | some d=>show⟨d,rfl⟩
 | none =>
  rcases h with z | ⟨c,hc⟩
  .obtain⟨d,a⟩:=qaQ (n:=n) z;rw[e] at a;cases a
  .show⟨c,hc⟩
section
variable{M:Model}{A:Around}{E:Value->Shared->Prop}{s:Shared}
theorem newEnvK{c:Addr}{b:List (Str×Addr)}{f:Option Addr}{e:Value}{d:Env}{a:Addr}{Q:Env->Shared->Prop}
  (i:Q (newEnv scope s.heap.objs.size c (cellsFrom (s.heap.objs.size+1) scope.names b) qual f e (some d) a) { s with heap:=pushCells (s.heap.push { cls:=.type "dict",data:=.dict #[] }) scope.names }) :
  wpAny M A (newFunctionEnv scope c b [] qual f e (some d) a) Q E s:=by
 simp only[newFunctionEnv,XV,Xu];show yr (wpAny_alloc ?_);show yr (wpAny_layCells _ (λname kind g=>by cases h:kind==NameKind.cell<;>simp[h]) _ _ _ _ ?_);rw[show({ s with heap:=s.heap.push { cls:=.type "dict",data:=.dict #[] } }:Shared).heap.objs.size=s.heap.objs.size+1 from xu ..];rw[List.forIn_nil];show yr (yE (yE i))
end
structure CompOk(sc scope:Scope):Prop where
 kind:scope.kind=.function
 cel:∀ y∈scope.names,y.2=.cell->scope.names.lookup y.1=some .cell
 loc:∀ y∈scope.names,y.2=.local->scope.names.lookup y.1=some .local
 free:∀ y∈scope.names,y.2=.free->sc.names.lookup y.1=some .cell\/sc.names.lookup y.1=some .free
 once:∀ y∈scope.names,y.2=.free->scope.names.lookup y.1=some .free
def qc3(sc scope:Scope):Bool:=decide (scope.kind=.function)&&scope.names.all λy=>match y.2 with
 | .local=>scope.names.lookup y.1==some .local
 | .free=>(sc.names.lookup y.1==some .cell||sc.names.lookup y.1==some .free)&&scope.names.lookup y.1==some .free
 | .cell=>scope.names.lookup y.1==some .cell
 | _=>true
theorem qdY(h:qc3 sc scope=true):CompOk sc scope:=by
 unfold qc3 at h;rw[yL] at h;have b:=Yr.mp h.2;show⟨yk h.1,λy a e=>?_,λy a e=>?_,λy a e=>?_,λy a e=>?_⟩
 .have:=b y a;rw[e] at this;show Ym.mp this
 .have:=b y a;rw[e] at this;show Ym.mp this
 .have:=b y a;rw[e,yL,Y5] at this;show this.1.imp Ym.mp Ym.mp
 .have:=b y a;rw[e,yL] at this;show Ym.mp this.2
def qgX(nl:Nat)(ixs:LN)(N XN:LS)(names:List (Str×NameKind)):Bool:=(List.range ixs.length).all λk=>match ixs[k]?,N[nl+k]? with
 | some j,some x=>XN[j]?==some x&&names.any λy=>y.1==x&&y.2==.free
 | _,_=>true
theorem qeV{XN:LS}(h:qgX nl ixs N XN names=true)(k j:Nat)(x:Str)(h1:ixs[k]?=some j)(c:N[nl+k]?=some x):XN[j]?=some x/\(x,NameKind.free)∈names:=by
 have d:k<ixs.length:=(yc.mp h1).1;have:=Yr.mp h k (Yh.mpr d);rw[h1,c] at this;simp only[yL] at this;show⟨Ym.mp this.1,?_⟩;obtain⟨⟨n,g⟩,f,e⟩:=YV.mp this.2;rw[yL] at e;have a:n=x:=Ym.mp e.1;have b:g=.free:=Ym.mp e.2;subst a b;show f
def qeI(nl:Nat)(ixs:LN)(σ:St):St:=List.replicate nl none++ixs.map λj=>(σ[j]?).getD none
theorem capS_len(nl:Nat)(ixs:LN)(σ:St):(qeI nl ixs σ).length=nl+ixs.length:=by
 unfold qeI;rw[yu,xo,ya]
theorem qdZ{i:Nat}(h:(qeI nl ixs σ)[i]?=some (some v)):nl<=i/\∃ j,ixs[i-nl]?=some j/\σ[j]?=some (some v):=by
 unfold qeI at h;by_cases a:i<nl
 .rw [Yi (by rw[xo];show a),Xe] at h;split at h<;>cases h
 .rw [yY (by rw[xo];lk),xo,yd] at h;show⟨by lk,?_⟩
  cases e:ixs[i-nl]? with
  | none=>rw[e] at h;cases h
  | some j =>
   rw[e] at h;have h':(σ[j]?).getD none=some v:=ym h
   cases q:σ[j]? with
   | none=>rw[q] at h';cases h'
   | some u =>
    rw[q] at h';show⟨j,rfl,by rw[q];show congrArg some h'⟩
def qfD(env:Env)(y:Str×NameKind):Str×NameKind:=if (y.2==NameKind.free&&env.scope.kind==.function&&env.kindOf y.1==some .cell)=true then(y.1,NameKind.cell) else(y.1,y.2)
theorem relF_fst(env:Env)(y:Str×NameKind):(qfD env y).1=y.1:=by unfold qfD;split<;>rfl
theorem relF_snd(env:Env)(y:Str×NameKind):(qfD env y).2=y.2\/((qfD env y).2=.cell/\y.2=.free):=by
 unfold qfD;split
 .rename_i h
  rw[yL,yL] at h;show .inr ⟨rfl,Ym.mp h.1.1⟩
 .show .inl rfl
theorem zr:∀{names:List (Str×NameKind)} {x:Str} {k:NameKind},(names.map (qfD env)).lookup x=some k->∃ b,names.lookup x=some b/\(x,b)∈names/\(k=b\/(k=.cell/\b=.free))
 | [],_,_,h=>by cases h
 | (n,k1)::r,x,k,h=>by
  rw[YG,show qfD env (n,k1)=((qfD env (n,k1)).1,(qfD env (n,k1)).2) from rfl,xq,relF_fst] at h;rw[xq]
  cases c:x==n with
  | true =>
   have e:x=n:=Ym.mp c;subst e;have a:(x==(x,k1).1)=true:=c;rw[a] at h;have h':=ym h;show⟨k1,rfl,yM,?_⟩;rcases relF_snd env (x,k1) with z | ⟨z1,z2⟩
   .show .inl (h'.symm.trans z)
   .show .inr ⟨h'.symm.trans z1,z2⟩
  | false =>
   have a:(x==(n,k1).1)=false:=c;rw[a] at h;obtain⟨b,d,f,g⟩:=zr h;show⟨b,d,yy _ f,g⟩
section
variable{X:Cx}{pins:List (Addr×Obj)}{σ:St}{H:Hp}{s:Shared}
theorem comp_free_of{b:List (Str×Addr)}(h:(compEnvC scope b C X.env).kindOf x=some .cell\/(compEnvC scope b C X.env).kindOf x=some .free):(x,NameKind.cell)∈scope.names\/(x,NameKind.free)∈scope.names:=by
 rcases h with h | h
 .obtain⟨c,_,a,e | ⟨_,e⟩⟩:=zr (env:=X.env) (names:=scope.names) h
  .rw [<- e] at a;show .inl a
  .rw [e] at a;show .inr a
 .obtain⟨c,_,a,e | ⟨e,_⟩⟩:=zr (env:=X.env) (names:=scope.names) h
  .rw [<- e] at a;show .inr a
  .cases e
theorem Inv.comp{S:Obj}{h1:Heap}{tk:Nat}(I:Inv X pins σ H s)(O:CompOk X.env.scope scope)
  (hN:N.length=nl+ixs.length) (G:∀(k j:Nat) (x:Str),ixs[k]?=some j->N[nl+k]?=some x->X.N[j]?=some x/\(x,NameKind.free)∈scope.names)
  (M:∀ b∈fp,qdp X pins H b) (J:∀ b∈fp,b<s.heap.objs.size) (L:s.heap.objs.size<=C) (W:s.heap.objs.size<=D) (Y:D≠C) (ac:h1.Ns C λ_=>none) (k:∀ b o,s.heap.get? b=some o->h1.get? b=some o)
  (ad:h1.get? D=some S) (aa:∀ v,S.data≠.cell v) (B:CellsOk h1 (C+1) (cellsFrom (C+1) scope.names [])):Inv (X.comp N scope C s H fp) [(D,S)] (qeI nl ixs σ) H { s with heap:=h1,toks:=tk }:=by
 have a:∀ x c,(qM X.env scope.names []).lookup x=some c->X.env.cells.lookup x=some c/\(x,NameKind.free)∈scope.names:=λx c h=>by
  rcases zO h with⟨h1,K⟩ | h1
  .obtain⟨F,l⟩:=I.ok.has x (by
    rcases O.free _ h1 rfl with z | z
    .show .inl z
    .show .inr z)
   rw[l] at K;show⟨by rw[l,K];rfl,h1⟩
  .cases h1
 have big:∀ c:Addr,C+1<=c->s.heap.objs.size<=c:=λc h=>yi L (Nat.le_of_succ_le h);have R:∀{P:Prop} {c:Addr},C+1<=c->c<s.heap.objs.size->P:=λh g=>absurd (yj g (big _ h)) (YF _)
 have all:∀ x c,(cellsFrom (C+1) scope.names (qM X.env scope.names [])).lookup x=some c->((x,c)∈cellsFrom (C+1) scope.names []/\C+1<=c/\h1.IsCell c none)\/(X.env.cells.lookup x=some c/\c<s.heap.objs.size):=λx c h=>by
  rcases qbQ h with z | z
  .show .inl ⟨z,(B.empty _ _ z).2,(B.empty _ _ z).1⟩
  .obtain⟨_,q⟩:=I.cell x c (a x c z).1;show .inr ⟨(a x c z).1,q.lt⟩
 show⟨⟨I.ok.mod,O.kind,I.ok.glob,I.ok.blt,L,λx y c h1 K=>?inj,λx hx=>cells_some ((comp_free_of hx).imp id zP),λx c z h=>?cab,I.ok.hd,I.ok.frames,.inl rfl,
   λb hb=>⟨Yl (yj (J b hb) L),λx c e=>?exf⟩,I.bs,yi I.ok.bsz I.sz,λb o e hb=>?_,λb hb z=>?_,I.stack,I.stkFree⟩,
  rfl,I.bare,Un.kept k,⟨_,ac,λi x v e1 e2 e3=>?_⟩,λx c e=>?_,I.hok.fresh L,λx c e=>?fre,λp hp=>?_,I.hok.kept k,?_⟩
 case inj =>
  rcases all x c h1 with⟨r,f,_⟩ | ⟨r,f⟩<;>rcases all y c K with⟨T,U,_⟩ | ⟨T,U⟩
  .show name_of_addr B.apart r T
  .show R f U
  .show R U f
  .show I.ok.inj x y c r T
 case cab =>
  rcases all x c h with⟨_,f,_⟩ | ⟨r,f⟩
  .show big _ f
  .exfalso;obtain⟨d,E⟩:=qaQ (n:=C+1) (mem_of_lookup (Ym.mp z));have h:(cellsFrom (C+1) scope.names (qM X.env scope.names [])).lookup x=some c:=h;rw[jw,xM,E] at h;cases h;show R (B.empty _ _ (mem_of_lookup E)).2 f
 case exf =>
  rcases all x c e with⟨_,f,_⟩ | ⟨r,_⟩
  .show λz=>R f (by rw[z];show J b hb)
  .show(M b hb).2.2.2.2.1 x c r
 case fre =>
  rcases all x c e with⟨_,f,_⟩ | ⟨r,_⟩
  .show I.hok.fresh (big _ f)
  .show I.freeC x c r
 .rcases(M b hb).2.2.2.1 with z | z
  .show I.ok.noex b o e z
  .have:=(I.ok.bs b o e).1;show absurd (yj (yU this) z) (YF _)
 .rcases yv.mp (I.stkSub b z) with e | e
  .show(M b hb).2.1 e
  .show(M b hb).2.2.1 e
 .obtain⟨hi,j,hj,hv⟩:=qdZ e2;obtain⟨hx,t⟩:=G (i-nl) j x hj (by rw[Nat.add_sub_cancel' hi];show e1);obtain⟨m,hn,hl⟩:=I.loc;have B:=O.free _ t rfl
  obtain⟨u,ru,lk⟩:=hl j x v hx hv (by
   rcases B with z | z
   .show .inr (.inl z)
   .show .inr (.inr z))
  show⟨u,ru,?_⟩;rcases lk with⟨ab,_⟩ | ⟨_,c,hc,A⟩
  .have w:X.env.scope.names.lookup x=some .local:=ab;rcases B with z | z<;>· rw[z] at w;cases w
  .obtain⟨F,l⟩:=zP (env:=X.env) (acc:=[]) t
   have e:F=c:=by
    have:=(a x F l).1;rw[hc] at this;show(ym this).symm
   subst e
   have Z:(cellsFrom (C+1) scope.names (qM X.env scope.names [])).lookup x=some F:=by
    rw[jw,xM]
    cases q:(cellsFrom (C+1) scope.names []).lookup x with
    | none=>show l
    | some d=>have:=O.cel _ (qbP (mem_of_lookup q)) rfl;rw[O.once _ t rfl] at this;cases this
   show .inr ⟨?_,F,Z,?_⟩
   .rcases e3 with z | z | z
    .obtain⟨k0,z3,_,e | ⟨e,_⟩⟩:=zr (env:=X.env) (names:=scope.names) z
     .rw [O.once _ t rfl] at z3;cases z3;cases e
     .cases e
    .show .inl z
    .show .inr z
   .obtain⟨o,ho,E⟩:=A;show⟨o,k _ _ ho,E⟩
 .rcases all x c e with⟨_,_,a3⟩ | ⟨r,_⟩
  .show⟨none,a3⟩
  .obtain⟨v,o,ho,E⟩:=I.cell x c r;show⟨v,o,k _ _ ho,E⟩
 .have e:p=(D,S):=by simpa using hp
  subst e;show⟨ad,I.hok.fresh W,Y,λz=>?_,aa⟩;rcases yv.mp (I.stkSub D z) with e | e
  .show absurd (show X.env.locals<D from yj I.lt W) (by rw[e];show YF _)
  .show I.nofs W e
 .show(qeI nl ixs σ).length=N.length;rw[capS_len,hN]
theorem Inv.compBack{s':Shared}{i:St}(I:Inv X pins σ H s)(g:∀ b∈fp,qdp X pins H b)(t:s.heap.objs.size<=C)(j:s.heap.objs.size<=D)
  (J:Inv (X.comp N scope C s H fp) [(D,{ cls:=.type "list",data:=.seq its.toArray n })] i H' s') (hv:Vals ys its) (m:ys.length<=sizeLine):Inv X pins σ (upd H' D (.lst ys)) s':=by
 obtain⟨r,f,p,_,_⟩:=J.pin (D,{ cls:=.type "list",data:=.seq its.toArray n }) (yR _ (yC.mpr rfl));have h:∀ b o,s.heap.get? b=some o->b≠D:=λb o e=>Yl (yj (yU e) j);have a:=J.base;show I.call' (ch:=fp) J.os ⟨a.keep,a.slot,λb o e n l=>?_,a.there,λb xs e=>?_,λb o u e=>?_,λb ps e=>?_⟩ (λb u e=>?_) J.bare λb hb=>⟨(g b hb).2.2.2.1,(g b hb).2.1,(g b hb).2.2.2.2.1,(g b hb).2.2.2.2.2⟩
 .rw [qi (h b o e)];show a.free b o e n l
 .have q:=a.tups b xs e;rw[qi (qD q f)];show q
 .have q:=a.frzs b o u e;rw[qi (qD q f)];show q
 .obtain⟨d,q⟩:=a.tbls b ps e;show⟨d,by rw[qi (qD q f)];show q⟩
 .by_cases hb:b=D
  .subst hb;rw[qb] at e;cases e;show⟨m,its,n,hv,r⟩
  .rw [qi hb] at e;show(J.hok b u e).stay (λc v _ q=>q) (λc q=>by rw[qi (qD q f)];show q) λc xs q=>by rw[qi (qD q f)];show q
end
def qhq:TT:=λ_ H Q=>Q true H
def qfE(wi:TI)(g:TG)(tc:TT)(te:TE)(nl:Nat)(ixs:LN):TE:=fun σ H Q=>wi σ H λJ e =>
 ∃ W:Nat->Nat->List V->Hp->Prop,(∃ m,W 0 m [] e)/\∀ i m ys H,W i m ys H ->
  (J.stop i H/\ys.length<=sizeLine/\∀ p,H p=none->Q (.ref p) (upd H p (.lst ys))) \/
  (J.go i H/\∃ M:List V->Hp->Prop,(∀ ys' H',M ys' H'->∃ d,d<m/\W (i+1) d ys' H')/\∀ x H',J.yld i H x H'->g x (qeI nl ixs σ) H' λa f=>tc a f λb c =>
   if b=true then te a c λv h=>ys.length<sizeLine/\M (ys++[v]) h else M ys c)
def qeW(nl:Nat)(g:TG):Prop:=∀ x σ H Q,g x σ H Q->g x σ H λa b=>Q a b/\a.length=σ.length/\∀ i,nl<=i->a[i]?=σ[i]?
theorem qF{i:Nat}(h:i<nl:=by decide):qeW nl (qdo i):=λx σ H Q q=>⟨q,XS ..,λj a=>Xx (by lk)⟩
def qgo(X:Cx)(ifs:List Expr)(tc:TT):Prop:=
 ∀(pins:List (Addr×Obj)) (s:Shared) (σ:St) (H:Hp) (Q:Bool->Hp->Prop),Inv X pins σ H s->tc σ H Q ->
  wpAny (model X.prog X.w) X.A (forIn ifs true λc r=>if r=true then do let ok <- isTrue c X.env (eval c X.env);pure (ForInStep.yield ok) else pure (ForInStep.yield r)) (TP X pins σ Q) X.xe s
theorem jW:qgo X [] qhq:=λpins s σ H Q I h=>wpAny_tests_nil ⟨H,I,h⟩
theorem qP{c:Expr}(h:PT X c tc):qgo X [c] tc:=λpins s σ H Q I q=>wpAny_tests_one (h pins s σ H Q I q)
section
variable{X:Cx}{pins:List (Addr×Obj)}{σ:St}{H:Hp}{s:Shared}
theorem qce{tn:Nat->Heap->Prop}{J:It}{Q:V->Hp->Prop}
  {RR:Value->Addr->Result->Shared->Prop} (I:Inv X pins σ H s) (hc:X.calm=true) (O:CompOk X.env.scope scope)
  (hN:N.length=nl+ixs.length) (ah:∀(k j:Nat) (x:Str),ixs[k]?=some j->N[nl+k]?=some x->X.N[j]?=some x/\(x,NameKind.free)∈scope.names)
  (T:Turn X.prog X.w X.K tg J fp it tn) (st:tn 0 s.heap) (hf:∀ b∈fp,qdp X pins H b)
  (hg:∀ C s0 H0 ex,PG (X.comp N scope C s0 H0 ex) tg g) (gk:qeW nl g) (hi:∀ C s0 H0 ex,qgo (X.comp N scope C s0 H0 ex) ifs tc) (he:∀ C s0 H0 ex,PE (X.comp N scope C s0 H0 ex) elt te)
  (h:∃ W:Nat->Nat->List V->Hp->Prop,(∃ m,W 0 m [] H)/\∀ i m ys H,W i m ys H ->
   (J.stop i H/\ys.length<=sizeLine/\∀ p,H p=none->Q (.ref p) (upd H p (.lst ys))) \/
   (J.go i H/\∃ M:List V->Hp->Prop,(∀ ys' H',M ys' H'->∃ m',m'<m/\W (i+1) m' ys' H')/\∀ x H',J.yld i H x H'->g x (qeI nl ixs σ) H' λan a=>tc an a λb H3 =>
    if b=true then te an H3 λv H4=>ys.length<sizeLine/\M (ys++[v]) H4 else M ys H3))
  (au:∀(D C:Addr) (s':Shared) (H':Hp) (P:St) (ys:List V) (its:List Value) (n:Nat),s.heap.objs.size<=C->s.heap.objs.size<=D->Inv (X.comp N scope C s H fp) [(D,{ cls:=.type "list",data:=.seq its.toArray n })] P H' s'->Vals ys its->ys.length<=sizeLine ->
   (∀ p,H' p=none->Q (.ref p) (upd H' p (.lst ys)))->RR (.ref D) C (.ok .next) s') :
  wpAny (model X.prog X.w) X.A (newList []) (λacc s3=>wpAny (model X.prog X.w) X.A (newFunctionEnv scope X.env.globals (qM X.env scope.names []) [] X.env.qual none .none (some X.env)) (λS s4 =>
   codeAny (model X.prog X.w) X.A (.compStart (.ListComp elt [⟨tg,iter,ifs,0⟩] scope pos) 0 (.ref it) acc { S with scope:=relabel scope X.env }) (RR acc S.locals) s4) E s3) E s:=by
 obtain⟨W,⟨m0,w0⟩,turn⟩:=h;show xX (newEnvK ?_);dsimp only;generalize aa:s.heap.push { cls:=.type "list",dict:=none,data:=.seq ([]:List Value).toArray }=a;have Y:(pushCells (a.push { cls:=.type "dict",data:=.dict #[] }) scope.names).Ns a.objs.size λ_=>none:=(Heap.Ns.new a (.type "dict")).keeps (pushCells_keeps _ _);have B:=cellsFrom_ok scope.names (a.push { cls:=.type "dict",data:=.dict #[] }) (a.objs.size+1) [] ⟨λ_ _ hm=>(nomatch hm),List.Pairwise.nil⟩ (by rw[xu];show yh _);rw[xu] at B;have ab:∀ b o,a.get? b=some o->(pushCells (a.push { cls:=.type "dict",data:=.dict #[] }) scope.names).get? b=some o:=λb o e=>pushCells_keeps _ _ b o (yw _ e);generalize pushCells (a.push { cls:=.type "dict",data:=.dict #[] }) scope.names=h1 at Y B ab ⊢;have hC:a.objs.size=s.heap.objs.size+1:=by rw[<- aa,xu]
 have as:s.heap.objs.size≠a.objs.size:=by rw[hC];show Yl (Kd _)
 have U:s.heap.objs.size<=a.objs.size:=by rw[hC];show XY _
 have f:∀ b,b<s.heap.objs.size->b≠a.objs.size/\b≠s.heap.objs.size:=λb hb=>⟨by rw[hC];show Yl (Nat.lt_succ_of_lt hb),Yl hb⟩;have ac:∀ b o,s.heap.get? b=some o->h1.get? b=some o:=λb o e=>ab b o (aa ▸ yw _ e);have af:h1.get? s.heap.objs.size=some { cls:=.type "list",data:=.seq ([]:List Value).toArray }:=ab _ _ (aa ▸ Ye _ rfl)
 have t:∀ b∈fp,b<s.heap.objs.size:=λb hb=>by
  obtain⟨o,ho,_⟩:=T.obj 0 _ st b hb;show yU ho
 have Z:∀ s3:Shared,s3={ s with heap:=h1 } ->
   codeAny (model X.prog X.w) X.A (.compLoop (.ListComp elt [⟨tg,iter,ifs,0⟩] scope pos) 0 (.ref it) (.ref s.heap.objs.size) (compEnvC scope (cellsFrom (a.objs.size+1) scope.names (qM X.env scope.names [])) a.objs.size X.env)) (RR (.ref s.heap.objs.size) a.objs.size) s3:=by
  rintro s3 rfl;have I0:=I.comp (N:=N) (C:=a.objs.size) (D:=s.heap.objs.size) (h1:=h1) (tk:=s.toks) O hN ah hf t U (yh _) as Y ac af (λv z=>by cases z) B
  have l:∀{H':Hp} {P:St} {s':Shared} {pl:List (Addr×Obj)},Inv (X.comp N scope a.objs.size s H fp) pl P H' s'->(∀ p∈pl,p.1=s.heap.objs.size)->(∀ b∈fp,H' b=none)->∀ b∈fp,qdp (X.comp N scope a.objs.size s H fp) pl H' b:=λ{H' P s' pl} J aw hn b hb =>
   ⟨hn b hb,(f b (t b hb)).1,λz=>(by
     rcases yv.mp (I.stkSub b z) with e | e
     .show(hf b hb).2.1 e
     .show(hf b hb).2.2.1 e),.inl hb,J.ok.exf b hb |>.2,λp G z=>by
    have e:=aw p (by simpa using G);rw[e] at z;show(f b (t b hb)).2 z.symm⟩
  show compLoop_own (λk s'=>∃ i H' ys its n,Inv (X.comp N scope a.objs.size s H fp) [(s.heap.objs.size,{ cls:=.type "list",data:=.seq its.toArray n })] (qeI nl ixs σ) H' s'/\tn i s'.heap/\(∀ b∈fp,H' b=none)/\Vals ys its/\W i k ys H') ?_ m0
   ⟨0,H,[],[],0,I0,T.keep _ _ _ st λb _ o e=>ac b o e,λb hb=>(hf b hb).1,.nil,w0⟩
  rintro k s' ⟨i,H',ys,its,n,J1,al,ae,v1,w1⟩
  have one:∀ p∈[((s.heap.objs.size,{ cls:=.type "list",data:=.seq its.toArray n }):Addr×Obj)],p.1=s.heap.objs.size:=λp G=>by
   have e:p=_:=yC.mp G;rw[e]
  rcases turn i k ys H' w1 with⟨am,hz,q⟩ | ⟨go,M,hM,step⟩
  .show thn (T.done (X.comp N scope a.objs.size s H fp) rfl rfl rfl hc i _ s' _ H' _ J1 (l J1 one ae) al am) λr s4 ⟨hr,J4⟩=>?_;subst hr;show au _ _ s4 H' _ ys its n U (yh _) J4 v1 hz q
  .show thn (T.item (X.comp N scope a.objs.size s H fp) rfl rfl rfl hc i _ s' _ H' _ J1 (l J1 one ae) al go) λr s4 ⟨u,hr,h4⟩=>?_;subst hr;show thn h4 λ_ s5 ⟨x,H5,J5,r5,y5,ad,ap⟩=>?_;have ao:=J5.pinned (l J5 one ap) (T.obj _ _ ad);show thn (hg _ _ _ _ _ s5 _ H5 x u _ ao r5 (gk _ _ _ _ (step x H5 y5))) λ_ s6 ⟨R,H6,J6,q6,l6,k6⟩=>?_;show thn (hi _ _ _ _ _ s6 R H6 _ J6 q6) λok s7 ⟨H7,J7,q7⟩=>?_;have again:∀{L:Shared} {H8:Hp} {ys':List V} {k':Nat},Inv (X.comp N scope a.objs.size s H fp) ([((s.heap.objs.size,{ cls:=.type "list",data:=.seq its.toArray n }):Addr×Obj)]++qcR fp s5.heap) R H8 L ->
     (∀ b o,b≠s.heap.objs.size->L.heap.get? b=some o->L.heap.get? b=some o)->tn (i+1) L.heap/\∀ b∈fp,H8 b=none:=λ{L H8 ys' k'} J8 _=>by
    show⟨T.keep _ _ _ ad λb hb o e=>(J8.pin (b,o) (yR _ (yR _ (qam hb e)))).1,λb hb=>?_⟩;obtain⟨o,e,d⟩:=T.obj _ _ ad b hb;show(J8.pin (b,o) (yR _ (yR _ (qam hb e)))).2.1
   have wk:∀(j:Nat) v,(qeI nl ixs σ)[j]?=some (some v)->R[j]?=some (some v):=λj v e=>by
    obtain⟨hj,_⟩:=qdZ e;rw[k6 j hj];show e
   cases ok with
   | false =>
    rw[yD Yn] at q7 ⊢;obtain⟨m',hm,w7⟩:=hM _ _ q7;obtain⟨ay,aq⟩:=again (ys':=ys) (k':=0) J7 (λ_ _ _ e=>e);show⟨m',hm,i+1,H7,ys,its,n,J7.unpinned.weak l6.symm wk,ay,aq,v1,w7⟩
   | true =>
    rw[yH rfl] at q7 ⊢;show thn (he _ _ _ _ _ s7 R H7 _ J7 q7) λy L ⟨v,H8,J8,r8,ba,mq⟩=>?_;obtain⟨m',hm,w8⟩:=hM _ _ mq;obtain⟨az,ar⟩:=again (ys':=ys) (k':=0) J8 (λ_ _ _ e=>e);have J9:=J8.unpinned;obtain⟨pD,nD,ak,ax,_⟩:=J9.pin (s.heap.objs.size,{ cls:=.type "list",data:=.seq its.toArray n }) (yR _ (yC.mpr rfl));show wpAny_list_append_plain (hsz:=by rw[yA,<- v1.length];lk) ⟨n,pD⟩ λh9 F aj=>?_;obtain⟨n9,F⟩:=F;have e9:(its.toArray.push y)=(its++[y]).toArray:=by simp
    rw[e9] at F
    have Ja:Inv (X.comp N scope a.objs.size s H fp) [] (qeI nl ixs σ) H8 { L with heap:=h9,toks:=L.toks }:=
     ((J9.pins_of (pins':=[]) λp G=>absurd G (by simp)).turned (it:=s.heap.objs.size) (h':=h9) (t':=L.toks) (λb o hb e=>(aj.2 b hb).trans e) nD ak (.inr (yh _))
      (λx c e z=>by
       rcases qbQ e with w | e
       .have:=(B.empty _ _ w).2;rw[z,hC] at this;show absurd (yi (XY _) this) (Nat.not_succ_le_self _)
       have:=zO e;rcases this with⟨av,hcc⟩ | hcc
       .obtain⟨c',ag⟩:=I.ok.has x (by
         rcases O.free _ av rfl with q | q
         .show .inl q
         .show .inr q)
        rw[ag] at hcc;have ai:c=c':=hcc;obtain⟨_,q⟩:=I.cell x c' ag;rw[<- ai,z] at q;show absurd q.lt (YF _)
       .cases hcc) (λp G=>absurd G (by simp))).weak l6.symm wk
    show⟨m',hm,i+1,H8,ys++[v],its++[y],n9,Ja.pins_of λp G=>?_,?_,ar,v1.append (.cons r8 .nil),w8⟩
    .have e:p=_:=yC.mp G;subst e;show⟨F,nD,ak,ax,λv z=>by cases z⟩
    .show T.keep _ _ _ az λb hb o e=>(aj.2 b (f b (t b hb)).2).trans e
 show codeAny_compStart_list (Z _ rfl) (T.self _ 0 _ _ _ (T.keep _ _ _ st λb _ o e=>ac b o e) (Z _ rfl))
end
section
variable{X:Cx}{tg elt iter:Expr}{ifs:List Expr}{scope:Scope}{pos:Pos}{N:LS}{nl:Nat}{ixs:LN}{wi:TI}{g:TG}{tc:TT}{te:TE}
theorem jh{XN:LS}(N:LS)(nl:Nat)(ixs:LN)(G:X.env.scope=sc)(y:X.N=XN)(hc:X.calm=true)(P:qc3 sc scope=true)(W:N.length=nl+ixs.length)(d:qgX nl ixs N XN scope.names=true)
  (hi:PI X tg iter wi) (hg:∀ C t i j,PG (X.comp N scope C t i j) tg g) (R:qeW nl g) (ht:∀ C t i j,qgo (X.comp N scope C t i j) ifs tc) (Z:∀ C t i j,PE (X.comp N scope C t i j) elt te)
  (hs:∀ x,foldedSetIterable iter X.env x=pure x:=by intro _;rfl):PE X (.ListComp elt [⟨tg,iter,ifs,0⟩] scope pos) (qfE wi g tc te nl ixs):=by
 intro pins s σ H Q I h;subst G y;have O:=qdY P;have r:=qeV d;rw[eval_ListComp]
 have E:=qaP (scope:=scope) (env:=X.env) λn F=>I.ok.has n (by
  rcases O.free _ F rfl with z | z
  .show .inl z
  .show .inr z)
 show wpAny_comprehension_free (use:=none) rfl hs E O.kind O.loc (thn (hi pins s σ H _ I h) λv s1 h1=>thn h1 λaa s2 S=>?_);obtain⟨it,fp,tn,J,H2,e,f,T,L,M,Y⟩:=S;subst e;show qce (Q:=Q) (RR:=λacc C=>compPost (model X.prog X.w) X.A X.xe none (EP X pins σ Q) acc C) f hc O W r T L M hg R ht Z Y ?_;intro D C s' H' ab ys its n l U u hv hz q;obtain⟨m,F,_⟩:=id u.loc;have B:=f.compBack M l U u hv hz;obtain⟨_,nD,K,_,_⟩:=u.pin (D,{ cls:=.type "list",data:=.seq its.toArray n }) (yR _ (yC.mpr rfl));show⟨m,F,λh' sb=>⟨.ref D,_,?_,rfl,q D nD⟩⟩;show B.turned (it:=C) (h':=h') (t':=s'.toks) (λb o hb e=>(sb.2 b hb).trans e) ((qi (H:=H') (a:=D) (b:=C) (o:=.lst ys) (YI K)).trans u.free) (Xm (yj f.lt l)) (.inr (yi f.sz l)) (λx c e z=>?_) (λp hp z=>?_)
 .obtain⟨_,q⟩:=f.cell x c e;show absurd (yj q.lt (by rw[z];show l)) (YF _)
 .show absurd (yj (yU (f.pin p hp).1) (by rw[z];show l)) (YF _)
theorem j5{i:Nat}{y:Str}{r f:Pos}{XN:LS}(N:LS)(nl:Nat)(ixs:LN)(Y:X.env.scope=sc)(E:X.N=XN)(hc:X.calm=true)(O':qc3 sc scope=true)(hN:N.length=nl+ixs.length)(l:qgX nl ixs N XN scope.names=true)
  (P:X.N.Nodup) (S:X.N[i]?=some y) (hy:X.env.scope.names.lookup y=some .local)
  (hi:PI X tg iter wi) (hg:∀ C G t u,PG (X.comp N scope C G t u) tg g) (gk:qeW nl g) (ht:∀ C G t u,qgo (X.comp N scope C G t u) ifs tc) (he:∀ C G t u,PE (X.comp N scope C G t u) elt te)
  (Z:swapsWith (.ListComp elt [⟨tg,iter,ifs,0⟩] scope pos) (some (.Name y r)) f.line X.env=pure true:=by rfl)
  (hs:∀ x,foldedSetIterable iter X.env x=pure x:=by intro _;rfl):PS X (.Assign [.Name y r] (.ListComp elt [⟨tg,iter,ifs,0⟩] scope pos) f) (qgu (qfE wi g tc te nl ixs) (qdo i)):=by
 intro pins s σ H L I h;subst Y E;have O:=qdY O';have F:=qeV l
 have R:=qaP (scope:=scope) (env:=X.env) λn U=>I.ok.has n (by
  rcases O.free _ U rfl with z | z
  .show .inl z
  .show .inr z)
 rw[exec_Assign_Name_used _ _ _ _ Z];show yr (XM (yr ?_));show wpAny _ X.A (do let _ <- comprehension (.ListComp elt [⟨tg,iter,ifs,0⟩] scope pos) scope X.env _ (newList []) false (eval iter X.env) (some (assign (.Name y r) X.env))) _ _ s;show yr (YJ (wpAny_comprehension_free (use:=some (assign (.Name y r) X.env)) (Q:=λ_ s'=>SP X pins L .next s') rfl hs R O.kind O.loc
  (thn (hi pins s σ H _ I h) λv s1 h1=>thn h1 λad s2 h2=>?_)) (λ_ s' hq=>yE (yE hq)) λ_ _ e=>e)
 obtain⟨it,fp,tn,J,H2,e,d,T,ac,f2,hW⟩:=h2;subst e;show qce (Q:=λv H'=>qdo i v σ H' L.nx) (RR:=λacc C=>compPost (model X.prog X.w) X.A X.xe (some (assign (.Name y r) X.env)) (λ_ s'=>SP X pins L .next s') acc C) d hc O hN F T ac f2 hg gk ht he hW ?_;intro D C s' H' ae ys its n j hD K hv hz q;obtain⟨m,U,_⟩:=id K.loc;have B:=d.compBack f2 j hD K hv hz;obtain⟨_,nD,aa,_,_⟩:=K.pin (D,{ cls:=.type "list",data:=.seq its.toArray n }) (yR _ (yC.mpr rfl));show wpAny _ X.A (assign (.Name y r) X.env (.ref D)) _ _ _;show wpAny_assign_Name (qcO (i:=i) (x:=y) (v:=.ref D) B P S (.inl hy) rfl (λab B' W=>?_) (.inr hy));obtain⟨a,sa,ha⟩:=W
 have M:C≠a:=by
  rintro rfl;rcases ha with z | z
  .show absurd (show X.env.locals<C from yj d.lt j) (by rw[z];show YF _)
  .obtain⟨_,q⟩:=d.cell y C z;show absurd (yj q.lt j) (YF _)
 show⟨m,U.sameBut sa M,λh' sb=>⟨_,_,?_,q D nD⟩⟩;show B'.turned (it:=C) (h':=h') (t':=ab.toks) (λb o hb e=>(sb.2 b hb).trans e) ((qi (H:=H') (a:=D) (b:=C) (o:=.lst ys) (YI aa)).trans K.free) (Xm (yj d.lt j)) (.inr (yi d.sz j)) (λx c e z=>?_) (λp hp z=>?_)
 .obtain⟨_,q⟩:=d.cell x c e;show absurd (yj q.lt (by rw[z];show j)) (YF _)
 .show absurd (yj (yU (d.pin p hp).1) (by rw[z];show j)) (YF _)
end
def Its(x:Str):It:=⟨λi _=>i<x.cps.size,λi H v H'=>H'=H/\∃ c,x.cps[i]?=some c/\v=.str ⟨#[c]⟩,λi _=>i=x.cps.size⟩
theorem qd0{K:yg}{t:Tok}(W:∀ A:Around,A.handled=none->Walks P w A it [it] [it] x.cps.size (SignAt x) λi h=>h.IsStrIter it T x t i)
  (J:∀(A:Around) (i:Nat) (s:Shared) (Q:Value->Shared->Prop) (E:Value->Shared->Prop),s.heap.IsStrIter it T x t i->Q (.ref it) s->wpAny (model P w) A (pyIter (.ref it)) Q E s)
  (B:∀ v,letOwnedTupleGo tg (.ref it) v=pure ()):Turn P w K tg (Its x) [it] it (λi h=>h.IsStrIter it T x t i) where
 mem:=by simp
 obj:=λi h st b hb=>by
  have e:b=it:=by simpa using hb
  subst e;obtain⟨o,e,c,d⟩:=st;show⟨o,e,λv z=>by rw[d] at z;cases z⟩
 keep:=λi h h' st k=>by
  obtain⟨o,e,r⟩:=st;show⟨o,k it (by simp) o e,r⟩
 item:=by
  intro X p hw n hc i pins s σ H E I a st y;subst p hw n;obtain⟨f,g,G,j,l,m⟩:=a it (by simp);show(W X.A (I.ok.hd hc)).item i s _ _ y st λv h' tk hv D C=>?_;obtain⟨c,u,q,rfl⟩:=hv;have F:Inv X pins σ H { s with heap:=h',toks:=tk }:=I.turned (λb o hb e=>C b o (by simpa using hb) e) f g j l m;show⟨_,rfl,xm (B _) ⟨.str ⟨#[c]⟩,H,F,⟨u,rfl⟩,⟨rfl,c,q,rfl⟩,D,λb hb=>(a b hb).1⟩⟩
 done:=by
  intro X p hw n hc i pins s σ H E I a st y;subst p hw n;obtain⟨f,g,G,j,l,m⟩:=a it (by simp);have e:i=x.cps.size:=y;subst e;show(W X.A (I.ok.hd hc)).done s _ _ st λh' tk C=>⟨rfl,I.turned (λb o hb e=>C b o (by simpa using hb) e) f g j l m⟩
 self:=J
section
variable{X:Cx}{tg:Expr}
end
section
variable{K:yg}{a:Addr}{xs:List V}{g:TG}{tc:TT}{te:TE}{σ':St}{H1:Hp}{Q:V->Hp->Prop}
def qfF(J:It)(g:TG)(tc:TT)(te:TE)(σ':St)(H1:Hp)(Q:V->Hp->Prop):Prop:=
 ∃ W:Nat->Nat->List V->Hp->Prop,(∃ m,W 0 m [] H1)/\∀ i m ys H,W i m ys H ->
   (J.stop i H/\ys.length<=sizeLine/\∀ p,H p=none->Q (.ref p) (upd H p (.lst ys))) \/
   (J.go i H/\∃ M:List V->Hp->Prop,(∀ ys' H',M ys' H'->∃ d,d<m/\W (i+1) d ys' H')/\∀ x H',J.yld i H x H'->g x σ' H' λa e=>tc a e λb c =>
    if b=true then te a c λv f=>ys.length<sizeLine/\M (ys++[v]) f else M ys c)
theorem qJ(c:Nat->List V->Hp->Prop)(n:c 0 [] H1)(hl:∀ i ys H,i<=xs.length->c i ys H->SqL K H a xs)
  (s:∀ i x ys H,xs[i]?=some x->c i ys H->g x σ' H λf j=>tc f j λb h=>if b=true then te f h λv l=>ys.length<sizeLine/\c (i+1) (ys++[v]) l else c (i+1) ys h)
  (o:∀ ys H,c xs.length ys H->ys.length<=sizeLine/\∀ p,H p=none->Q (.ref p) (upd H p (.lst ys))):qfF (Itl K a) g tc te σ' H1 Q:=by
 show⟨λi m ys H=>m=xs.length-i/\i<=xs.length/\c i ys H,⟨xs.length,by simp,Yx _,n⟩,?_⟩;rintro i m ys H ⟨rfl,r,p⟩;have q:=hl i ys H r p;by_cases d:i<xs.length
 .show .inr ⟨⟨xs,xs[i],q,by simp[d]⟩,c (i+1),λys' H' t=>⟨xs.length-(i+1),by lk,rfl,d,t⟩,λx H' y=>?_⟩;obtain⟨e,y⟩:=y;subst e;show s i x ys _ (y xs q) p
 .have e:i=xs.length:=by lk
  subst e;show .inl ⟨⟨xs,q,yh _⟩,o ys H p⟩
theorem jG{lo:Int}(a:Nat->List V->Hp->Prop)(l:a 0 [] H1)
  (q:∀ i ys H,i<n->a i ys H->g (.int (lo+i)) σ' H λd h=>tc d h λb f=>if b=true then te d f λv j=>ys.length<sizeLine/\a (i+1) (ys++[v]) j else a (i+1) ys f)
  (o:∀ ys H,a n ys H->ys.length<=sizeLine/\∀ p,H p=none->Q (.ref p) (upd H p (.lst ys))):qfF (Itr lo n) g tc te σ' H1 Q:=by
 show⟨λi m ys H=>m=n-i/\i<=n/\a i ys H,⟨n,by simp,Yx _,l⟩,?_⟩;rintro i m ys H ⟨rfl,s,p⟩;by_cases c:i<n
 .show .inr ⟨c,a (i+1),λys' H' r=>⟨n-(i+1),by lk,rfl,c,r⟩,λx H' y=>?_⟩;obtain⟨e,y⟩:=y;subst e y;show q i ys _ c p
 .have e:i=n:=by lk
  subst e;show .inl ⟨yh _,o ys H p⟩
theorem qd1(a:Nat->List V->Hp->Prop)(n:a 0 [] H1)
  (q:∀ i c ys H,x.cps[i]?=some c->a i ys H->g (.str ⟨#[c]⟩) σ' H λf j=>tc f j λb h=>if b=true then te f h λv l=>ys.length<sizeLine/\a (i+1) (ys++[v]) l else a (i+1) ys h)
  (o:∀ ys H,a x.cps.size ys H->ys.length<=sizeLine/\∀ p,H p=none->Q (.ref p) (upd H p (.lst ys))):qfF (Its x) g tc te σ' H1 Q:=by
 show⟨λi m ys H=>m=x.cps.size-i/\i<=x.cps.size/\a i ys H,⟨x.cps.size,by simp,Yx _,n⟩,?_⟩;rintro i m ys H ⟨rfl,s,p⟩;by_cases d:i<x.cps.size
 .show .inr ⟨d,a (i+1),λys' H' r=>⟨x.cps.size-(i+1),by lk,rfl,d,r⟩,λv H' y=>?_⟩;obtain⟨e,c,hc,y⟩:=y;subst e y;show q i c ys _ hc p
 .have e:i=x.cps.size:=by lk
  subst e;show .inl ⟨rfl,o ys H p⟩
end
def qc4:V->Option Value
 | .ty n=>some (.type n)
 | .ref a=>some (.ref a)
 | _=>none
theorem qcf{c:Value}(h:qc4 y=some c)(r:RelV y u):u=c:=by
 cases y with
 | ty n=>cases h;show r
 | ref a=>cases h;show r
 | _=>cases h
section
variable{X:Cx}{pins:List (Addr×Obj)}{σ:St}{H:Hp}{s:Shared}
theorem TyOf.kit{x:V}(I:Inv X pins σ H s)(b:RelV x u)(ty:TyOf X.K H x t):∃ P:Heap->Prop,PySem.W.KitX X.K u t P/\P s.heap/\u≠.builtin "__main__.__loader__#opaque":=by
 cases ty with
 | non=>cases (show u=Value.none from b);show⟨_,PySem.W.kitx_none,YR,(λz=>nomatch z)⟩
 | bl y=>cases (show u=Value.bool y from b);show⟨_,PySem.W.kitx_bool,YR,(λz=>nomatch z)⟩
 | int i=>obtain⟨t,q⟩:=(show ∃ t,u=Value.int i t from b);cases q;show⟨_,PySem.W.kitx_int,YR,(λz=>nomatch z)⟩
 | str y=>obtain⟨t,q⟩:=(show ∃ t,u=Value.str y t from b);cases q;show⟨_,PySem.W.kitx_str,YR,(λz=>nomatch z)⟩
 | flt y=>obtain⟨t,q⟩:=(show ∃ t,u=Value.float y t from b);cases q;show⟨_,PySem.W.kitx_float,YR,(λz=>nomatch z)⟩
 | @lst a xs ea =>
  cases (show u=Value.ref a from b);obtain⟨_,_,n,_,h1⟩:=(show ObjOk X.prog X.w H s.heap a (.lst xs) from I.hok a _ ea);show⟨_,PySem.W.kitx_list,⟨_,h1,rfl⟩,(λz=>nomatch z)⟩
 | @frz a ob xs ea =>
  cases (show u=Value.ref a from b);obtain⟨_,_,_,n,_,h1⟩:=(show ObjOk X.prog X.w H s.heap a (.frz ob (.lst xs)) from I.hok a _ ea);show⟨_,PySem.W.kitx_list,⟨_,h1,rfl⟩,(λz=>nomatch z)⟩
 | @tup a xs ea =>
  cases (show u=Value.ref a from b);obtain⟨_,_,_,p⟩:=(show ObjOk X.prog X.w H s.heap a (.tup xs) from I.hok a _ ea);obtain⟨o,h1,c,_⟩:=p;show⟨_,PySem.W.kitx_tuple,⟨o,h1,c⟩,(λz=>nomatch z)⟩
 | @dK a kvs ea =>
  cases (show u=Value.ref a from b);obtain⟨_,_,vs,_,p⟩:=(show ObjOk X.prog X.w H s.heap a (.dK kvs) from I.hok a _ ea);obtain⟨o,d,ep,h1,c,_⟩:=p;show⟨_,PySem.W.kitx_dict,⟨o,h1,c.1⟩,(λz=>nomatch z)⟩
 | @dT a kvs ea =>
  cases (show u=Value.ref a from b);obtain⟨_,_,xs,_,o,d,ep,h1,c,_⟩:=(show ObjOk X.prog X.w H s.heap a (.dT kvs) from I.hok a _ ea);show⟨_,PySem.W.kitx_dict,⟨o,h1,c.1⟩,(λz=>nomatch z)⟩
 | @ins a C dx fs ea cl ha hn htk hm =>
  cases (show u=Value.ref a from b);obtain⟨e,O,_⟩:=qbc I.hok ea;obtain⟨od,J,_⟩:=O.look;show⟨_,PySem.W.kitx_own (cl.get _) cl.hd ha hn htk hm,J,(λz=>nomatch z)⟩
end
section
variable{X:Cx}
theorem qbR:∀{ys:List V} {a us:List Value},ys.map qc4=a.map some->Vals ys us->us=a
 | [],[],_,_,.nil=>rfl
 | [],_::_,_,h,_=>by cases h
 | y::ys,[],_,h,_=>by cases h
 | y::ys,c::a,_,h,.cons r t=>by
  rw[YG,YG] at h
  injection h with h1 h2
  rw[qcf h1 r,qbR h2 t]
theorem qd2:∀{bs:List Bool} {us:List Value},Vals (bs.map V.bl) us->us=bs.map Value.bool
 | [],_,.nil=>rfl
 | b::bs,_,.cons r t=>by
  have e:=qd2 t;rw[e];cases r;rfl
def qhr(K:yg):List V->Hp->VK->Prop:=λxs H Q=>∃(p:Addr) (bs:List Bool),xs=[.ref p]/\SqL K H p (bs.map V.bl)/\Q (.bl (bs.all id)) H
theorem call_all(hc:X.calm=true):zL X (.builtin "all") (qhr X.K):=by
 intro pins s σ H xs us Q I r h;obtain⟨p,bs,rfl,t,q⟩:=h;obtain⟨u,rfl,x⟩:=qbn r;cases x;obtain⟨its,y,pl,z⟩:=I.list t;have e:=qd2 y;subst e;have l:X.A.in1.handled=none:=I.ok.hd hc;show call_all_walk (kU pl.isList ?_)
 have f:p≠s.heap.objs.size:=by
  obtain⟨o,n,_⟩:=pl.isList;show Yl (yU n)
 show⟨s.heap.objs.size,_,_,_,_,_,λi=>(bs[i]?).getD false,rfl,Walks.list l s.heap.objs.size p f (bs.map Value.bool).toArray,⟨⟨_,Ye _ rfl,rfl,rfl⟩,pl.isList.at λo e=>yw _ e⟩,λi v s Q E hv w=>?_,λh' tk m=>?_⟩
 .have a:(bs.map Value.bool)[i]?=some v:=by simpa using hv
  rw[yd] at a
  cases e:bs[i]? with
  | none=>rw[e] at a;cases a
  | some b =>
   rw[e] at a;cases a;have c:Q ((bs[i]?).getD false) s:=w;rw[e] at c;show yE c
 .have e:((List.range (bs.map Value.bool).toArray.size).all λi=>(bs[i]?).getD false)=bs.all id:=by
   rw[yA,ya]
   have g:∀ bs:List Bool,((List.range bs.length).all λi=>(bs[i]?).getD false)=bs.all id:=by
    intro bs
    induction bs with
    | nil=>rfl
    | cons b r ih =>
     rw[yx,List.range_succ_eq_map,ky,kM,ky,<- ih];rfl
   show g bs
  rw[e];show⟨.bl _,H,?_,rfl,q⟩;have j:Inv X pins σ H { s with heap:=s.heap.push { cls:=.type "list_iterator",data:=.fields #[.ref p,.int 0 0] } }:=I.kept (t':=s.toks) λb o e=>yw _ e;have d:=I.fpOk (b:=s.heap.objs.size) (yh _) (I.hok.fresh (yh _));show j.turned (it:=s.heap.objs.size) (h':=h') (t':=tk) (λb o hb e=>m b o (by simpa using hb) e) d.1 d.2.1 d.2.2.2.1 d.2.2.2.2.1 d.2.2.2.2.2
theorem op_le_str:OpR X (compareOp .LtE) (λx y H Q=>∃ i j,x=.str i/\y=.str j/\Q (.bl (!decide (j.cps.toList<i.cps.toList))) H):=by
 intro pins s σ H x y v u Q I a b h;obtain⟨i,j,rfl,rfl,q⟩:=h;obtain⟨t,rfl⟩:=a;obtain⟨t',rfl⟩:=b;show PySem.P.le_str (qeL I q (by rfl))
def qg8:R2:=λx y H Q=>match x,y with
 | .int i,.int j=>Q (.bl (decide (i<=j))) H
 | .str i,.str j=>Q (.bl (!decide (j.cps.toList<i.cps.toList))) H
 | _,_=>False
theorem qfS:OpR X (compareOp .LtE) qg8:=by
 intro pins s σ H x y v u Q I a b h
 cases x with
 | int i=>cases y with
  | int j=>show op_le pins s σ H _ _ v u Q I a b ⟨i,j,rfl,rfl,h⟩
  | _=>show False.elim h
 | str i=>cases y with
  | str j=>show op_le_str pins s σ H _ _ v u Q I a b ⟨i,j,rfl,rfl,h⟩
  | _=>show False.elim h
 | _=>show False.elim h
theorem op_is_bl:OpR X (compareOp .Is) (λx y H Q=>∃ i j,x=.bl i/\y=.bl j/\Q (.bl (i==j)) H):=by
 intro pins s σ H x y v u Q I a b h;obtain⟨i,j,rfl,rfl,q⟩:=h;cases a;cases b;show wpAny_is_plain (by cases i<;>cases j<;>rfl) (qeL I q (by cases i<;>cases j<;>rfl))
def qg9:R2:=λx y H Q=>match x,y with
 | .bl i,.bl j=>Q (.bl (i==j)) H
 | x,.non=>Q (.bl (decide (x=.non))) H
 | _,_=>False
theorem u_is:OpR X (compareOp .Is) qg9:=by
 intro pins s σ H x y v u Q I a b h
 cases y with
 | non=>show op_isN pins s σ H x _ v u Q I a b ⟨rfl,by cases x<;>show h⟩
 | bl j=>cases x with
  | bl i=>show op_is_bl pins s σ H _ _ v u Q I a b ⟨i,j,rfl,rfl,h⟩
  | _=>show False.elim h
 | _=>cases x<;>show False.elim h
theorem op_rep_str:OpR X (binaryOp .Mult) (λx y H Q=>∃ z k,x=.str z/\y=.int k/\MulOk z k/\Q (.str (Txt.mul z k)) H):=by
 intro pins s σ H x y v u Q I b c h;obtain⟨z,k,rfl,rfl,a,q⟩:=h;obtain⟨t,rfl⟩:=b;obtain⟨t',rfl⟩:=c;show SB.mul a λt' k'=>⟨.str _,H,I.tok _,⟨_,rfl⟩,q⟩
def qgC:R2:=λx y H Q=>match x,y with
 | .int i,.int j=>CMul i j/\Q (.int (i*j)) H
 | .str z,.int k=>MulOk z k/\Q (.str (Txt.mul z k)) H
 | .ref a,.int k=>rRep (.ref a) (.int k) H Q
 | _,_=>False
theorem qbo:OpR X (binaryOp .Mult) qgC:=by
 intro pins s σ H x y v u Q I b c h
 cases y with
 | int j=>cases x with
  | int i=>show op_mul pins s σ H _ _ v u Q I b c ⟨i,j,rfl,rfl,h.1,h.2⟩
  | str i=>show op_rep_str pins s σ H _ _ v u Q I b c ⟨i,j,rfl,rfl,h.1,h.2⟩
  | ref a=>show qdW pins s σ H _ _ v u Q I b c h
  | _=>show False.elim h
 | _=>cases x<;>show False.elim h
def qeC(K:yg):R2:=λx y H Q=>match x,y with
 | .int i,.int j=>Q (.int (i+j)) H
 | .str i,.str j=>i.length+j.length<=sizeLine/\Q (.str (i++j)) H
 | .ref a,.ref b=>rCat (.ref a) (.ref b) H Q\/rCatT K (.ref a) (.ref b) H Q
 | _,_=>False
theorem u_add:OpR X (binaryOp .Add) (qeC X.K):=by
 intro pins s σ H x y v u Q I c d h
 cases x with
 | int i=>cases y with
  | int j=>show op_add pins s σ H _ _ v u Q I c d ⟨i,j,rfl,rfl,h⟩
  | _=>show False.elim h
 | str i=>cases y with
  | str j=>show op_add_str pins s σ H _ _ v u Q I c d ⟨i,j,rfl,rfl,h.1,h.2⟩
  | _=>show False.elim h
 | ref a=>cases y with
  | ref b=>show h.elim (λh=>op_cat pins s σ H _ _ v u Q I c d h) λh=>op_catT pins s σ H _ _ v u Q I c d h
  | _=>show False.elim h
 | _=>show False.elim h
def qeD(K:yg):List V->Hp->VK->Prop:=λxs H Q=>match xs with
 | [.str z]=>z.length<=sizeLine/\Q (.int z.length) H
 | [.ref p]=>(∃ ys,(SqL K H p ys\/SqT K H p ys)/\Q (.int ys.length) H)\/∃ kvs,H p=some (.dK kvs)/\Q (.int kvs.length) H
 | _=>False
theorem call_lenU:zL X (.builtin "len") (qeD X.K):=by
 intro pins s σ H xs us Q I r h
 match xs,h with
 | [.str z],h=>show call_len_str pins s σ H _ us Q I r ⟨z,rfl,h.1,h.2⟩
 | [.ref p],.inl ⟨ys,h,q⟩=>show call_len_seq pins s σ H _ us Q I r ⟨p,ys,rfl,h,q⟩
 | [.ref p],.inr ⟨kvs,h,q⟩=>show call_lenD pins s σ H _ us Q I r ⟨p,kvs,rfl,h,q⟩
theorem sl_str:SlR X (λx lo c H Q=>∃ z,x=.str z/\z.length<=sizeLine/\Q (.str (Txt.slice z lo c)) H):=by
 intro pins s σ H x v g m lo c f Q I e a pl d h;obtain⟨z,rfl,b,q⟩:=h;obtain⟨t,rfl⟩:=e;show⟨"str",_,F.slot_str_getitem.lookup,typeIs_str _ _ _,?_⟩
 cases pl with
 | none =>
  cases d with
  | none=>show Xi (l:=none) (u:=none) (st:=none) a rfl (kG ⟨yi (Ko z _ _) b,λt' k=>⟨.str _,H,I.tok _,⟨_,rfl⟩,q⟩⟩)
  | int j uj=>show Xi (l:=none) (u:=some (j,uj)) (st:=none) a rfl (kG ⟨yi (Ko z _ _) b,λt' k=>⟨.str _,H,I.tok _,⟨_,rfl⟩,q⟩⟩)
 | int i ui =>
  cases d with
  | none=>show Xi (l:=some (i,ui)) (u:=none) (st:=none) a rfl (kG ⟨yi (Ko z _ _) b,λt' k=>⟨.str _,H,I.tok _,⟨_,rfl⟩,q⟩⟩)
  | int j uj=>show Xi (l:=some (i,ui)) (u:=some (j,uj)) (st:=none) a rfl (kG ⟨yi (Ko z _ _) b,λt' k=>⟨.str _,H,I.tok _,⟨_,rfl⟩,q⟩⟩)
def qha(K:yg):V->Option Int->Option Int->Hp->VK->Prop:=λx lo b H Q=>match x with
 | .str z=>z.length<=sizeLine/\Q (.str (Txt.slice z lo b)) H
 | .ref a=>rSlL K (.ref a) lo b H Q\/rSlT K (.ref a) lo b H Q
 | _=>False
theorem u_sl:SlR X (qha X.K):=by
 intro pins s σ H x v g i lo b f Q I e c pl d h
 cases x with
 | str z=>show sl_str pins s σ H _ v g i lo b f Q I e c pl d ⟨z,rfl,h.1,h.2⟩
 | ref a=>show h.elim (λh=>sl_list pins s σ H _ v g i lo b f Q I e c pl d h) λh=>sl_tup pins s σ H _ v g i lo b f Q I e c pl d h
 | _=>show False.elim h
theorem qeX:∀{ys:LS} {us:List Value},Vals (ys.map V.str) us->StrsAre us ys
 | [],_,.nil=>.nil
 | y::ys,_,.cons r t=>by
  obtain⟨tk,rfl⟩:=r;show .cons y tk (qeX t)
def qgD(K:yg):V->List V->Hp->VK->Prop:=λx vs H Q=>∃(z:Str) (p:Addr) (ys:LS),x=.str z/\vs=[.ref p]/\SqL K H p (ys.map V.str)/\(ys.map (·.length)).sum+ys.length*z.length<=16777216/\Q (.str (Txt.join z ys)) H
theorem mt_join:MtR X "str.join" (qgD X.K):=by
 intro pins s σ H x vs v us Q I e d h;obtain⟨z,p,ys,rfl,rfl,a,b,q⟩:=h;obtain⟨t,rfl⟩:=e;obtain⟨u,rfl,c⟩:=d.one;cases c;obtain⟨its,r,pl,_⟩:=I.list a;show join_list pl.isList (by simpa using qeX r) b λt' k=>⟨.str _,H,I.tok _,⟨_,rfl⟩,q⟩
def qhb(K:yg)(te:TE):TI:=fun σ H R=>te σ H λv b=>match v with
 | .str x=>R (Its x) b
 | .ref a=>((∃ xs,SqL K b a xs)/\R (Itl K a) b)\/((∃ xs,SqT K b a xs)/\R (Itt K a) b)
 | _=>False
theorem pi_any{e:Expr}(u:PE X e te)(g:∀ it v,letOwnedTupleGo tg it v=pure ():=by intro _ _;rfl):PI X tg e (qhb X.K te):=by
 intro pins s σ H R I h;show thn (u pins s σ H _ I h) λv c ⟨y,f,d,r,j⟩=>?_
 cases y with
 | str x =>
  obtain⟨t,rfl⟩:=r
  have fp:∀ b∈[c.heap.objs.size],qdp X pins f b:=λb hb=>by
   have e:b=c.heap.objs.size:=by simpa using hb
   subst e;show d.fpOk (yh _) (d.hok.fresh (yh _))
  cases n:x.cps.all (· < 128)
  .show wpAny_pyIter_wide n ⟨c.heap.objs.size,[c.heap.objs.size],_,_,f,rfl,d.kept (t':=c.toks) λb o e=>yw _ e,
    qd0 (T:="str_iterator") (λA l=>Walks.strWide l _ x t) (λA i s Q E st h=>wpAny_pyIter_striter_wide st h) (g _),⟨_,Ye _ rfl,rfl,rfl⟩,fp,j⟩
  .show wpAny_pyIter_ascii n ⟨c.heap.objs.size,[c.heap.objs.size],_,_,f,rfl,d.kept (t':=c.toks) λb o e=>yw _ e,
    qd0 (T:="str_ascii_iterator") (λA l=>Walks.strAscii l _ x t) (λA i s Q E st h=>wpAny_pyIter_striter_ascii st h) (g _),⟨_,Ye _ rfl,rfl,rfl⟩,fp,j⟩
 | ref a =>
  cases r
  have fp:∀ b∈[c.heap.objs.size],qdp X pins f b:=λb hb=>by
   have e:b=c.heap.objs.size:=by simpa using hb
   subst e;show d.fpOk (yh _) (d.hok.fresh (yh _))
  rcases j with⟨⟨xs,m⟩,q⟩ | ⟨⟨xs,m⟩,q⟩
  .obtain⟨its,z,p,w⟩:=d.list m;show kU p.isList ⟨c.heap.objs.size,[c.heap.objs.size],_,_,f,rfl,d.kept (t':=c.toks) λb o e=>yw _ e,qcQ a _,⟨_,Ye _ rfl,rfl,rfl⟩,fp,q⟩
  .obtain⟨its,z,p,w⟩:=d.tuple m;show wpAny_pyIter_tuple (show c.heap.IsTuple a its.toArray from p) ⟨c.heap.objs.size,[c.heap.objs.size],_,_,f,rfl,d.kept (t':=c.toks) λb o e=>yw _ e,turn_tuple a _,⟨_,Ye _ rfl,rfl,rfl⟩,fp,q⟩
 | _=>show False.elim j
end
section
variable{D:Ends}{σ:St}{H:Hp}{Q:VK}{QT:Bool->Hp->Prop}{QA:List V->Hp->Prop}{t u:TS}{te ta tb tc:TE}{c c':TT}{tr tas:TA}{r r':R2}{K:yg}
theorem vSeq(h:t { D with nx:=u D } σ H):qhi t u D σ H:=h
theorem vAsg{i:Nat}(h:te σ H λx a=>D.nx (σ.set i (some x)) a):qgu te (qdo i) D σ H:=h
theorem vAsgS{to a:TE}{s:qgt}(h:te σ H λx b=>to σ b λo c=>a σ c λi d=>s o i x d λe=>D.nx σ e):qgu te (qhl to a s) D σ H:=h
theorem vIfS(h:c σ H λb a=>if b=true then t D σ a else u D σ a):qhk c t u D σ H:=h
theorem vRet(h:te σ H D.rt):qhj te D σ H:=h
theorem vRetN(h:D.rt .non H):tRetN D σ H:=h
theorem vDrop(h:te σ H λ_ a=>D.nx σ a):qgs te D σ H:=h
theorem vNext(h:D.nx σ H):qgr D σ H:=h
theorem vC(h:Q v H):tC v σ H Q:=h
theorem vVar{i:Nat}(e:σ[i]?=some (some v))(h:Q v H):qg1 i σ H Q:=⟨v,e,h⟩
theorem vOp(h:ta σ H λx a=>tb σ a λy b=>r x y b Q):tOp r ta tb σ H Q:=h
theorem vUn{f:V->Hp->VK->Prop}(h:ta σ H λx a=>f x a Q):tUn f ta σ H Q:=h
theorem vChain(h:ta σ H λx b=>tb σ b λy c=>r x y c λz a=>∃ k,z=.bl k/\if k=true then tc σ a λe d=>r' y e d Q else Q (.bl false) a):qeM r r' ta tb tc σ H Q:=h
theorem vNil(h:QA [] H):qgW σ H QA:=h
theorem vCons(h:ta σ H λx a=>tr σ a λxs b=>QA (x::xs) b):qgx ta tr σ H QA:=h
theorem vCB{f:List V->Hp->VK->Prop}(h:tas σ H λvs a=>f vs a Q):tCB f tas σ H Q:=h
theorem vCall{E:XK}(h:tas σ H λvs a=>sp (vs++[]) a Q E):qeN sp [] E tas σ H Q:=h
theorem vLst(h:tas σ H λxs a=>NewL xs a Q):qhp tas σ H Q:=h
theorem vTup(h:tas σ H λxs a=>NewT xs a Q):qho tas σ H Q:=h
theorem vTest(h:te σ H λx H'=>∃ k,x=.bl k/\QT k H'):qgf te σ H QT:=h
theorem vB(h:te σ H λx H'=>∃ k,x=.bl k/\QT k H'):tB te σ H QT:=h
theorem vNot(h:c σ H λb a=>QT (!b) a):qhh c σ H QT:=h
theorem vAnd(h:c σ H λb a=>if b=true then c' σ a QT else QT false a):qg2 c c' σ H QT:=h
theorem vOr(h:c σ H λb a=>if b=true then QT true a else c' σ a QT):tOr c c' σ H QT:=h
theorem vAndV(h:ta σ H λx a=>∃ k,x=.bl k/\if k=true then tb σ a Q else Q (.bl false) a):qgq ta tb σ H Q:=h
theorem vOrV(h:ta σ H λx a=>∃ k,x=.bl k/\if k=true then Q (.bl true) a else tb σ a Q):tOrV ta tb σ H Q:=h
theorem vNotV(h:ta σ H λx a=>∃ k,x=.bl k/\Q (.bl (!k)) a):tNotV ta σ H Q:=h
theorem vIf(h:c σ H λb a=>if b=true then ta σ a Q else tb σ a Q):tIf c ta tb σ H Q:=h
theorem vYes(h:QT true H):qhq σ H QT:=h
theorem vI0{g:Int->Int->V}(h:Q (g i j) H):rI0 g (.int i) (.int j) H Q:=⟨i,j,rfl,rfl,h⟩
theorem vI{C:Int->Int->Prop}{g:Int->Int->V}(hc:C i j)(h:Q (g i j) H):rI C g (.int i) (.int j) H Q:=⟨i,j,rfl,rfl,hc,h⟩
theorem vU{g:Int->V}(h:Q (g i) H):rU g (.int i) H Q:=⟨i,rfl,h⟩
theorem vEqI(h:Q (.bl (decide (i=j))) H):rEq (.int i) (.int j) H Q:=⟨rfl,by
 have e:decide (V.int i=V.int j)=decide (i=j):=by
  by_cases h:i=j
  .subst h;simp
  .rw [yl h,yl (λe=>h (V.int.inj e))]
 rw[e];show h⟩
theorem vEqB{i j:Bool}(h:Q (.bl (i==j)) H):rEq (.bl i) (.bl j) H Q:=⟨rfl,by rw[dec_bl];show h⟩
theorem zo(b:H p=some (.lst xs))(a:atI xs i=some v)(h:Q v H):rIx K (.ref p) (.int i) H Q:=.inl ⟨p,xs,i,v,rfl,rfl,SqL.of b,a,h⟩
theorem vIxLs(b:SqL K H p xs)(a:atI xs i=some v)(h:Q v H):rIx K (.ref p) (.int i) H Q:=.inl ⟨p,xs,i,v,rfl,rfl,b,a,h⟩
theorem qax(b:H p=some (.tup xs))(a:atI xs i=some v)(h:Q v H):rIx K (.ref p) (.int i) H Q:=.inr (.inl ⟨p,xs,i,v,rfl,rfl,SqT.of b,a,h⟩)
theorem qhs{ch:Nat}(b:z.length<=sizeLine)(a:atI z.cps.toList i=some ch)(h:Q (.str ⟨#[ch]⟩) H):rIx K (.str z) (.int i) H Q:=.inr (.inr ⟨z,i,ch,rfl,rfl,b,a,h⟩)
theorem qeE{k:Int}{j:Nat}{a:Hp->Prop}(c:H p=some (.lst xs))(b:ixN xs.length k=some j)(h:a (upd H p (.lst (xs.set j v)))):rSetL (.ref p) (.int k) v H a:=⟨p,xs,k,j,rfl,rfl,c,b,h⟩
theorem vEx{k:Bool}{P:Bool->Prop}(h:P k):∃ k',V.bl k=.bl k'/\P k':=⟨k,rfl,h⟩
theorem vLeI(h:Q (.bl (decide (i<=j))) H):qg8 (.int i) (.int j) H Q:=h
theorem vLeS{i j:Str}(h:Q (.bl (!decide (j.cps.toList<i.cps.toList))) H):qg8 (.str i) (.str j) H Q:=h
theorem vIsB{i j:Bool}(h:Q (.bl (i==j)) H):qg9 (.bl i) (.bl j) H Q:=h
theorem vAddI(h:Q (.int (i+j)) H):qeC K (.int i) (.int j) H Q:=h
theorem qgh{i j:Str}(a:i.length+j.length<=sizeLine)(h:Q (.str (i++j)) H):qeC K (.str i) (.str j) H Q:=⟨a,h⟩
theorem qbS(hc:CMul i j)(h:Q (.int (i*j)) H):qgC (.int i) (.int j) H Q:=⟨hc,h⟩
theorem qgE(a:z.length<=sizeLine)(h:Q (.int z.length) H):qeD K [.str z] H Q:=⟨a,h⟩
theorem j6(a:H p=some (.lst ys))(h:Q (.int ys.length) H):qeD K [.ref p] H Q:=.inl ⟨ys,.inl (SqL.of a),h⟩
theorem vLenLs(a:SqL K H p ys)(h:Q (.int ys.length) H):qeD K [.ref p] H Q:=.inl ⟨ys,.inl a,h⟩
theorem qgi(a:H p=some (.tup ys))(h:Q (.int ys.length) H):qeD K [.ref p] H Q:=.inl ⟨ys,.inr (SqT.of a),h⟩
theorem qhc{lo a:Option Int}(b:z.length<=sizeLine)(h:Q (.str (Txt.slice z lo a)) H):qha K (.str z) lo a H Q:=⟨b,h⟩
theorem vSl{f:V->Option Int->Option Int->Hp->VK->Prop}{tl th:TO}(h:te σ H λx a=>tl σ a λl b=>th σ b λu c=>f x l u c Q):tSl f te tl th σ H Q:=h
theorem vNoPart(h:QO none H):qeQ σ H QO:=h
theorem vPart(h:te σ H λx a=>∃ i,x=.int i/\QO (some i) a):qgz te σ H QO:=h
theorem vExI{P:Int->Prop}(h:P i):∃ j,V.int i=.int j/\P j:=⟨i,rfl,h⟩
theorem vBM{f:V->List V->Hp->VK->Prop}(h:te σ H λx a=>tyV K T x a/\tas σ a λxs b=>f x xs b Q):tBM K T f te tas σ H Q:=h
theorem vBM0{f:V->List V->Hp->VK->Prop}(h:te σ H λx a=>tyV K T x a/\f x [] a Q):qg6 K T f te σ H Q:=h
theorem vComp(h:wi σ H λJ a=>qfF J g c te (qeI nl ixs σ) a Q):qfE wi g c te nl ixs σ H Q:=h
theorem vFor (h:wi σ H λJ d=>∃ W:Nat->Nat->St->Hp->Prop,(∃ m,W 0 m σ d)/\∀ i m σ H,W i m σ H ->
 (J.stop i H/\D.nx σ H)\/(J.go i H/\∃ N:St->Hp->Prop,(∀ a H',N a H'->∃ c,c<m/\W (i+1) c a H')/\∀ x H',J.yld i H x H'->g x σ H' λb e=>t { D with nx:=N,ct:=N,bk:=D.nx } b e)):qhm wi g t D σ H:=h
theorem vRng1(h:tas σ H λvs a=>∃ j:Int,vs=[.int j]/\-(2 ^ 62)<=j/\j<2 ^ 62/\R (Itr 0 j.toNat) a):qgv tas σ H R:=h
theorem vAny (h:te σ H λv b=>match v with
 | .str x=>R (Its x) b
 | .ref a=>((∃ xs,SqL K b a xs)/\R (Itl K a) b)\/((∃ xs,SqT K b a xs)/\R (Itt K a) b)
 | _=>False):qhb K te σ H R:=h
theorem vGN{i:Nat}{a:St->Hp->Prop}(h:a (σ.set i (some v)) H):qdo i v σ H a:=h
end
section
variable{X:Cx}{K:yg}{o e:Expr}{es:List Expr}{to ta:TE}{t:TA}{name f:Str}{apos cpos pos:Pos}{T id:String}{r:V->List V->Hp->VK->Prop}{tg:Expr}
theorem jv(a:X.K=K):zL X (.builtin "len") (qeD K):=by subst a;show call_lenU
theorem qgF(a:X.K=K)(hc:X.calm=true):zL X (.builtin "all") (qhr K):=by subst a;show call_all hc
theorem qeF(a:X.K=K):SlR X (qha K):=by subst a;show u_sl
theorem jp(a:X.K=K):OpR X (binaryOp .Add) (qeC K):=by subst a;show u_add
theorem k_join(a:X.K=K):MtR X "str.join" (qgD K):=by subst a;show mt_join
theorem qK(b:X.K=K)(c:PE X e ta)(a:∀ it v,letOwnedTupleGo tg it v=pure ():=by intro _ _;rfl):PI X tg e (qhb K ta):=by subst b;show pi_any c a
theorem k_bm0(e:X.K=K)(pa:PlainAttrs T)(c:Slot T name id)(d:typeOf (.builtin id)=pure (.type "method_descriptor"))(f:MtR X id r)(g:PE X o to)
  (a:attributeBase o name X.env (eval o X.env)=eval o X.env:=by rfl) (b:(apos.endLine==cpos.line)=true:=by rfl):PE X (.Call (.Attribute o name apos) [] [] cpos) (qg6 K T r to):=by
 subst e;show pe_bm0 pa c d f g a b
theorem qcg(h:X.K=K)(pa:PlainAttrs T)(f:Slot T name id)(g:typeOf (.builtin id)=pure (.type "method_descriptor"))(j:MtR X id r)(l:PE X o to)(i:PA X (e::es) t)
  (b:attributeBase o name X.env (eval o X.env)=eval o X.env:=by rfl)
  (d:((backTo cpos (starEach (e::es) X.env)).all (λx=>!x.1)&&(backToKw cpos (keywordEach [] X.env)).all (λx=>x.1.isSome)
   && decide ((e::es).length+([]:List Keyword).length+(if ([]:List Keyword).isEmpty then 0 else 1)<30))=true:=by rfl)
  (c:(apos.endLine==cpos.line)=true:=by rfl) (m:starEach (e::es) X.env=(false,eval e X.env)::starEach es X.env:=by rfl) (a:(backTo cpos (starEach es X.env)).any (·.1)=false:=by rfl) :
  PE X (.Call (.Attribute o name apos) (e::es) [] cpos) (tBM K T r to t):=by
 subst h;show pe_bm pa f g j l i b d c m a
end
structure DefOk(P:Program)(w:World)(K:yg)(mg:Str->Option Value)(base:Heap)(CX:CXT)(k:Nat)(x:Str)(ps:LS)(sp:Sp):Prop where
 ex:∃ f fd,FnOk P w K mg base CX k f fd ps sp/\mg x=some (.ref f)/\PySem.W.keepIn K (.ref f)=true/\Binds K fd ps []
section
variable{X:Cx}{CX:CXT}{k:Nat}{ps:LS}{sp:Sp}{E:XK}{x:Str}{p pos:Pos}{e:Expr}{es:List Expr}{t:TA}
theorem qo(D:DefOk X.prog X.w X.K X.mg X.base CX k x ps sp)(j:Room k X.A)(l:qad CX X E)(c:PA X (e::es) t)(g:Gl X x:=by rfl)(a:(x==("__debug__":Str))=false:=by decide)
  (d:starEach (e::es) X.env=(false,eval e X.env)::starEach es X.env:=by rfl) (b:(backTo pos (starEach es X.env)).any (·.1)=false:=by rfl):PE X (.Call (.Name x p) (e::es) [] pos) (qeN sp [] E t):=by
 obtain⟨f,fd,F,i,h,hb⟩:=D.ex;show pe_call F j g i h hb .nil l c a d b
theorem qbu(c:Gl X x)(a:∃ tk,X.mg x=some (.int i tk))(b:(x==("__debug__":Str))=false:=by decide):PE X (.Name x pos) (tC (.int i)):=by
 obtain⟨tk,a⟩:=a;show qcn c a ⟨tk,rfl⟩ b
end
def qeG(t c:String):Bool:=t==c||(t=="bool"&&c=="int")
theorem zf(K:yg):∀ t∈wqo,∀ c∈["bool","int","str","list","tuple","dict"],PySem.W.kitOne K (.type t) (.type c)=some (qeG t c):=by
 intro t a c hc;simp only[yv,yQ,Yw] at a hc;rcases a with rfl | rfl | rfl | rfl | rfl | rfl | rfl<;>rcases hc with rfl | rfl | rfl | rfl | rfl | rfl<;>rfl
def qcN:List Value->Bool
 | [.type a,.type b,.type c,.type d]=>a=="ValueError"&&b=="Exception"&&c=="BaseException"&&d=="object"
 | .ref _::r=>qcN r
 | _=>false
def qgY(K:yg)(C:Addr):Bool:=match K.lookup C with
 | some ⟨.type "type",_,.cls cd,sl⟩=>(match cd.mro,sl.toList with
  | .ref D::bm,[_,_,_,_,some (.builtin n),_]=>D==C&&!cd.hasDel&&qcN bm&&n=="ValueError.__new__"
  | _,_=>false)
 | _=>false
theorem qd3{K:yg}(X:K.In h)(q:qgY K C=true):∃ nm p N bs d c sn b e a f g i j m o,
  h.get? C=some (excClassObj nm p C N bs d c sn b e a f g i j m o "ValueError.__new__")/\qcN d=true:=by
 unfold qgY at q;split at q
 .rename_i f cd sl ho
  split at q
  .rename_i D d g i j m n o hm hs
   simp only[yL,Ym,YD] at q;obtain⟨⟨⟨s,r⟩,t⟩,u⟩:=q;subst s u;obtain⟨nm,bs,mro,ns,p,v,sn,b,e,a,del⟩:=cd;dsimp only at hm r;subst hm r;obtain⟨l⟩:=sl;dsimp only at hs;subst hs;show⟨nm,p,ns,bs,d,v,sn,b,e,a,f,g,i,j,m,o,X _ _ ho,t⟩
  .cases q
 .cases q
structure XAt(K:yg)(C:Addr):Prop where
 ga:PySem.W.findIn K (.ref C) "__getattribute__"=some (some (.builtin "BaseException.__getattribute__"))
 gn:PySem.W.findIn K (.ref C) "__getattr__"=some none
 bx:PySem.W.mroIn K C (.type "BaseException")=some true
 ob:PySem.W.mroIn K C (.type "object")=some true
 hd:PySem.W.hasDictIn K C=true
 cl:PySem.W.findIn K (.ref C) "__class__"=some (some (.builtin "object.__class__"))
 cg:PySem.W.specialIn K (.builtin "object.__class__") "__get__"=some (some (.builtin "getset_descriptor.__get__"))
 ct:PySem.W.takesIn K (.builtin "object.__class__")=some true
 sa:PySem.W.findIn K (.ref C) "__setattr__"=some (some (.builtin "object.__setattr__"))
 mr:(PySem.W.clsIn K C).any (λcd=>qcN cd.mro)=true
 xc:qgY K C=true
theorem bexc_ga_slot:Slot "ValueError" "__getattribute__" "BaseException.__getattribute__":=PySem.F.attr_ValueError.ga
section
variable{prog:Program}{w:World}{A:Around}{E:Value->Shared->Prop}{s:Shared}{K:yg}{x C:Addr}{ox:Obj}{od:Option Obj}{name:Str}{v:Value}
theorem xga_value{Q:Fin->Shared->Prop}(X:K.In s.heap)(I:PySem.W.InstAt s.heap x ox C od)(a:PySem.W.findObj K C od name=some (.value v))(h:Q (.done (.ret v)) s) :
  wpAny (model prog w) A (Builtin.«object.__getattribute__» ⟨[.ref x,.str name tk],[]⟩) Q E s:=by
 have F:=PySem.W.looks_find (M:=model prog w) X I a;show yr (yE (yr (yE (yr (I.type.here (yr (F.here ?_)))))));show yE h
theorem xga_call{R:Result->Shared->Prop}(X:K.In s.heap)(I:PySem.W.InstAt s.heap x ox C od)(hb:PySem.W.mroIn K C (.type "BaseException")=some true)
  (h:wpAny (model prog w) A.in1 (Builtin.«object.__getattribute__» ⟨[.ref x,.str name tk],[]⟩) (λa s'=>match a with | .done f=>R (.ok f) s' | .again c'=>c'.quiet=true/\codeAny (model prog w) A c' R s') (λe s'=>R (.error e) s') s) :
  codeAny (model prog w) A (.call (.builtin "BaseException.__getattribute__") ⟨[.ref x,.str name tk],[]⟩) R s:=by
 show xY bexc_ga_slot.plain PySem.F.entry_bexc_ga ?_;show @PySem.W.check_slot (model prog w) _ _ s "BaseException.__getattribute__" "BaseException" "__getattribute__" (.ref x) [.str name tk] [] _ (by room) (by room) (I.type.andThen (xA X hb)) (PySem.F.args_bexc_ga _ _) h
theorem qeY{b:Bool}{Q:Value->Shared->Prop}(X:K.In s.heap)(I:PySem.W.InstAt s.heap x ox C od)(c:XAt K C)
  (h:wpAny (model prog w) A.in1 (Builtin.«object.__getattribute__» ⟨[.ref x,.str name tk],[]⟩) (λa s'=>match a with | .done (.ret v)=>wpAny (model prog w) A (handedOut v) Q E s' | _=>False) (λ_ _=>False) s) :
  wpAny (model prog w) A (getAttrBy (.ref x) (.str name tk) b expr) Q E s:=by
 unfold getAttrBy;show YT (yr (I.type.here (yr ((YQ X c.ga).here ?_))))
 have d:(onTheHeap (Value.ref C)&&Value.builtin "BaseException.__getattribute__"==Value.builtin "object.__getattribute__")=false:=by
  rw[show(Value.builtin "BaseException.__getattribute__"==Value.builtin "object.__getattribute__")=false by room];rfl
 dsimp only;rw[d,yD (by decide)];unfold getAttrByItsOwn hookBefore;rw[yH (show onTheHeap (Value.ref C)=true from rfl)];show yr ((YQ X c.gn).here (yr (wpAny_attempt (YT ?_))));have e:(expr&&onTheHeap (Value.builtin "BaseException.__getattribute__"))=false:=by cases expr<;>rfl
 unfold callGetattribute;rw[e,yD (by decide)];unfold boundAndCalled;rw[bexc_ga_slot.bind];show yr (yE ?_);show wpAny _ _ (call (.builtin "BaseException.__getattribute__") [.ref x,.str name tk]) _ _ _;show Xn (xga_call X I c.bx (YJ h (λa s' z=>?_) λ_ _ z=>z.elim));rcases a with(_ | _ | _ | _) | _<;>first | show z | show z.elim
theorem xget{Q:Value->Shared->Prop}(X:K.In s.heap)(I:PySem.W.InstAt s.heap x ox C od)(c:XAt K C)(a:PySem.W.findObj K C od name=some (.value v))(b:PySem.W.handedIn v=true)
  (h:Q v { s with toks:=s.toks+1 }):wpAny (model prog w) A (getAttr (.ref x) name expr) Q E s:=by
 unfold getAttr;show yr (wpAny_mkText (qeY (s:={ s with toks:=s.toks+1 }) X I c (xga_value (s:={ s with toks:=s.toks+1 }) X I a ?_)));show wpAny _ _ (handedOut v) _ _ _;rw[PySem.W.handedOut_of b];show yE h
theorem xclass{Q:Option Value->Shared->Prop}(X:K.In s.heap)(I:PySem.W.InstAt s.heap x ox C od)(c:XAt K C)(a:PySem.W.findObj K C od "__class__"=some (.bind (.builtin "getset_descriptor.__get__") (.builtin "object.__class__")))
  (h:Q (some (.ref C)) { s with toks:=s.toks+1 }):wpAny (model prog w) A (getAttr? (.ref x) "__class__") Q E s:=by
 unfold getAttr? getAttrBy?;show yr (wpAny_mkText (yr (wpAny_attempt (qeY (s:={ s with toks:=s.toks+1 }) X I c ?_))));have F:=PySem.W.looks_find (M:=model prog w) X I a;show yr (yE (yr (yE (yr (I.type.here (s:={ s with toks:=s.toks+1 }) (yr (F.here (s:={ s with toks:=s.toks+1 }) ?_)))))));show wpAny _ _ (holding [Value.builtin "object.__class__"] (call (.builtin "getset_descriptor.__get__") [.builtin "object.__class__",.ref x,.ref C])>>=ret) _ _ _;show yr (YT (Xn (PySem.W.class_get (s:={ s with toks:=s.toks+1 }) X I c.ob ?_)));show yE ?_;show wpAny _ _ (handedOut (.ref C)) _ _ _;show yE (yE h)
theorem findObj_class(c:XAt K C):PySem.W.findObj K C od "__class__"=some (.bind (.builtin "getset_descriptor.__get__") (.builtin "object.__class__")):=by
 obtain⟨a,hc,_⟩:=Xd c.hd;unfold PySem.W.findObj;rw[hc,Option.bind_some,c.cl,Option.bind_some];simp[c.cg,c.ct]
theorem qd4(c:XAt K C):PySem.W.KitX K (.ref x) (.ref C) (λh=>PySem.W.InstAt h x ox C od) where
 ty:=λ_ _ _ I=>I.type
 it:=λ_ _ X _=>by
  obtain⟨b,hc,_⟩:=Xd c.hd;unfold PySem.W.clsIn at hc;split at hc
  .rename_i c1 d1 cd1 sl1 ho
   intro f i g s' k q;unfold isType loadHead;show yr (wpAny_loadPart (k _ _ (X _ _ ho)) (yE q))
  .cases hc
 ne:=λh d j its n l X a=>by
  obtain⟨b,hc,_⟩:=Xd c.hd;show kW.mpr λq=>?_;have e:C=d:=kA (Ym.mp q);subst e;unfold PySem.W.clsIn at hc;split at hc
  .rename_i c1 d1 cd1 sl1 ho
   have z:=(X _ _ ho).symm.trans a;cases z
  .cases hc
 ca:=λX I k=>xclass X I c (findObj_class c) k
end
theorem qc5{r:List Value}(e:qcN (.ref c::r)=true):qcN r=true:=by
 cases r with
 | nil=>cases e
 | cons a r=>show e
theorem qaR:∀{l:List Value},qcN l=true->∃ f:LI,l=f.map Value.ref++[.type "ValueError",.type "Exception",.type "BaseException",.type "object"]
 | [],e=>by cases e
 | .ref c::r,e=>by
  obtain⟨f,q⟩:=qaR (qc5 e);show⟨c::f,by rw[q];rfl⟩
 | .type a::r,e=>by
  match r,e with
  | [.type b,.type c,.type d],e =>
   simp only[qcN,yL,Ym] at e;obtain⟨⟨⟨rfl,rfl⟩,rfl⟩,rfl⟩:=e;show⟨[],rfl⟩
theorem refuse_exc(self:Value)(e:qcN l=true):refuseLoop self "__setattr__" l=pure ():=by
 obtain⟨a,rfl⟩:=qaR e
 induction a with
 | nil=>show PySem.F.store_ValueError.passes self
 | cons c a ih=>rw[YG,Ke,refuseLoop_ref];show ih (qc5 e)
theorem qaS(e:qcN l=true)(h:T∈wqQ):l.contains (.type T)=true:=by
 obtain⟨a,rfl⟩:=qaR e;rw[List.contains_iff_mem];show yR _ ?_;simp only[yv,yQ,Yw] at h ⊢;rcases h with rfl | rfl | rfl | rfl<;>simp
section
variable{prog:Program}{w:World}{A:Around}{E:Value->Shared->Prop}{s:Shared}{K:yg}{x C:Addr}{name:Str}{v:Value}{R:Result->Shared->Prop}
theorem xosa(X:K.In s.heap)(I:PySem.W.InstAt s.heap x ox C od)(c:XAt K C)(n:NoAttr K C name)
  (h:wpAny (model prog w) A.in1 (Builtin.ObjectAttr.storeInOwnDict (.ref x) (.ref C) (.str name tk) name v false)
   (λb s'=>match b with | .done f=>R (.ok f) s' | .again c'=>c'.quiet=true/\codeAny (model prog w) A c' R s') (λe s'=>R (.error e) s') s) :
  codeAny (model prog w) A (.call (.builtin "object.__setattr__") ⟨[.ref x,.str name tk,v],[]⟩) R s:=by
 have a:=PySem.F.store_object;obtain⟨d,hc,i⟩:=Xd c.mr;have g:PySem.W.Looks (model prog w) s.heap (mroOf (.ref C)) d.mro:=(kK X hc).andThen .now;show xY a.slot.plain a.entry (@PySem.W.check_slot (model prog w) _ _ s "object.__setattr__" "object" "__setattr__" (.ref x) [.str name tk,v] [] _ a.kind a.split (I.type.andThen (xA X c.ob)) (a.args (.ref x) (.str name tk) v) ?_);rw[PySem.W.osa_eq,refuse_eq];show yr (yr (I.type.here (yr (g.here ?_))));rw[refuse_exc _ i];show yE (yr (I.type.here (yr ((YQ X n).here (yr (yE ?_))))));show h
theorem xset(X:K.In s.heap)(m:s.heap.get? x=some ⟨.ref C,none,.fields vs,#[]⟩)(c:XAt K C)(n:NoAttr K C name){Q:Unit->Shared->Prop}
  (h:∀ h',h'.get? x=some ⟨.ref C,some s.heap.objs.size,.fields vs,#[]⟩->h'.Ns1 s.heap.objs.size (λy=>if y=name then some v else none)->(∀ b o,b≠x->s.heap.get? b=some o->h'.get? b=some o) ->
   Q () { s with heap:=h',toks:=s.toks+2 }):wpAny (model prog w) A (setAttr (.ref x) name v) Q E s:=by
 have I:PySem.W.InstAt s.heap x ⟨.ref C,none,.fields vs,#[]⟩ C none:=⟨m,rfl,rfl,YR⟩;obtain⟨J,hc,D⟩:=Xd c.hd;show PySem.W.set_plain X I c.sa (xosa (s:={ s with toks:=s.toks+1 }) X I c n ?_);show yr (yE (yr (yr (wpAny_loadPart m (yr ((kK X hc).here (s:={ s with toks:=s.toks+1 }) ?_))))));rw[D];obtain⟨a,g,L,tk,N⟩:=s;show wpAny _ _ (alloc { cls:=.type "dict",data:=.dict #[] }>>=λd=>update x (λo=>{ cls:=o.cls,dict:=some d,data:=o.data,slots:=o.slots })>>=λ_=>pure (some d)) _ _ _;have l:x≠a.objs.size:=Yl (yU m);have i:=yw { cls:=.type "dict",data:=.dict #[] } m;show yr (wpAny_alloc' (yr (wpAny_update' i (yE ?_))));have j:=xQ (λo:Obj=>{ cls:=o.cls,dict:=some a.objs.size,data:=o.data,slots:=o.slots }) i rfl;have f:=(Heap.get?_update_ne (a.push { cls:=.type "dict",data:=.dict #[] }) a.objs.size x (λo:Obj=>{ cls:=o.cls,dict:=some a.objs.size,data:=o.data,slots:=o.slots }) l.symm).trans (kX rfl rfl);generalize G:(a.push { cls:=.type "dict",data:=.dict #[] }).update x (λo:Obj=>{ cls:=o.cls,dict:=some a.objs.size,data:=o.data,slots:=o.slots })=h2 at j f ⊢;have nd:h2.Ns a.objs.size (λ_=>none):=⟨_,#[],_,f,rfl,λe F=>absurd F (by simp),λ_=>rfl⟩;show wpAny _ _ (Builtin.ObjectAttr.storeInDict a.objs.size (.str name tk) name v) _ _ _;unfold Builtin.ObjectAttr.storeInDict Builtin.ObjectAttr.newKeyGuard;show yr (yE (yr (wpAny_nsSet1 (Heap.Ns1.of_empty nd) λh' u z=>?_)));obtain⟨M,p,B,t,r,q⟩:=u.count (PySem.Within.cons name v PySem.Within.nil);have H:p.size<=sizeLine:=yi q (by rw[yx,Yv,xt];lk);show yr (wpAny_lookBehind t (by rw[r];show pastItsLine_dict (Nat.le_succ_of_le H)) ?_);show yE (h h' ((z.2 x l).trans j) u λb o hb e=>(z.2 b (Yl (yU e))).trans ?_);rw[<- G];show(Heap.get?_update_ne _ _ _ _ hb).trans (yw _ e)
theorem ve_check{Q:Unit->Shared->Prop}(X:K.In s.heap)(c:XAt K C)(l:s.heap.get? x=some ox)(a:ox.cls=.ref C)(q:Q () s) :
  wpAny M A (checkBuiltinCall "ValueError.__init__" ⟨[.ref x,u],[]⟩) Q E s:=by
 have F:=Y9;have b:=F.noStar;obtain⟨nm,D,N,bs,h,f,sn,m,n,i,o,t,v,w,y,z,e,j⟩:=qd3 X c.xc;have d:(Value.ref C::h).contains (.type "ValueError")=true:=by rw[Ys,qaS j (by simp),kN]
 obtain⟨r,g,p,tk,B⟩:=s;simp only[checkBuiltinCall,F.initKind,F.initSplit,F.initRow]
 repeat (first | (with_reducible show YK l ?_;rw[a]) | with_reducible show YK e ?_ | (with_reducible show xB e ?_;rw[d]) | wp_step)
 show q
abbrev xfs(a0:Addr):Array Value:=#[.ref a0,.none,.none,.none,.bool false,.none]
theorem xbase_init(X:K.In s.heap)(a:s.heap.get? x=some ⟨.ref C,none,.fields (xfs a0),#[]⟩)(c:XAt K C){Q:Value->Shared->Prop}
  (h:∀ h' d,h'.get? x=some ⟨.ref C,none,.fields (xfs d),#[]⟩->(∀ b o,b≠x->s.heap.get? b=some o->h'.get? b=some o)->Q .none { s with heap:=h' }) :
  wpAny (model prog w) A (call (.builtin "ValueError.__init__") [.ref x,u]) Q E s:=by
 have F:=Y9;show Xn (xY F.init.plain F.initEntry (ve_check X c a rfl ?_));obtain⟨f,g,i,tk,j⟩:=s
 wp_walk
 show h _ f.objs.size ?_ λb o hb e=>?_
 .rw [xQ _ (yw _ a) rfl];rfl
 .rw [YC _ _ (YI hb)];show yw _ e
end
theorem qd5(e:qcN l=true)(h:T∉wqQ):l.contains (.type T)=false:=by
 obtain⟨b,rfl⟩:=qaR e;show kW.mpr λq=>?_;rcases yG.mp (List.contains_iff_mem.mp q) with z | z
 .obtain⟨a,_,q⟩:=yB.mp z;cases q
 .simp only[yv,yQ,Yw,Value.type.injEq] at z h;show h z
section
variable{prog:Program}{w:World}{A:Around}{R:Result->Shared->Prop}{E:Value->Shared->Prop}{h:Heap}{g:Array GenState}{d:Drawn}{t:Nat}{os:OsState}
variable{nm q:Str}{C N:Addr}{bs bm:List Value}{hdct:Bool}{sn:LS}{sub:List Value}{ab:Bool}{col:Option Bool}{dd:Option Addr}{k0 k1 k2 k3 k5:Option Value}
theorem xnew_check{rest:List Value}{Q:Unit->Shared->Prop}(b:h.get? C=some (excClassObj nm q C N bs bm hdct sn sub ab col dd k0 k1 k2 k3 k5 "ValueError.__new__"))(e:qcN bm=true)(f:Q () ⟨h,g,d,t,os⟩) :
  wpAny M A (checkBuiltinCall "ValueError.__new__" ⟨.ref C::rest,[]⟩) Q E ⟨h,g,d,t,os⟩:=by
 have F:=Y9;have a:(Value.ref C::bm).contains (.type "ValueError")=true:=by rw[Ys,qaS e (by simp),kN]
 have c:=F.noStar;simp only[checkBuiltinCall,F.newKind,F.newSplit,F.newRow]
 repeat (first | show YK b ?_ | (show xB b ?_;rw[a]) | show wpAny_staticBase_exc b ?_ | show wpAny_madeBy_exc b ?_ | simp only[bne_self_eq_false,xN,ki] | wp_step)
 show f
theorem xnew{rest:List Value}(b:h.get? C=some (excClassObj nm q C N bs bm hdct sn sub ab col dd k0 k1 k2 k3 k5 "ValueError.__new__"))(j:qcN bm=true)(l:rest.length<=sizeLine)
  (m:R (.ok (.ret (.ref (h.objs.size+1)))) ⟨(h.push { cls:=.type "tuple",data:=.seq rest.toArray }).push { cls:=.ref C,data:=.fields (xfs h.objs.size) },g,d,t,os⟩) :
  codeAny (model prog w) A (.builtin "ValueError.__new__" ⟨.ref C::rest,[]⟩) R ⟨h,g,d,t,os⟩:=by
 have F:=Y9;have i:=F.ends;have e:(Value.ref C::bm).contains (.type "ValueError")=true:=by rw[Ys,qaS j (by simp),kN]
 have c:(Value.ref C::bm).contains (.type "AttributeError")=false:=by rw[Ys,qd5 j (by simp)];rfl
 have f:(Value.ref C::bm).contains (.type "NameError")=false:=by rw[Ys,qd5 j (by simp)];rfl
 show codeAny_builtinAt F.entry ?_;unfold Builtin.«BaseException.__new__»;show PySem.wpAt_bind ?_;show PySem.wpAt _ _ _ (stack>>=_) _ _ _;show PySem.wpAt_bind (PySem.wpAt_stack λn a=>PySem.wpAt_of_wpAny ?_)
 wp_walk
 show PySem.wpAt_of_wpAny ?_;rw[F.owner]
 repeat (first | with_reducible show wpAny_madeHere_exc F.canon b ?_ | with_reducible show YK b ?_ | (with_reducible show xB b ?_;first | rw[e] | rw[c] | rw[f]) | wp_step)
 show R _ _;rw[xu];show m
theorem xtype_call{K:yg}{rest:List Value}{Q:Fin->Shared->Prop}(X:K.In h)(c:h.get? C=some (excClassObj nm q C N bs bm hdct sn sub ab col dd k0 k1 k2 k3 k5 "ValueError.__new__"))(m:qcN bm=true)
  (s:PySem.W.findIn K (.ref C) "__init__"=some (some (.ref f))) (p:PySem.W.isFn K (.ref f)=true) (a:rest.length<=sizeLine)
  (u:wpAny (model prog w) A (call (.ref f) (.ref (h.objs.size+1)::rest)) (λr s'=>r=.none/\Q (.done (.ret (.ref (h.objs.size+1)))) s') E
   ⟨(h.push { cls:=.type "tuple",data:=.seq rest.toArray }).push { cls:=.ref C,data:=.fields (xfs h.objs.size) },g,d,t,os⟩) :
  wpAny (model prog w) A (Builtin.«type.__call__» ⟨.ref C::rest,[]⟩) Q E ⟨h,g,d,t,os⟩:=by
 have F:=Y9
 repeat (first | with_reducible show YK c ?_ | with_reducible show wpAny_madeBy_exc c ?_ | wp_step)
 show codeAny_call_builtin_code (Code.quiet_builtin _ F.quiet) (xnew_check c m (xnew c m a ?_));show wpAny _ _ _ _ _ _;have up:∀ b o,h.get? b=some o->((h.push { cls:=.type "tuple",data:=.seq rest.toArray }).push { cls:=.ref C,data:=.fields (xfs h.objs.size) }).get? b=some o:=λb o e=>yw _ (yw _ e);have hC1:=up _ _ c;have i:((h.push { cls:=.type "tuple",data:=.seq rest.toArray }).push { cls:=.ref C,data:=.fields (xfs h.objs.size) }).get? (h.objs.size+1)=some { cls:=.ref C,data:=.fields (xfs h.objs.size) }:=kX (by rw[xu]) rfl;have l:K.In ((h.push { cls:=.type "tuple",data:=.seq rest.toArray }).push { cls:=.ref C,data:=.fields (xfs h.objs.size) }):=X.keeps up;have j:(Value.ref C::bm).contains (.ref C)=true:=by simp
 unfold isInstance
 repeat (first | with_reducible show YK i ?_ | (with_reducible show xB hC1 ?_;rw[j]) | wp_step)
 show wpAny _ _ (typeLookup (.ref C) _) _ _ _;show(YQ l s).at (YT (yr ((PySem.W.bind_fn l _ (Ym.mp p)).at (yr (YJ u (λr s' v=>?_) λ_ _ z=>z)))));obtain⟨rfl,n⟩:=v
 wp_walk
 show n
theorem xcall{K:yg}{rest:List Value}{Q:Value->Shared->Prop}(X:K.In s.heap)(c:XAt K C)(i:PySem.W.findIn K (.ref C) "__init__"=some (some (.ref f)))(e:PySem.W.isFn K (.ref f)=true)(a:rest.length<=sizeLine)
  (l:wpAny (model prog w) (A.under (.builtin "type.__call__" ⟨.ref C::rest,[]⟩)) (call (.ref f) (.ref (s.heap.objs.size+1)::rest)) (λr s'=>r=.none/\Q (.ref (s.heap.objs.size+1)) s') E
   { s with heap:=(s.heap.push { cls:=.type "tuple",data:=.seq rest.toArray }).push { cls:=.ref C,data:=.fields (xfs s.heap.objs.size) } }) :
  wpAny (model prog w) A (call (.ref C) rest) Q E s:=by
 obtain⟨nm,p,N,bs,bm,hdct,sn,sub,ab,col,dd,k0,k1,k2,k3,k5,b,j⟩:=qd3 X c.xc;obtain⟨h,g,d,t,os⟩:=s;have m:=tc_lookup;have n:=tc_bind (.ref C);have o:(⟨h,g,d,t,os⟩:Shared).TypeIs (.ref C) "type":=⟨_,b,rfl⟩;show Xn (codeAny_of_tree ?_);show wpAny _ _ (callAny (.ref C) _) _ _ _
 repeat (any_goals (first | assumption | with_reducible show YK b ?_ | wp_step))
 show⟨rfl,?_⟩;show codeAny_call_builtin_at (Code.quiet_builtin _ (by room)) entry_typeCall (wpAny_check_type_call_sub b (xtype_call X b j i e a l))
end
def XN(e C:Addr)(dx:Option Addr):HO:=.ext λh=>∃ a0,h.get? e=some ⟨.ref C,dx,.fields (xfs a0),#[]⟩
def XO(e C:Addr)(dx:Option Addr):HO:=.ext λh=>∃ vs,h.get? e=some ⟨.ref C,dx,.fields vs,#[]⟩
theorem XN.ok(q:h.get? e=some ⟨.ref C,dx,.fields (xfs a0),#[]⟩):ObjOk P w H h e (XN e C dx):=
 ⟨⟨a0,q⟩,⟨_,q⟩,λ_ _ ⟨a,x⟩ k=>⟨a,k _ x⟩⟩
theorem XO.ok(q:h.get? e=some ⟨.ref C,dx,.fields vs,#[]⟩):ObjOk P w H h e (XO e C dx):=
 ⟨⟨vs,q⟩,⟨_,q⟩,λ_ _ ⟨a,x⟩ k=>⟨a,k _ x⟩⟩
def IsX(H:Hp)(e C:Addr)(dx:Option Addr):Prop:=H e=some (XN e C dx)\/H e=some (XO e C dx)
theorem IsX.get(q:IsX H e C dx)(b:HOk P w H h):∃ vs,h.get? e=some ⟨.ref C,dx,.fields vs,#[]⟩:=by
 rcases q with q | q
 .obtain⟨⟨a,x⟩,_⟩:=(show ObjOk P w H h e (XN e C dx) from b e _ q);show⟨_,x⟩
 .obtain⟨⟨a,x⟩,_⟩:=(show ObjOk P w H h e (XO e C dx) from b e _ q);show⟨_,x⟩
theorem upd_id{o:HO}(h:H a=some o):upd H a o=H:=by
 funext b;unfold upd;split
 .rename_i e;subst e;show h.symm
 .rfl
section
variable{X:Cx}{pins:List (Addr×Obj)}{σ:St}{H:Hp}{s:Shared}{e C:Addr}{dx:Option Addr}
theorem qfT(I:Inv X pins σ H s){d:Addr}{fs:List (Str×V)}(h:H d=some (.xd fs)):∃(od:Obj) (a:Str->Option Value),s.heap.get? d=some od/\(∀ name,PySem.W.lookIn name od=some (a name))/\∀ f,RelO (fs.lookup f) (a f):=by
 obtain⟨a,n,r⟩:=(show ObjOk X.prog X.w H s.heap d (.xd fs) from I.hok d _ h);obtain⟨od,h1,b⟩:=qcS n;show⟨od,a,h1,b,r⟩
end
section
variable{X:Cx}{pins:List (Addr×Obj)}{σ:St}{H:Hp}{s:Shared}{a d:Addr}{h':Heap}{o u:HO}{t':Nat}
theorem Inv.both(I:Inv X pins σ H s)(h:Mut (H a))(j:s.heap.objs.size<=d)(k:∀ b v,b≠a->s.heap.get? b=some v->h'.get? b=some v)(l:∃ v,h'.get? a=some v)
  (m:ObjOk X.prog X.w (upd (upd H d u) a o) h' a o) (p:ObjOk X.prog X.w (upd (upd H d u) a o) h' d u) (ne:d≠a):Inv X pins σ (upd (upd H d u) a o) { s with heap:=h',toks:=t' }:=by
 have nd:H d=none:=I.hok.fresh j;have f:∀ b q,H b=some q->¬ Mut (some q)->b≠a:=λb q e nm z=>by subst z;rw[e] at h;show nm h
 have i:∀ b,H b=none->b≠a:=λb e z=>by subst z;rw[e] at h;show h
 have big:∀ b v,s.heap.get? b=some v->b≠d:=λb v e=>Yl (yj (yU e) j);have up:∀ b q,H b=some q->b≠a->upd (upd H d u) a o b=some q:=λb q e n=>by rw[qi n,qi (qD e nd)];show e
 show I.un ⟨λb v e n _ _=>k b v (i b n) e,λb v e n _ _=>⟨v.slots,k b v (i b n) e⟩,λb v e n _=>by rw[qi (i b n),qi (big b v e)];show n,λb v e _=>?_,λb xs e=>up b _ e (f b _ e λz=>z),λb q xs e=>up b _ e (f b _ e λz=>z),
  λb ps e=>⟨#[],by rw[up b _ e (f b _ e λz=>z)];simp⟩⟩ λb q e=>?_
 .by_cases hb:b=a
  .subst hb;show l
  .show⟨v,k b v hb e⟩
 .by_cases hb:b=a
  .subst hb;rw[qb] at e;cases e;show m
  .rw [qi hb] at e;by_cases g:b=d
   .subst g;rw[qb] at e;cases e;show p
   .rw [qi g] at e;show(I.hok b q e).stay (λc v hc r=>k c v ?_ r) (λc r=>up c _ r (f c _ r λz=>z)) λc xs r=>up c _ r (f c _ r λz=>z);rcases hc with rfl | hc
    .show hb
    .show f c _ hc λz=>z
end
inductive FldR(K:yg)(f:Str)(x:V)(H:Hp)(Q:VK):Prop|mk (a C dx:Addr) (fs:List (Str×V)) (v:V) (_:x=.ref a) (_:H a=some (.ins C dx fs)) (_:Cls K C) (_:NoAttr K C f) (_:fs.lookup f=some v) (_:Q v H)
inductive XFlR(K:yg)(f:Str)(x:V)(H:Hp)(Q:VK):Prop|mk (a C dx:Addr) (fs:List (Str×V)) (v:V) (_:x=.ref a) (_:IsX H a C (some dx)) (_:XAt K C) (_:NoAttr K C f) (_:H dx=some (.xd fs)) (_:fs.lookup f=some v) (_:Q v H)
inductive FlUR(K:yg)(f:Str)(x:V)(H:Hp)(Q:VK):Prop | inl (_:FldR K f x H Q) | inr (_:XFlR K f x H Q)
inductive SFdR(K:yg)(f:Str)(x y:V)(H:Hp)(k:Hp->Prop):Prop|mk (a C dx:Addr) (fs:List (Str×V)) (_:x=.ref a) (_:H a=some (.ins C dx fs)) (_:Cls K C) (_:NoAttr K C f) (_:fs.length<1000) (_:k (upd H a (.ins C dx (j4 f y fs))))
inductive SXdR(K:yg)(f:Str)(x y:V)(H:Hp)(k:Hp->Prop):Prop|mk (a C:Addr) (_:x=.ref a) (_:H a=some (XN a C none)) (_:XAt K C) (_:NoAttr K C f) (_:∀ dx,H dx=none->k (upd (upd H dx (.xd [(f,y)])) a (XN a C (some dx))))
inductive SFUR(K:yg)(f:Str)(x y:V)(H:Hp)(k:Hp->Prop):Prop | inl (_:SFdR K f x y H k) | inr (_:SXdR K f x y H k)
def qgG(K:yg)(b:TE)(f:Str):TE:=fun σ H Q=>b σ H λx a=>FlUR K f x a Q
def qgH(K:yg)(c d:TE)(f:Str):TS:=λD σ H=>d σ H λy a=>c σ a λx b=>SFUR K f x y b (D.nx σ)
section
variable{X:Cx}{o e value:Expr}{f:Str}{pos pos':Pos}{ta tv:TE}{K:yg}
theorem jH(w:X.K=K)(z:PE X e ta)(hb:attributeBase e f X.env (eval e X.env)=eval e X.env):PE X (.Attribute e f pos) (qgG K ta f):=by
 subst w;intro pins s σ H Q I h;show attr_of hb (thn (z pins s σ H _ I h) λu E ⟨x,j,b,m,i⟩=>?_);rcases i with⟨a,C,dx,fs,v,rfl,g,c,n,l,q⟩ | ⟨a,C,dx,fs,v,rfl,g,c,n,y,l,q⟩
 .obtain rfl:u=Value.ref a:=m;show getattr_ok b g c n l λD F p d=>⟨v,j,p,d,q⟩
 .obtain rfl:u=Value.ref a:=m;obtain⟨vs,i⟩:=g.get b.hok;obtain⟨od,B,h1,t,r⟩:=qfT b y;obtain⟨D,A,d⟩:=RelO.some_of (v:=v) (o:=B f) (by rw[<- l];show r f);show xget b.kIn (od:=some od) ⟨i,rfl,rfl,h1⟩ c (PySem.W.findObj_own c.hd n rfl (by rw[t,A])) (qcT d) ⟨v,j,b.tok _,d,q⟩
theorem qbT(J:X.K=K)(L:PE X o ta)(hv:PE X value tv)(M:swapsWith value (some (.Attribute o f pos')) pos.line X.env=pure false):PS X (.Assign [.Attribute o f pos'] value pos) (qgH K ta tv f):=by
 subst J;intro pins s σ H D I h;show plainObj_wpAny_Assign_Attribute (thn (hv pins s σ H _ I h) λu N ⟨y,A,B,z,q⟩=>thn (L pins N σ A _ B q) λt i ⟨x,p,b,v,e⟩=>?_) M;rcases e with⟨a,C,dx,fs,rfl,d,c,n,l,m⟩ | ⟨a,C,rfl,d,c,n,m⟩
 .obtain rfl:t=Value.ref a:=v;show setattr_ok b d c n l z λO E=>⟨σ,_,E,m⟩
 .obtain rfl:t=Value.ref a:=v;obtain⟨⟨a0,e⟩,_⟩:=(show ObjOk X.prog X.w p i.heap a (XN a C none) from b.hok a _ d);show xset b.kIn e c n λh' r F G=>?_;have nd:p i.heap.objs.size=none:=b.hok.fresh (yh _);have ne:i.heap.objs.size≠a:=Xm (yU e);show⟨σ,_,b.both (o:=XN a C (some i.heap.objs.size)) (u:=.xd [(f,y)]) (by rw[d];show YR) (yh _) G ⟨_,r⟩ (XN.ok r) ⟨_,F,λg=>?_⟩ ne,m _ nd⟩;by_cases j:g=f
  .subst j;simp only[List.lookup,Xh,Xu];show z
  .have hb:(g==f)=false:=Yy.mpr j;simp only[List.lookup,hb,yD j];show YR
end
def qeZ(C:Addr)(sp:Sp)(E:XK)(t:TA):TE:=fun σ H Q=>t σ H λvs a=>vs.length<=1000/\∀ x,a x=none->sp (.ref x::vs) (upd a x (XN x C none)) (λv b=>v=.non/\Q (.ref x) b) E
structure XMk(K:yg)(C f:Addr):Prop where
 at_:XAt K C
 init:PySem.W.findIn K (.ref C) "__init__"=some (some (.ref f))
 fn:PySem.W.isFn K (.ref f)=true
 kp:PySem.W.keepIn K (.ref C)=true
section
variable{X:Cx}{CX:CXT}{k:Nat}{f C:Addr}{fd:FuncData}{ps:LS}{sp:Sp}{E:XK}{x m:Str}{p pos apos:Pos}{e o:Expr}{es:List Expr}{ta:TE}{t:TA}
theorem run_xmake{Q:VK}{vs:List V}(M:XMk X.K C f)(F:FnOk X.prog X.w X.K X.mg X.base CX k f fd ps sp)(y:Room (k+1) X.A)(hb:Binds X.K fd ps [])
  (B:qad CX X E) (I:Inv X pins σ H s) (r:Vals vs us) (i:vs.length<=1000) (h:∀ x,H x=none->sp (.ref x::vs) (upd H x (XN x C none)) (λv n=>v=.non/\Q (.ref x) n) E) :
  wpAny (model X.prog X.w) X.A (call (.ref C) us) (EP X pins σ Q) X.xe s:=by
 have l:=h (s.heap.objs.size+1) (I.hok.fresh (XY _));have up:∀ b o,s.heap.get? b=some o->((s.heap.push { cls:=.type "tuple",data:=.seq us.toArray }).push { cls:=.ref C,data:=.fields (xfs s.heap.objs.size) }).get? b=some o:=λb o q=>yw _ (yw _ q);have d:((s.heap.push { cls:=.type "tuple",data:=.seq us.toArray }).push { cls:=.ref C,data:=.fields (xfs s.heap.objs.size) }).get? (s.heap.objs.size+1)=some ⟨.ref C,none,.fields (xfs s.heap.objs.size),#[]⟩:=kX (by rw[xu]) rfl;have g:=I.laid (a:=s.heap.objs.size+1) (o:=XN (s.heap.objs.size+1) C none) (t':=s.toks) up (XY _) (XN.ok d);have m:Vals (V.ref (s.heap.objs.size+1)::vs) (Value.ref (s.heap.objs.size+1)::us):=.cons rfl r
 have hl:(Value.ref (s.heap.objs.size+1)::us++[]).length=ps.length:=by
  have q:=m.length;rw[F.len _ _ _ _ l] at q;rw[Yg];show q.symm
 have j:us.length<=sizeLine:=by rw[<- r.length];show yN (qh i)
 show xcall I.kIn M.at_ M.init M.fn j (Xn (XF (F.run _ X.stack _ _ ⟨Value.ref (s.heap.objs.size+1)::us,[]⟩ (Value.ref (s.heap.objs.size+1)::us) _ _ E (y.make C us [])
  (g.env0.make C us []) (by have z:=hb _ (Value.ref (s.heap.objs.size+1)::us) g.kIn hl;rw[Yg] at z;show z) m l) λr s' c=>?_))
 cases r with
 | error e=>show B pins σ _ _ e s' g c
 | ok fl =>
  cases fl with
  | ret u =>
   obtain⟨v,H',p,G,t,D⟩:=g.after c;subst t;show⟨G,⟨V.ref (s.heap.objs.size+1),H',p,rfl,D⟩⟩
  | next=>show False.elim c
  | brk=>show False.elim c
  | cont=>show False.elim c
theorem pe_xmake(M:XMk X.K C f)(F:FnOk X.prog X.w X.K X.mg X.base CX k f fd ps sp)(l:Room (k+1) X.A)(i:Gl X x)(j:X.mg x=some (.ref C))(hb:Binds X.K fd ps [])(m:qad CX X E)
  (d:PA X (e::es) t) (a:(x==("__debug__":Str))=false:=by decide) (g:starEach (e::es) X.env=(false,eval e X.env)::starEach es X.env:=by rfl) (b:(backTo pos (starEach es X.env)).any (·.1)=false:=by rfl) :
  PE X (.Call (.Name x p) (e::es) [] pos) (qeZ C sp E t):=by
 intro pins s σ H Q I h;show xJ (qab I i j ?_ a);show xK (h₀:=X.base) I.ok.mod.kin M.kp (thn (d pos pins s σ H _ I h) λus o ⟨vs,n,c,r,z,q⟩=>⟨c.kIn,?_⟩) g b;show run_xmake M F l hb m c r z q
structure CMeth(K:yg)(C:Addr)(m:Str)(f:Addr):Prop where
 rd:PySem.W.readsIn K C (.type "type")=true
 at_:PySem.W.findCls K (.ref C) (.type "type") m=some (.val (.ref f))
 ga:PySem.W.specialIn K (.ref C) "__getattribute__"=some (some (.builtin "type.__getattribute__"))
 kp:PySem.W.keepIn K (.ref f)=true
theorem pe_clsm{pl:Sem Bool}(M:CMeth X.K C m f)(F:FnOk X.prog X.w X.K X.mg X.base CX k f fd ps sp)(l:Room k X.A)(i:Gl X x)(j:X.mg x=some (.ref C))(hb:Binds X.K fd ps [])(o:qad CX X E)(g:PA X (e::es) t)
  (a:(x==("__debug__":Str))=false:=by decide) (c:starEach (e::es) X.env=(false,eval e X.env)::starEach es X.env:=by rfl) (b:(backTo pos (starEach es X.env)).any (·.1)=false:=by rfl)
  (n:eval (.Call (.Attribute (.Name x p) m apos) (e::es) [] pos) X.env=(do
   let ov <- eval (.Name x p) X.env
   standAt apos.atName
   let (f,first) <- holding [ov] (getMethod ov m pl)
   callWith pos f first (backTo pos (starEach (e::es) X.env)) (backToKw pos (keywordEach [] X.env))):=by rfl) :
  PE X (.Call (.Attribute (.Name x p) m apos) (e::es) [] pos) (qeN sp [] E t):=by
 intro pins s σ H Q I h;show Xs (pl:=pl) (qab I i j ?_ a) n;show PySem.W.method_cls I.kIn M.ga (PySem.W.cls_value I.kIn M.rd M.at_ rfl ?_);show xK (first:=[]) (h₀:=X.base) I.ok.mod.kin M.kp (thn (g pos pins _ σ H _ (I.tok (s.toks+1)) h) λus v ⟨vs,u,d,r,q⟩=>⟨d.kIn,?_⟩) c b;show qdT F l hb .nil o d r q
end
def qfU(K:yg)(t:TA):TE:=fun σ H Q=>t σ H λvs b=>∃ a C y,vs=[.ref a,y]/\b a=some (XN a C none)/\XAt K C/\Q .non b
theorem ve_type:PySem.W.Looks M h (typeOf (.type "ValueError")) (.type "type"):=PySem.W.Looks.of_pure (by kernel_rfl)
theorem ve_opaque:PySem.W.Looks M h (opaqueClassAbove (.type "ValueError")) none:=PySem.W.Looks.of_pure (by kernel_rfl)
structure VInit(K:yg):Prop where
 ga:PySem.W.findIn K (.type "type") "__getattribute__"=some (some (.builtin "type.__getattribute__"))
 su:PySem.W.subIn K (.type "type") (.type "type")=some true
 at_:PySem.W.findCls K (.type "ValueError") (.type "type") "__init__"=some (.val (.builtin "ValueError.__init__"))
section
variable{X:Cx}{p pos apos:Pos}{e:Expr}{es:List Expr}{t:TA}{K:yg}
theorem k_vinit{pl:Sem Bool}(E:X.K=K)(V:VInit K)(G:Gl X "ValueError")(L:X.mg "ValueError"=none)(hv:bootBuiltins "ValueError"=some (.type "ValueError"))(F:PA X (e::es) t)
  (l:starEach (e::es) X.env=(false,eval e X.env)::starEach es X.env:=by rfl) (j:(backTo pos (starEach es X.env)).any (·.1)=false:=by rfl)
  (M:eval (.Call (.Attribute (.Name "ValueError" p) "__init__" apos) (e::es) [] pos) X.env=(do
   let ov <- eval (.Name "ValueError" p) X.env
   standAt apos.atName
   let (f,first) <- holding [ov] (getMethod ov "__init__" pl)
   callWith pos f first (backTo pos (starEach (e::es) X.env)) (backToKw pos (keywordEach [] X.env))):=by rfl) :
  PE X (.Call (.Attribute (.Name "ValueError" p) "__init__" apos) (e::es) [] pos) (qfU K t):=by
 subst E;intro pins s σ H Q I h;show Xs (pl:=pl) (qbJ I G L hv ?_) M
 have i:∀{d:Value×List Value->Shared->Prop},d (.builtin "ValueError.__init__",[]) { s with toks:=s.toks+1 }->wpAny (model X.prog X.w) X.A (getMethod (.type "ValueError") "__init__" pl) d X.xe s:=λ{d} q=>by
  unfold getMethod;show yr ((ve_type.andThen (YQ I.kIn V.ga)).here ?_);dsimp only;rw[yH PySem.W.canon_tga];show yr (PySem.W.cls_open (hook:=none) I.kIn ve_opaque ve_type V.ga (PySem.W.Looks.now) V.su V.at_ (yE ?_));show wpAny _ _ (handedOut _) _ _ _;show PySem.W.handed_on rfl (yE q)
 show i ?_;have r:=F pos pins _ σ H _ (I.tok (s.toks+1)) h;rw[l] at r ⊢;show xF (by show(false||(backTo pos (starEach es X.env)).any (·.1))=false;rw[j]<;>rfl) (Xy ?_);show thn r λus z ⟨vs,m,b,O,a,C,y,B,g,c,q⟩=>?_;subst B;obtain⟨u,v,rfl,P,S⟩:=qfC O;cases P;obtain⟨⟨a0,N⟩,_⟩:=(show ObjOk X.prog X.w m z.heap a (XN a C none) from b.hok a _ g);show xbase_init b.kIn N c λh' R n D=>?_;have J:=b.write (x:=a) (e:=a) (o:=XN a C none) (t':=z.toks) (by rw[g];show YR) (.inl rfl) D ⟨_,n⟩ (XN.ok n);rw[upd_id g] at J;show⟨.non,m,J,rfl,q⟩
end
structure Keep(fs zs:LI)(h h':Heap):Prop where
 keep:∀ b o,h.get? b=some o->b∉zs->b∉fs->h'.get? b=some o
 slot:∀ b o,h.get? b=some o->b∉zs->b∈fs->∃ sl,h'.get? b=some { o with slots:=sl }
structure Trc(h:Heap)(e:Addr)(C:Value)(dx:Option Addr)(T:Addr)(fl:Value):Prop where
 ex:∃ vs,h.get? e=some ⟨C,dx,.fields vs,#[]⟩/\vs[1]?=some (.ref T)/\vs[2]?=some .none
 tb:∃ ts,h.get? T=some ⟨.type "traceback",none,.fields ts,#[]⟩/\ts[3]?=some fl
 ne:T≠e
section
variable{M:Model}{A:Around}{E:Value->Shared->Prop}{s:Shared}{base:Heap}{env:Env}{outer:List Env}{L e:Addr}{C:Value}{dx:Option Addr}{vs:Array Value}
theorem qfV{d:Value}{p:Bool}{Q:Unit->Shared->Prop}(r:A.frames=some (env::outer))(hl:s.heap.FunFrames base (env::outer))(F:env.frame=some L)(w:s.heap.get? e=some ⟨C,dx,.fields vs,#[]⟩)(hsz:1<vs.size)(B:vs[2]?=some .none)
  (h:∀ h' T,s.heap.objs.size<=T->Trc h' e C dx T (rawInt L)->Keep (frs (env::outer)) [e] s.heap h'->Q () { s with heap:=h' }) :
  wpAny M A (do let a <- frameOf env;let pl <- entryPlaceOf L p;let b <- EntryCells.newEntry d a .none (rawInt L) .none pl;setField (.ref e) 1 b) Q E s:=by
 have l:e∉frs (env::outer):=λG=>by
  obtain⟨_,o,y,t⟩:=hl.mem G;rw[w] at y;cases y;show t vs rfl
 show yr (wpAny_frameOf_fun r hl F λc n=>yr (wpAny_entryPlaceOf λpl m=>?_));unfold EntryCells.newEntry newFields;show yr (xX ?_ (m.sizeOk5 _ _ _ _ _));have i:c.get? e=some ⟨C,dx,.fields vs,#[]⟩:=(n.2.1 e l).trans w;generalize u:([d,.ref L,.none,rawInt L,.none]++(if pl.isEmpty then List.replicate 6 Value.none else pl)).toArray=v;have D:v[3]?=some (rawInt L):=by rw[<- u];first | (simp;done) | (rcases m with rfl | ⟨_,_,_,_,_,_,_,rfl⟩<;>simp)
 have j:=yw (h:=c) { cls:=.type "traceback",dict:=none,data:=.fields v } i;have g:c.objs.size≠e:=Xm (yU i);show wpAny_setField j rfl hsz (h _ c.objs.size (kg n.1.symm) ⟨⟨vs.setIfInBounds 1 (.ref c.objs.size),?_,by simp[hsz],by rw[Array.getElem?_setIfInBounds_ne (by decide)];show B⟩,⟨v,?_,D⟩,g⟩ ⟨λb o q hb x=>?_,λb o q hb x=>?_⟩)
 .rw [xQ _ j rfl];rfl
 .rw [YC _ _ (YI g)];show Ye c rfl
 .have f:b≠e:=λz=>hb (by simp[z]);rw[YC _ _ (YI f)];show yw _ ((n.2.1 b x).trans q)
 .have f:b≠e:=λz=>hb (by simp[z]);obtain⟨H,z⟩:=n.2.2 b o q;show⟨H,by rw[YC _ _ (YI f)];show yw _ z⟩
theorem qc6{Q:Unit->Shared->Prop}(a:A.frames=some (env::outer))(hl:s.heap.FunFrames base (env::outer))(c:env.frame=some L)(b:s.heap.get? e=some ⟨C,dx,.fields vs,#[]⟩)(h1:vs[1]?=some .none)(d:vs[2]?=some .none)
  (h:∀ h' T,s.heap.objs.size<=T->Trc h' e C dx T (rawInt L)->Keep (frs (env::outer)) [e] s.heap h'->Q () { s with heap:=h' }):wpAny M A (noteFrame (.ref e) env) Q E s:=by
 unfold noteFrame;simp only[c];show yr (XZ b rfl h1 ?_);rw[yD (by decide)];show qfV a hl c b (xO.mp h1).1 d h
theorem qd6{T:Addr}{Q:Unit->Shared->Prop}(f:A.frames=some (env::outer))(hl:s.heap.FunFrames base (env::outer))(p:env.frame=some L)(t:Trc s.heap e C dx T .none)
  (h:∀ h' c,s.heap.objs.size<=c->Trc h' e C dx c (rawInt L)->Keep (frs (env::outer)) [e,T] s.heap h'->Q () { s with heap:=h' }):wpAny M A (noteFrame (.ref e) env) Q E s:=by
 obtain⟨⟨vs,n,h1,r⟩,⟨v,d,m⟩,i⟩:=t;unfold noteFrame;simp only[p];show yr (XZ n rfl h1 ?_);rw[yH (show(Value.ref T != Value.none)=true from by simp)];show yr (XZ d rfl m ?_);rw[yD (show ¬ ((Value.none==rawInt L)=true) from by simp[rawInt])];show yr (wpAny_setField d rfl (xO.mp m).1 ?_);have a:∀ b,b≠T->(s.heap.update T (Obj.mapFields (·.setIfInBounds 3 Value.none))).get? b=s.heap.get? b:=λb hb=>YC _ _ (YI hb);have l:(s.heap.update T (Obj.mapFields (·.setIfInBounds 3 Value.none))).objs.size=s.heap.objs.size:=Heap.size_after_update ..;show qfV (s:={ s with heap:=s.heap.update T (Obj.mapFields (·.setIfInBounds 3 Value.none)) }) f (hl.of_keeps λb o hb j=>?_) p ((a e (YI i)).trans n) (xO.mp h1).1 r λh' c u t' k=>?_
 .have nb:b≠T:=λq=>by rw[q,d] at hb;cases hb;show j v rfl
  show⟨o,(a b nb).trans hb,rfl⟩
 .show h h' c (by rw[<- l];show u) t' ⟨λb o q hb g=>?_,λb o q hb g=>?_⟩
  .have nb:b≠T:=λz=>hb (by simp[z]);show k.keep b o ((a b nb).trans q) (λz=>hb (by simp only[yC] at z;simp[z])) g
  .have nb:b≠T:=λz=>hb (by simp[z]);show k.slot b o ((a b nb).trans q) (λz=>hb (by simp only[yC] at z;simp[z])) g
theorem qbU{T:Addr}{Q:Unit->Shared->Prop}(t:Trc s.heap e C dx T fl)(h:∀ h',Trc h' e C dx T .none->(∀ b o,b≠T->s.heap.get? b=some o->h'.get? b=some o)->h'.objs.size=s.heap.objs.size->Q () { s with heap:=h' }) :
  wpAny M A (setFlight (.ref e) none) Q E s:=by
 obtain⟨⟨vs,f,h1,i⟩,⟨g,d,j⟩,c⟩:=t;have a:3<g.size:=(xO.mp j).1;unfold setFlight;show yr (XZ f rfl h1 ?_);rw[yH (show(Value.ref T != Value.none)=true from by simp)];show wpAny_setField d rfl a (h _ ⟨⟨vs,?_,h1,i⟩,⟨g.setIfInBounds 3 .none,?_,by simp[a]⟩,c⟩ (λb o hb q=>?_) (Heap.size_after_update ..))
 .rw [YC _ _ c];show f
 .rw [xQ _ d rfl];rfl
 .rw [YC _ _ (YI hb)];show q
end
def CX1(P:Program)(w:World):CXT:=λb H s E c s'=>∃(a C:Addr) (dx:Option Addr) (T:Addr) (H':Hp),c=.ref a/\s'.os=s.os/\AllBare s'.gens/\Un (frs b) [] H H' s.heap s'.heap/\HOk P w H' s'.heap /\
 H' a=some (XO a C dx)/\Trc s'.heap a (.ref C) dx T .none/\s.heap.objs.size<=T/\H' T=none/\E (.ref C) dx H'
section
variable{X:Cx}{pins:List (Addr×Obj)}{σ:St}{H:Hp}{s:Shared}
theorem qct{T:Addr}(I:Inv X pins σ H s)(f:H a=some (XO a C dx))(k:Keep (frs X.stack) zs s.heap h')(g:∀ b∈zs,b=a\/H b=none)(t:Trc h' a (.ref C) dx T fl):HOk X.prog X.w H h':=λb u e=>by
 by_cases hb:b=a
 .subst hb;rw[f] at e;cases e;obtain⟨vs,q,_⟩:=t.ex;show XO.ok q
 .have d:∀ c o,H c=some o->c≠a->c∉zs/\c∉frs X.stack:=λc o q n=>⟨λz=>(g c z).elim n λy=>(by rw[y] at q;cases q),λz=>(by have y:=I.stkFree c z;rw[y] at q;cases q)⟩;show(I.hok b u e).stay (λc v hc r=>?_) (λ_ q=>q) λ_ _ q=>q;rcases hc with rfl | hc
  .show k.keep c v r (d c _ e hb).1 (d c _ e hb).2
  .have n:c≠a:=λz=>by rw[z,f] at hc;cases hc
   show k.keep c v r (d c _ hc n).1 (d c _ hc n).2
theorem qfW{T:Addr}(I:Inv X pins σ H s)(h:X.ex=[])(r:H a=some (XO a C dx))(k:Keep (frs X.stack) zs s.heap h')(u:∀ b∈zs,b=a\/X.s₀.heap.objs.size<=b)(t:Trc h' a (.ref C) dx T fl) :
  Un X.fs [] X.H₀ H X.s₀.heap h':=by
 have B:=I.base;rw[h] at B;have i:∀ b o,X.s₀.heap.get? b=some o->b≠X.env.locals:=λb o e=>Yl (yj (yU e) I.ok.above);have l:∀ b o,X.s₀.heap.get? b=some o->b≠a->b∉zs:=λb o e n z=>(u b z).elim n λy=>absurd (yj (yU e) y) (YF _);have p:∀ b,H b=none->b≠a:=λb n z=>by rw[z,r] at n;cases n
 have j:∀ b o,X.s₀.heap.get? b=some o->b∉X.fs->b∉frs X.stack:=λb o e n z=>(yv.mp (I.stkSub b z)).elim (i b o e) n;show⟨λb o e n hb c=>?_,λb o e n hb c=>?_,B.free,λb o e c=>?_,B.tups,B.frzs,B.tbls⟩
 .show k.keep b o (B.keep b o e n hb c) (l b o e (p b (B.free b o e n c))) (j b o e hb)
 .obtain⟨w,q⟩:=B.slot b o e n hb c;have g:=l b o e (p b (B.free b o e n c));by_cases d:b∈frs X.stack
  .obtain⟨f,m⟩:=k.slot b _ q g d;show⟨f,m⟩
  .show⟨w,k.keep b _ q g d⟩
 .obtain⟨v,q⟩:=B.there b o e c;by_cases hb:b=a
  .subst hb;obtain⟨vs,z,_⟩:=t.ex;show⟨_,z⟩
  .have g:=l b o e hb;by_cases d:b∈frs X.stack
   .obtain⟨f,m⟩:=k.slot b _ q g d;show⟨_,m⟩
   .show⟨v,k.keep b _ q g d⟩
end
structure XOk(X:Cx)(EK:St->XK):Prop where
 pass:∀(pins:List (Addr×Obj)) (σ:St) (H:Hp) (s:Shared) (e:Value) (s':Shared),Inv X pins σ H s->CX1 X.prog X.w X.stack H s (EK σ) e s'->X.xe e s'
 rais:∀(pins:List (Addr×Obj)) (σ:St) (H:Hp) (s:Shared) (a C:Addr) (dx:Option Addr),Inv X pins σ H s->H a=some (XN a C dx)->EK σ (.ref C) dx (upd H a (XO a C dx))->X.xe (.ref a) s
 calm:X.calm=true
section
variable{P:Program}{w:World}{K:yg}{mg:Str->Option Value}{base:Heap}{N:LS}{qual:Str}{scope:Scope}{f:Addr}{cd:Value}{A:Around}{outer:List Env}{s0:Shared}{H0:Hp}{E:XK}
theorem qbV:XOk (qfN (CX1 P w) P w K mg base N qual scope f cd A outer s0 H0 E) λ_=>E where
 calm:=rfl
 pass:=by
  intro pins σ H s O s' I m;obtain⟨a,C,dx,T,H',rfl,D,l,un,B,g,t,M,v,q⟩:=m;have J:=I.call' (s':=s') (H':=H') (ch:=[]) D un B l (λb z=>absurd z (by simp));show wpAny _ _ (leaving _ _) _ _ _;unfold leaving;show yr (qd6 (base:=base) J.ok.frames J.stack rfl t λh' d h t' k=>?_);show qbU (s:={ s' with heap:=h' }) t' λu i p L=>?_;have F:s0.heap.objs.size<=s.heap.objs.size:=I.sz;have j:=J.sz
  have r:Keep (frs (envOfC qual scope s0.heap.objs.size f cd::outer)) [a,T,d] s'.heap u:=by
   show⟨λb o e z n=>?_,λb o e z n=>?_⟩
   .simp only[yv,yQ,Yw,Ky] at z;show p b o z.2.2 (k.keep b o e (by simp[z.1,z.2.1]) n)
   .simp only[yv,yQ,Yw,Ky] at z;obtain⟨G,y⟩:=k.slot b o e (by simp[z.1,z.2.1]) n;show⟨G,p b _ z.2.2 y⟩
  have c:H' d=none:=J.hok.fresh h;show⟨a,C,dx,d,H',rfl,J.os,l,qfW J rfl g r (λb hb=>?_) i,qct J g r (λb hb=>?_) i,g,i,yi j h,c,q⟩
  .simp only[yv,yQ,Yw] at hb;rcases hb with rfl | rfl | rfl
   .show .inl rfl
   .show .inr (yi F M)
   .show .inr (yi j h)
  .simp only[yv,yQ,Yw] at hb;rcases hb with rfl | rfl | rfl
   .show .inl rfl
   .show .inr v
   .show .inr c
 rais:=by
  intro pins σ H s a C dx I e q;obtain⟨⟨a0,m⟩,_⟩:=(show ObjOk _ _ H s.heap a (XN a C dx) from I.hok a _ e);have J:Inv _ pins σ (upd H a (XO a C dx)) s:=I.write (x:=a) (e:=a) (o:=XO a C dx) (h':=s.heap) (t':=s.toks) (by rw[e];show YR) (.inl rfl) (λ_ _ _ q=>q) ⟨_,m⟩ (XO.ok m);show wpAny _ _ (leaving _ _) _ _ _;unfold leaving;show yr (qc6 (base:=base) J.ok.frames J.stack rfl m rfl rfl λh' d h t' k=>?_);show qbU (s:={ s with heap:=h' }) t' λu i p L=>?_;have j:=J.sz;have g:upd H a (XO a C dx) a=some (XO a C dx):=qb
  have r:Keep (frs (envOfC qual scope s0.heap.objs.size f cd::outer)) [a,d] s.heap u:=by
   show⟨λb o e z n=>?_,λb o e z n=>?_⟩
   .simp only[yv,yQ,Yw,Ky] at z;show p b o z.2 (k.keep b o e (by simp[z.1]) n)
   .simp only[yv,yQ,Yw,Ky] at z;obtain⟨G,y⟩:=k.slot b o e (by simp[z.1]) n;show⟨G,p b _ z.2 y⟩
  have c:upd H a (XO a C dx) d=none:=J.hok.fresh h;show⟨a,C,dx,d,_,rfl,J.os,J.bare,qfW J rfl g r (λb hb=>?_) i,qct J g r (λb hb=>?_) i,g,i,yi j h,c,q⟩
  .simp only[yv,yQ,Yw] at hb;rcases hb with rfl | rfl
   .show .inl rfl
   .show .inr (yi j h)
  .simp only[yv,yQ,Yw] at hb;rcases hb with rfl | rfl
   .show .inl rfl
   .show .inr c
end
def qfX(K:yg)(c:St->XK)(te:TE):TS:=λ_ σ H=>te σ H λx b=>∃ a C dx,x=.ref a/\b a=some (XN a C dx)/\XAt K C/\c σ (.ref C) dx (upd b a (XO a C dx))
section
variable{X:Cx}{EK:St->XK}{e:Expr}{te:TE}{pos:Pos}{K:yg}
theorem xraise{x:Sem Value}{Q:Flow->Shared->Prop}(p:A.handled=none)
  (h:wpAny M A x (λv b=>∃ a C dx a0,v=.ref a/\K.In b.heap/\XAt K C/\b.heap.get? a=some ⟨.ref C,dx,.fields (xfs a0),#[]⟩/\E (.ref a) b) E s):wpAny M A (raiseStmt env (some x) none) Q E s:=by
 unfold raiseStmt;show yr (YJ h (λv b h1=>?_) λ_ _ z=>z);obtain⟨a,C,dx,a0,rfl,f,c,o,n⟩:=h1;obtain⟨nm,I,N,bs,l,j,sn,r,t,m,u,y,B,D,F,G,i,q⟩:=qd3 f c.xc;have e:(Value.ref C::l).contains (.type "BaseException")=true:=by rw[Ys,qaS q (by simp),kN]
 obtain⟨w,g,d,tk,H⟩:=b
 repeat (first | with_reducible show YK o ?_ | with_reducible show YK i ?_ | (with_reducible show xB i ?_;rw[e]) | wp_step)
 show wpAny_raiseNew_none p n
theorem qe0(l:X.K=K)(f:XOk X EK)(m:PE X e te):PS X (.Raise (some e) none pos) (qfX K EK te):=by
 subst l;intro pins s σ H D I h;rw[arm_exec_Raise];show yr (XM (xraise (K:=X.K) (I.ok.hd f.calm) ?_));show yr (thn (m pins s σ H _ I h) λv i ⟨x,d,b,o,a,C,dx,j,g,c,q⟩=>yr (XM (yE ?_)));subst j;cases o;obtain⟨⟨a0,n⟩,_⟩:=(show ObjOk _ _ d i.heap a (XN a C dx) from b.hok a _ g);show⟨a,C,dx,a0,rfl,b.kIn,c,n,f.rais pins σ d i a C dx b g q⟩
end
def qfY(sp:Sp)(a:St->XK)(t:TA):TE:=fun σ H Q=>t σ H λvs b=>sp vs b Q (a σ)
def tMethS(C:Addr)(m:Str)(sp:Sp)(b:St->XK)(d:TE)(t:TA):TE:=fun σ H Q=>d σ H λx a=>MeR C m x a (t σ a λvs c=>sp (x::vs) c Q (b σ))
def tMakeS(C:Addr)(sp:Sp)(b:St->XK)(t:TA):TE:=fun σ H Q=>t σ H λvs a=>∀ x dx,a x=none->a dx=none->dx≠x ->
 sp (.ref x::vs) (upd (upd a dx (.own x)) x (.ins C dx [])) (λv c=>v=.non/\Q (.ref x) c) (b σ)
theorem FnOk.any{K:yg}{b:Str->Option Value}{base:Heap}{k:Nat}{CX:CXT}(F:FnOk P w K b base CX0 k f fd ps sp):FnOk P w K b base CX k f fd ps sp:=by
 show⟨F.len,λA a s H args us vs Q E d c hb hv g=>XF (F.run A a s H args us vs Q E d c hb hv g) λr s' q=>?_⟩
 cases r with
 | ok fl=>cases fl<;>show q
 | error e=>show q.elim
structure MethOk(P:Program)(w:World)(K:yg)(mg:Str->Option Value)(base:Heap)(CX:CXT)(k:Nat)(C:Addr)(m:Str)(ps:LS)(sp:Sp):Prop where
 ex:∃ f fd,FnOk P w K mg base CX k f fd ps sp/\Meth K C m f/\Binds K fd ps []
 cl:Cls K C
structure MakeOk(P:Program)(w:World)(K:yg)(mg:Str->Option Value)(base:Heap)(CX:CXT)(k:Nat)(C:Addr)(x:Str)(ps:LS)(sp:Sp):Prop where
 ex:∃ f fd,FnOk P w K mg base CX k f fd ps sp/\Mk K C f/\Binds K fd ps []
 mg_:mg x=some (.ref C)
structure XMakeOk(P:Program)(w:World)(K:yg)(mg:Str->Option Value)(base:Heap)(k:Nat)(C:Addr)(x:Str)(ps:LS)(sp:Sp):Prop where
 ex:∃ f fd,wqqb k f fd ps sp/\XMk K C f/\Binds K fd ps []
 mg_:mg x=some (.ref C)
section
variable{X:Cx}{EK:St->XK}{k:Nat}{f C:Addr}{fd:FuncData}{ps:LS}{sp:Sp}{x m:Str}{p pos apos:Pos}{e o:Expr}{es:List Expr}{ta:TE}{t:TA}
theorem run_fnS{Q:VK}{vs:List V}(F:FnOk X.prog X.w X.K X.mg X.base (CX1 X.prog X.w) k f fd ps sp)(d:Room k X.A)(hb:Binds X.K fd ps [])(c:XOk X EK)
  (I:Inv X pins σ H s) (r:Vals vs us) (h:sp vs H Q (EK σ)):wpAny (model X.prog X.w) X.A (call (.ref f) us) (EP X pins σ Q) X.xe s:=by
 have hl:(us++[]).length=ps.length:=by rw[Yg,<- r.length];show F.len _ _ _ _ h
 have b:=hb s us I.kIn hl;rw[Yg] at b;show Xn (XF (F.run X.A X.stack s H ⟨us,[]⟩ us vs Q (EK σ) d I.env0 b r h) λr s' a=>?_)
 cases r with
 | error e=>show c.pass pins σ H s e s' I a
 | ok fl =>
  cases fl with
  | ret u=>show I.after a
  | _=>show False.elim a
theorem qdt(D:DefOk X.prog X.w X.K X.mg X.base (CX1 X.prog X.w) k x ps sp)(n:Room k X.A)(d:XOk X EK)(g:PA X (e::es) t)(j:Gl X x:=by rfl)(a:(x==("__debug__":Str))=false:=by decide)
  (i:starEach (e::es) X.env=(false,eval e X.env)::starEach es X.env:=by rfl) (b:(backTo pos (starEach es X.env)).any (·.1)=false:=by rfl):PE X (.Call (.Name x p) (e::es) [] pos) (qfY sp EK t):=by
 obtain⟨f,fd,F,m,l,hb⟩:=D.ex;intro pins s σ H Q I h;show xJ (qab I j m ?_ a);show xK (h₀:=X.base) I.ok.mod.kin l (thn (g pos pins s σ H _ I h) λus u ⟨vs,o,c,r,q⟩=>⟨c.kIn,?_⟩) i b;show run_fnS F n hb d c r q
theorem qgI(D:XMakeOk X.prog X.w X.K X.mg X.base k C x ps sp)(h:Room (k+1) X.A)(c:PA X (e::es) t)(g:Gl X x:=by rfl)(a:(x==("__debug__":Str))=false:=by decide)
  (d:starEach (e::es) X.env=(false,eval e X.env)::starEach es X.env:=by rfl) (b:(backTo pos (starEach es X.env)).any (·.1)=false:=by rfl):PE X (.Call (.Name x p) (e::es) [] pos) (qeZ C sp E0 t):=by
 obtain⟨f,fd,F,M,hb⟩:=D.ex;show pe_xmake M F h g D.mg_ hb qy c a d b
theorem qX{pl:Sem Bool}(D:MethOk X.prog X.w X.K X.mg X.base CX0 k C m ps sp)(h:Room k X.A)(d:PE X o ta)(c:PA X (e::es) t)
  (b:starEach (e::es) X.env=(false,eval e X.env)::starEach es X.env:=by rfl) (a:(backTo pos (starEach es X.env)).any (·.1)=false:=by rfl)
  (i:eval (.Call (.Attribute o m apos) (e::es) [] pos) X.env=(do
   let ov <- eval o X.env
   standAt apos.atName
   let (f,first) <- holding [ov] (getMethod ov m pl)
   callWith pos f first (backTo pos (starEach (e::es) X.env)) (backToKw pos (keywordEach [] X.env))):=by rfl) :
  PE X (.Call (.Attribute o m apos) (e::es) [] pos) (qeO C m sp [] E0 ta t):=by
 obtain⟨f,fd,F,g,hb⟩:=D.ex;show pe_meth (pl:=pl) d D.cl g F h hb .nil qy c b a i
theorem qbW{pl:Sem Bool}(D:MethOk X.prog X.w X.K X.mg X.base CX0 k C m ps sp)(c:Room k X.A)(a:PE X o ta)
  (d:eval (.Call (.Attribute o m apos) [] [] pos) X.env=(do
   let ov <- eval o X.env
   standAt apos.atName
   let (f,first) <- holding [ov] (getMethod ov m pl)
   callWith pos f first (backTo pos (starEach [] X.env)) (backToKw pos (keywordEach [] X.env))):=by rfl) :
  PE X (.Call (.Attribute o m apos) [] [] pos) (qeO C m sp [] E0 ta qgW):=by
 obtain⟨f,fd,F,b,hb⟩:=D.ex;show pe_meth0 (pl:=pl) a D.cl b F c hb .nil qy d
end
section
variable{P:Program}{w:World}{K:yg}{mg:Str->Option Value}{base:Heap}
theorem Fun.ok1{st:Stmt}{k:Nat}(F:Fun K x qual st f fd)(S:FnScope N ps (qg st))(g:∀ vs H Q E,sp vs H Q E->vs.length=ps.length)
  (c:∀(b:Value) (A:Around) (a:List Env) (s:Shared) (H:Hp) (vs:List V) (Q:VK) (E:XK),Room k (A.deeper (envOfC qual (qg st) s.heap.objs.size f b))->sp vs H Q E ->
   ∃ t,PSs (qfN (CX1 P w) P w K mg base N qual (qg st) f b A a s H E) (zN st) t/\t { nx:=λ_ H'=>Q .non H',rt:=Q } (start N vs) H):FnOk P w K mg base (CX1 P w) (k+1) f fd ps sp:=by
 obtain⟨n,od,kV,h,o,m,b,ct,l,rfl,j,d⟩:=F.ex;show qgy j d S g λA a s H vs Q E i e=>c b A a s H vs Q E i e
end
abbrev Cx.tried(X:Cx)(pn:List (Addr×Obj))(E:Value->Shared->Prop):Cx:={ X with pn:=pn,xe:=E }
abbrev Cx.hand(X:Cx)(a:Addr):Cx:={ X with A:=X.A.mark (some (.ref a)),calm:=false,xe:=λ_ _=>False }
section
variable{X:Cx}{pins pins':List (Addr×Obj)}{σ:St}{H:Hp}{s:Shared}{E:Value->Shared->Prop}{a:Addr}
theorem Inv.tried(I:Inv X pins σ H s)(E:Value->Shared->Prop):Inv (X.tried (X.pn++pins) E) [] σ H s:=
 ⟨⟨I.ok.mod,I.ok.kind,I.ok.glob,I.ok.blt,I.ok.above,I.ok.inj,I.ok.has,I.ok.cab,I.ok.hd,I.ok.frames,I.ok.stk,I.ok.exf,I.ok.bs,I.ok.bsz,I.ok.noex,I.ok.exfs,I.ok.funs,I.ok.frf⟩,I.os,I.bare,I.base,I.loc,I.cell,I.free,I.freeC,
  λp a=>I.pin p (by have a:p∈(X.pn++pins)++[]:=a;rw[Yg] at a;show a),I.hok,I.len⟩
theorem Inv.untried(I:Inv (X.tried (X.pn++pins) E) pins' σ H s):Inv X pins σ H s:=
 ⟨⟨I.ok.mod,I.ok.kind,I.ok.glob,I.ok.blt,I.ok.above,I.ok.inj,I.ok.has,I.ok.cab,I.ok.hd,I.ok.frames,I.ok.stk,I.ok.exf,I.ok.bs,I.ok.bsz,I.ok.noex,I.ok.exfs,I.ok.funs,I.ok.frf⟩,I.os,I.bare,I.base,I.loc,I.cell,I.free,I.freeC,
  λp a=>I.pin p (Yd _ a),I.hok,I.len⟩
theorem Inv.hand(I:Inv X pins σ H s)(a:Addr):Inv (X.hand a) pins σ H s:=
 ⟨⟨I.ok.mod,I.ok.kind,I.ok.glob,I.ok.blt,I.ok.above,I.ok.inj,I.ok.has,I.ok.cab,(λh=>nomatch h),I.ok.frames,I.ok.stk,I.ok.exf,I.ok.bs,I.ok.bsz,I.ok.noex,I.ok.exfs,I.ok.funs,I.ok.frf⟩,I.os,I.bare,I.base,I.loc,I.cell,I.free,I.freeC,I.pin,I.hok,I.len⟩
theorem Inv.unhand(hc:X.calm=true->X.A.handled=none)(I:Inv (X.hand a) pins σ H s):Inv X pins σ H s:=
 ⟨⟨I.ok.mod,I.ok.kind,I.ok.glob,I.ok.blt,I.ok.above,I.ok.inj,I.ok.has,I.ok.cab,hc,I.ok.frames,I.ok.stk,I.ok.exf,I.ok.bs,I.ok.bsz,I.ok.noex,I.ok.exfs,I.ok.funs,I.ok.frf⟩,I.os,I.bare,I.base,I.loc,I.cell,I.free,I.freeC,I.pin,I.hok,I.len⟩
structure Loose(X:Cx)(pins:List (Addr×Obj))(H:Hp)(T:Addr):Prop where
 hn:H T=none
 lo:X.s₀.heap.objs.size<=T
 nl:T≠X.env.locals
 nf:T∉X.fs
 nc:∀ x c,X.env.cells.lookup x=some c->c≠T
 np:∀ p∈X.pn++pins,p.1≠T
theorem Inv.loose(I:Inv X pins σ H s){T:Addr}(a:s.heap.objs.size<=T)(hn:H' T=none):Loose X pins H' T where
 hn:=hn
 lo:=yi I.sz a
 nl:=Xm (yj I.lt a)
 nf:=I.nofs a
 nc:=λx c e=>by
  obtain⟨v,o,b,_⟩:=I.cell x c e;show Yl (yj (yU b) a)
 np:=λp d=>Yl (yj (yU (I.pin p d).1) a)
theorem Inv.noted{T:Addr}(I:Inv X pins σ H s)(f:H a=some (XO a C dx))(k:Keep (frs X.stack) zs s.heap h')(h:∀ b∈zs,b=a\/Loose X pins H b)(t:Trc h' a (.ref C) dx T fl) :
  Inv X pins σ H { s with heap:=h' }:=by
 have j:=qct I f k (λb hb=>(h b hb).imp (λe=>e) λl=>l.hn) t;have i:∀ b,H b=none->b∉zs.filter (λb=>decide (b≠a))->b∉zs:=λb n z y=>z (yp.mpr ⟨y,yz λe=>by rw[e,f] at n;cases n⟩);show I.call (g':=s.gens) (t':=s.toks) (d':=s.drawn) (ch:=zs.filter λb=>decide (b≠a)) ⟨λb o e n hb d=>k.keep b o e (i b n d) hb,λb o e n hb d=>k.slot b o e (i b n d) hb,λ_ _ _ n _=>n,λb o e d=>?_,λ_ _ e=>e,λ_ _ _ e=>e,
  λb ps e=>⟨#[],by rw[e];simp⟩⟩ j I.bare λb hb=>?_
 .by_cases c:b=a
  .subst c;obtain⟨vs,q,_⟩:=t.ex;show⟨_,q⟩
  .have z:b∉zs:=λy=>d (yp.mpr ⟨y,yz c⟩);by_cases g:b∈frs X.stack
   .obtain⟨m,q⟩:=k.slot b o e z g;show⟨_,q⟩
   .show⟨o,k.keep b o e z g⟩
 .obtain⟨y,q⟩:=yp.mp hb;rcases h b y with e | l
  .show absurd e (yk q)
  .show⟨.inr l.lo,l.nl,l.nc,l.np⟩
theorem unbind_ok{i:Nat}{Q:Unit->Shared->Prop}(I:Inv X pins σ H s)(J:X.N.Nodup)(B:X.N[i]?=some x)(f:X.env.scope.names.lookup x=some .local)(hv:σ[i]?=some (some v))
  (h:∀ s',Inv X pins (σ.set i none) H s'->Q () s'):wpAny M A (unbindName X.env x) Q E s:=by
 obtain⟨m,L,hl⟩:=id I.loc;obtain⟨u,ru,P⟩:=hl i x v B hv (.inl f)
 have K:m x=some u:=by
  rcases P with⟨_,e⟩ | ⟨k,_⟩
  .show e
  .have k':X.env.scope.names.lookup x=some .cell\/X.env.scope.names.lookup x=some .free:=k;rw[f] at k';rcases k' with z | z<;>cases z
 have r:(X.env.scope.kind==.class||(X.env.scope.kind==.module&&X.env.locals != X.env.globals))=false:=by rw[I.ok.kind];rfl
 show wpAny_unbindName_local f L K r λh' u' F g=>?_;have a:∀ b o,X.s₀.heap.get? b=some o->b≠X.env.locals:=λb o e=>Yl (yj (yU e) I.ok.above);show h _ ⟨I.ok,I.os,I.bare,⟨λb o e n hb f=>?_,λb o e n hb f=>?_,I.base.free,λb o e f=>?_,I.base.tups,I.base.frzs,I.base.tbls⟩,⟨_,F,λj y Z l t G=>?_⟩,λy c e=>?_,I.free,I.freeC,λp O=>?_,λb U e=>?_,by simpa using I.len⟩
 .show(g.2 b (a b o e)).trans (I.base.keep b o e n hb f)
 .obtain⟨Y,l⟩:=I.base.slot b o e n hb f;show⟨Y,(g.2 b (a b o e)).trans l⟩
 .obtain⟨T,l⟩:=I.base.there b o e f;show⟨T,(g.2 b (a b o e)).trans l⟩
 .by_cases C:j=i
  .subst C;have D:j<σ.length:=by rw[I.len];show(yc.mp B).1
   rw[Xl D] at t;cases t
  .rw [Xx (YI C)] at t;obtain⟨w,W,q⟩:=hl j y Z l t G;show⟨w,W,?_⟩;rcases q with⟨k,e⟩ | ⟨k,c,e,z⟩
   .have S:y≠x:=λe=>C (qcm J l (e ▸ B));show .inl ⟨k,by simp[S,e]⟩
   .show .inr ⟨k,c,e,z.sameBut g (I.cne y c e)⟩
 .obtain⟨w,z⟩:=I.cell y c e;show⟨w,z.sameBut g (I.cne y c e)⟩
 .obtain⟨e,n,ne,R,d⟩:=I.pin p O;show⟨(g.2 p.1 ne).trans e,n,ne,R,d⟩
 .show(I.hok b U e).stay (λc w hc q=>(g.2 c ?_).trans q) (λ_ q=>q) λ_ _ q=>q;rintro rfl;rcases hc with rfl | hc
  .rw [I.free] at e;cases e
  .rw [I.free] at hc;cases hc
end
structure Held(X:Cx)(pins:List (Addr×Obj))(H:Hp)(h:Heap)(a C:Addr)(dx:Option Addr):Prop where
 at_:H a=some (XO a C dx)
 tr:∃ T,Trc h a (.ref C) dx T .none/\Loose X pins H T
def PH(X:Cx)(a C:Addr)(dx:Option Addr)(b:List ExceptHandler)(th:TS):Prop:=
 ∀(pins:List (Addr×Obj)) (s:Shared) (σ:St) (H:Hp) (D:Ends),Inv X pins σ H s->Held X pins H s.heap a C dx->th D σ H->wpAny (model X.prog X.w) X.A (handleBy (.ref a) X.env b) (SP X pins D) X.xe s
def thNil:TS:=λ_ _ _=>False
def thAs(K:yg)(a C D:Addr)(i:Nat)(d rest:TS):TS:=λZ σ H=>∃ b,PySem.W.mroIn K C (.ref D)=some b/\XAt K D/\XAt K C /\
 if b=true then d { nx:=λc H'=>Z.nx (c.set i none) H',rt:=Z.rt,bk:=λc H'=>Z.bk (c.set i none) H',ct:=λc H'=>Z.ct (c.set i none) H' } (σ.set i (some (.ref a))) H else rest Z σ H
def thNo(K:yg)(C D:Addr)(a rest:TS):TS:=λZ σ H=>∃ b,PySem.W.mroIn K C (.ref D)=some b/\XAt K D/\XAt K C/\if b=true then a Z σ H else rest Z σ H
theorem qfZ{K:yg}{o:Obj}{Q:Bool->Shared->Prop}(X:K.In s.heap)(m:s.heap.get? a=some o)(hc:o.cls=.ref C)(d:XAt K D)(hb:PySem.W.mroIn K C (.ref D)=some b)(q:Q b s) :
  wpAny M A (excMatches (.ref a) (.ref D)) Q E s:=by
 obtain⟨nm,F,N,bs,i,h,sn,n,p,j,r,v,w,x,y,z,e,l⟩:=qd3 X d.xc;have c:(Value.ref D::i).contains (.type "BaseException")=true:=by rw[Ys,qaS l (by simp),kN]
 have f:=tc_notTuple;have L:=xA (M:=M) X hb;obtain⟨u,g,t,tk,B⟩:=s;unfold excMatches
 repeat (first | with_reducible show YK e ?_ | (with_reducible show YK m ?_;rw[hc]) | (with_reducible show xB e ?_;rw[c]) | with_reducible show L.at ?_ | wp_step)
 cases b<;>(wp_walk;show q)
section
variable{X:Cx}{a C D:Addr}{dx:Option Addr}{c n:Str}{cp pos:Pos}{b0:Stmt}{body:List Stmt}{rest:List ExceptHandler}{tb tr:TS}{i:Nat}{K:yg}
theorem ph_nil:PH X a C dx [] thNil:=λ_ _ _ _ _ _ _ h=>h.elim
theorem suite_as{R:Result->Shared->Prop}{e:Value}
  (h:wpAny (model prog w) A (setFlight e none) (λ_ a=>wpAny (model prog w) A (bindName env n e) (λ_ b=>wpAny (model prog w) A (execs (b0::body) env) (λf c=>R (.ok f) c) (λ_ _=>False) b) (λ_ _=>False) a) (λ_ _=>False) s) :
  codeAny (model prog w) A (.handlers e [.ExceptHandler none (some n) (b0::body) pos] env) R s:=by
 show codeAny_of_tree ?_;show wpAny _ A (do return Fin.done (<- (handleWith e env [.ExceptHandler none (some n) (b0::body) pos]).onRaise (λx=>do noteFrame x env;theTreesLotGoes x))) _ _ s;show yr (wpAny_noted ?_);unfold handleWith;show yr (XM (yr (YJ h (λ_ a h1=>yr (YJ h1 (λ_ b d=>yr (wpAny_attempt (YJ d (λf c g=>yE (yE g)) λ_ _ z=>z.elim))) λ_ _ z=>z.elim)) λ_ _ z=>z.elim)))
theorem qgJ(W:X.K=K)(y:X.N.Nodup)(x:X.N[i]?=some n)(m:X.env.scope.names.lookup n=some .local)(hg:Gl X c)(hm:X.mg c=some (.ref D))(hb:PSs (X.hand a) (b0::body) tb)(hr:PH X a C dx rest tr)
  (E:(c==("__debug__":Str))=false:=by decide):PH X a C dx (.ExceptHandler (some (.Name c cp)) (some n) (b0::body) pos::rest) (thAs K a C D i tb tr):=by
 subst W;intro pins s σ H Z I hl h;obtain⟨b,B,xd,xc,q⟩:=h;obtain⟨vs,Y⟩:=(show IsX H a C dx from .inr hl.at_).get I.hok;show wpAny_handleBy_cons (codeAny_handlers_test ?_) (by intro q;cases q);have U:=I.hand a;show qab (X:=X.hand a) U hg hm (qfZ I.kIn Y rfl xd B ?_) E
 cases b with
 | false=>show hr pins s σ H Z I hl q
 | true =>
  obtain⟨T,t,lo⟩:=hl.tr;show suite_as (qbU t λh1 t1 M aa=>?_);have kk:Keep (frs X.stack) [T] s.heap h1:=⟨λb o e z _=>M b o (by simpa using z) e,λb o e z _=>⟨o.slots,M b o (by simpa using z) e⟩⟩;have P:=I.noted hl.at_ kk (λb hb=>.inr (by rw[yC.mp hb];show lo)) t1;have R:=P.hand a;show wpAny_bindName (qbs (X:=X.hand a) R y x (.inl m) (v:=.ref a) rfl (λs2 S=>?_) (.inr m));have q':tb { nx:=λd H'=>Z.nx (d.set i none) H',rt:=Z.rt,bk:=λd H'=>Z.bk (d.set i none) H',ct:=λd H'=>Z.ct (d.set i none) H' } (σ.set i (some (.ref a))) H:=q;show thn (hb pins s2 _ H _ S q') λf O p=>?_
  have j:∀{d:St} {H':Hp} {Q:Unit->Shared->Prop},Inv (X.hand a) pins d H' O->(∀ l,Inv X pins (d.set i none) H' l->Q () l)->wpAny (model X.prog X.w) X.A (do bindName X.env n .none;unbindBehindTheSuite X.env n pos) Q X.xe O:=λ{d H' Q} J k=>by
   have G:=Inv.unhand I.ok.hd J;have F:i<d.length:=by rw[G.len];show(yc.mp x).1
   show yr (wpAny_bindName (qbs G y x (.inl m) (v:=.non) rfl (λl g=>?_) (.inr m)));show wpAny_onRaise (unbind_ok g y x m (v:=.non) (by rw[Xl F]) λs5 L=>k s5 ?_);rw[List.set_set] at L;show L
  cases f with
  | next=>obtain⟨d,H',J,z⟩:=p;show j J λl g=>⟨_,H',g,z⟩
  | brk=>obtain⟨d,H',J,z⟩:=p;show j J λl g=>⟨_,H',g,z⟩
  | cont=>obtain⟨d,H',J,z⟩:=p;show j J λl g=>⟨_,H',g,z⟩
  | ret u=>obtain⟨v,d,H',J,r,z⟩:=p;show j J λl g=>⟨v,_,H',g,r,z⟩
theorem ph_no(n:X.K=K)(w:Gl X c)(x:X.mg c=some (.ref D))(hb:PSs (X.hand a) (b0::body) tb)(y:PH X a C dx rest tr)(j:(c==("__debug__":Str))=false:=by decide) :
  PH X a C dx (.ExceptHandler (some (.Name c cp)) none (b0::body) pos::rest) (thNo K C D tb tr):=by
 subst n;intro pins s σ H Z I hl h;obtain⟨b,i,xd,L,q⟩:=h;obtain⟨vs,p⟩:=(show IsX H a C dx from .inr hl.at_).get I.hok;show wpAny_handleBy_cons (codeAny_handlers_test ?_) (by intro q;cases q);show qab (X:=X.hand a) (I.hand a) w x (qfZ I.kIn p rfl xd i ?_) j
 cases b with
 | false=>show y pins s σ H Z I hl q
 | true =>
  obtain⟨T,t,lo⟩:=hl.tr;show codeAny_handlers_suite (qbU t λh1 F l E=>?_);have A:Keep (frs X.stack) [T] s.heap h1:=⟨λb o e z _=>l b o (by simpa using z) e,λb o e z _=>⟨o.slots,l b o (by simpa using z) e⟩⟩;have m:=I.noted hl.at_ A (λb hb=>.inr (by rw[yC.mp hb];show lo)) F;have B:tb Z σ H:=q;show YJ (hb pins _ σ H Z (m.hand a) B) (λf G g=>?_) λ_ _ z=>z.elim
  cases f with
  | next=>obtain⟨d,H',J,z⟩:=g;show⟨d,H',Inv.unhand I.ok.hd J,z⟩
  | brk=>obtain⟨d,H',J,z⟩:=g;show⟨d,H',Inv.unhand I.ok.hd J,z⟩
  | cont=>obtain⟨d,H',J,z⟩:=g;show⟨d,H',Inv.unhand I.ok.hd J,z⟩
  | ret u=>obtain⟨v,d,H',J,r,z⟩:=g;show⟨v,d,H',Inv.unhand I.ok.hd J,r,z⟩
end
def tTry(X:Cx)(b:List Stmt)(f:List ExceptHandler)(te:TS):TS:=λD σ H=>∃(d:St->XK) (e:TS),(∀ pn xe,XOk (X.tried pn xe) d->PSs (X.tried pn xe) b e) /\
 e { nx:=te D,rt:=D.rt,bk:=D.bk,ct:=D.ct } σ H/\∀(a C:Addr) (dx:Option Addr) (c:St) (H':Hp),d c (.ref C) dx H'->H' a=some (XO a C dx)->∃ th,PH X a C dx f th/\th D c H'
section
variable{X:Cx}{body orelse:List Stmt}{h0:ExceptHandler}{hs:List ExceptHandler}{pos:Pos}{te:TS}
theorem ps_try(hc:X.calm=true)(j:X.stack=X.env::X.outer)(y:X.env.frame=some X.env.locals)(ho:PSs X orelse te):PS X (.Try body (h0::hs) orelse [] pos) (tTry X body (h0::hs) te):=by
 intro pins s σ H D I h;obtain⟨R,tb,hb,q,hh⟩:=h;have E:X.A.frames=some (X.env::X.outer):=by rw[<- j];show I.ok.frames
 let m:Value->Shared->Prop:=λe d=>∃(a C:Addr) (dx:Option Addr) (c:St) (H':Hp),e=.ref a/\Inv X pins c H' d/\H' a=some (XO a C dx)/\R c (.ref C) dx H' /\
  ((∃ T,Trc d.heap a (.ref C) dx T .none/\Loose X pins H' T)\/∃ a0,d.heap.get? a=some ⟨.ref C,dx,.fields (xfs a0),#[]⟩)
 have Y:XOk (X.tried (X.pn++pins) m) R:=by
  show⟨λpins' c L d e s2 J l=>?_,λpins' c L d a C dx J e z=>?_,hc⟩
  .obtain⟨a,C,dx,T,H',rfl,P,N,un,O,n,t,hT,M,z⟩:=l;have p:=J.call' (s':=s2) (H':=H') (ch:=[]) P un O N (λb z=>absurd z (by simp));have G:=Inv.untried J;show⟨a,C,dx,c,H',rfl,Inv.untried p,n,z,.inl ⟨T,t,G.loose hT M⟩⟩
  .have G:=Inv.untried J;obtain⟨⟨a0,l⟩,_⟩:=(show ObjOk _ _ L d.heap a (XN a C dx) from G.hok a _ e);have p:Inv X pins c (upd L a (XO a C dx)) d:=G.write (x:=a) (e:=a) (o:=XO a C dx) (h':=d.heap) (t':=d.toks) (by rw[e];show YR) (.inl rfl) (λ_ _ _ q=>q) ⟨_,l⟩ (XO.ok l);show⟨a,C,dx,c,_,rfl,p,qb,z,.inr ⟨a0,l⟩⟩
 have B:=hb (X.pn++pins) m Y [] s σ H _ (I.tried m) q;show wpAny_Try_except (YJ B (λf d K=>?_) λe d he=>?_)
 .cases f with
  | next=>obtain⟨c,H',J,z⟩:=K;show ho pins d c H' D (Inv.untried J) z
  | brk=>obtain⟨c,H',J,z⟩:=K;show⟨c,H',Inv.untried J,z⟩
  | cont=>obtain⟨c,H',J,z⟩:=K;show⟨c,H',Inv.untried J,z⟩
  | ret u=>obtain⟨v,c,H',J,r,z⟩:=K;show⟨v,c,H',Inv.untried J,r,z⟩
 .obtain⟨a,C,dx,c,H',rfl,J,n,z,tt⟩:=he;obtain⟨th,hp,hq⟩:=hh a C dx c H' z n;have F:d.heap.FunFrames X.base (X.env::X.outer):=by rw[<- j];show J.stack
  have go:∀(h':Heap) (i:Addr) (zs:LI),d.heap.objs.size<=i->Trc h' a (.ref C) dx i (rawInt X.env.locals)->Keep (frs (X.env::X.outer)) zs d.heap h'->(∀ b∈zs,b=a\/Loose X pins H' b) ->
    wpAny (model X.prog X.w) X.A (setFlight (.ref a) none) (λ_ s3=>wpAny (model X.prog X.w) X.A (handleBy (.ref a) X.env (h0::hs)) (SP X pins D) X.xe s3) X.xe { d with heap:=h' }:=λh' i zs g t' k hz=>by
   have lo:=J.loose g (J.hok.fresh g);have p:=J.noted n (by rw[j];show k) hz t';show qbU (s:={ d with heap:=h' }) t' λZ U S aa=>?_;have kk:Keep (frs X.stack) [i] h' Z:=⟨λb o e z _=>S b o (by simpa using z) e,λb o e z _=>⟨o.slots,S b o (by simpa using z) e⟩⟩;have W:=p.noted n kk (λb hb=>.inr (by rw[yC.mp hb];show lo)) U;show hp pins _ c H' D W ⟨n,i,U,lo⟩ hq
  rcases tt with⟨T,t,lo⟩ | ⟨a0,l⟩
  .show qd6 (base:=X.base) E F y t λh' i g t' k=>go h' i _ g t' k λb hb=>?_;simp only[yv,yQ,Yw] at hb;rcases hb with rfl | rfl
   .show .inl rfl
   .show .inr lo
  .show qc6 (base:=X.base) E F y l rfl rfl λh' i g t' k=>go h' i _ g t' k λb hb=>?_;show .inl (yC.mp hb)
end
def TyX(K:yg)(H:Hp)(x:V)(t:Value):Prop:=TyOf K H x t\/∃ a C dx,x=.ref a/\t=.ref C/\IsX H a C dx/\XAt K C/\∀ d,dx=some d->∃ fs,H d=some (.xd fs)
theorem TyX.kit{x:V}(I:Inv X pins σ H s)(e:RelV x u)(ty:TyX X.K H x t):∃ P:Heap->Prop,PySem.W.KitX X.K u t P/\P s.heap/\u≠.builtin "__main__.__loader__#opaque":=by
 rcases ty with ty | ⟨a,C,dx,rfl,rfl,hx,c,hd⟩
 .show ty.kit I e
 .cases e;obtain⟨vs,b⟩:=hx.get I.hok
  cases dx with
  | none=>show⟨_,qd4 (od:=none) c,⟨b,rfl,rfl,YR⟩,λz=>nomatch z⟩
  | some d =>
   obtain⟨fs,f⟩:=hd d rfl;obtain⟨od,g,h1,_⟩:=qfT I f;show⟨_,qd4 (od:=some od) c,⟨b,rfl,rfl,h1⟩,λz=>nomatch z⟩
def qgK(K:yg):List V->Hp->VK->Prop:=λxs H Q=>∃ x y t c b,xs=[x,y]/\TyX K H x t/\qc4 y=some c/\PySem.W.kitOne K t c=some b/\Q (.bl b) H
def qf0(K:yg):List V->Hp->VK->Prop:=λxs H Q=>∃ x p ys t a b,xs=[x,.ref p]/\TyX K H x t/\H p=some (.tup ys)/\ys.map qc4=a.map some/\PySem.W.kitAny K t a=some b/\Q (.bl b) H
section
variable{X:Cx}{K:yg}
theorem qay(a:X.K=K):zL X (.builtin "isinstance") (qgK K):=by
 subst a;intro pins s σ H xs us Q I r h;obtain⟨x,y,t,c,b,rfl,ty,d,hb,q⟩:=h;obtain⟨u,v,rfl,f,g⟩:=qfC r;have e:=qcf d g;subst e;obtain⟨P,Z,p,ne⟩:=ty.kit I f;show PySem.W.kia_one Z I.kIn p hb ne λtk=>⟨.bl b,H,I.tok tk,rfl,q⟩
theorem qcu(i:X.K=K):zL X (.builtin "isinstance") (qf0 K):=by
 subst i;intro pins s σ H xs us Q I r h;obtain⟨x,p,ys,t,B,b,rfl,ty,m,y,hb,q⟩:=h;obtain⟨u,v,rfl,A,f⟩:=qfC r;cases f;obtain⟨P,Z,z,ne⟩:=ty.kit I A;obtain⟨_,its,f,o,l,hc,n,j⟩:=(show ObjOk X.prog X.w H s.heap p (.tup ys) from I.hok p _ m);have e:=qbR y f;subst e;obtain⟨c,C,g,D⟩:=o;have a:c=.type "tuple":=hc;have d:g=.seq its.toArray n:=j;subst a d;show PySem.W.kia_tup Z I.kIn z l hb ne λtk=>⟨.bl b,H,I.tok tk,rfl,q⟩
end
mutual
inductive EqD(K:yg)(H:Hp):Nat->V->V->Bool->Prop
 | flat {n:Nat} {x y:V} (fx:qae x=true) (fy:qae y=true):EqD K H n x y (eqV x y)
 | self {n:Nat} {a:Addr}:EqD K H n (.ref a) (.ref a) true
 | deep {n:Nat} {a b:Addr} {k:Bool} (h:EqT K H n a b k) (ne:a≠b):EqD K H n (.ref a) (.ref b) k
inductive EqT(K:yg)(H:Hp):Nat->Addr->Addr->Bool->Prop
 | lst {n:Nat} {a b:Addr} {xs ys:List V} {e:Nat->Bool} (ha:SqL K H a xs) (hb:SqL K H b ys) (hl:xs.length=ys.length) (he:∀ j x y,xs[j]?=some x->ys[j]?=some y->EqD K H n x y (e j)):EqT K H (n+1) a b ((List.range xs.length).all e)
 | lstL {n:Nat} {a b:Addr} {xs ys:List V} (ha:SqL K H a xs) (hb:SqL K H b ys) (hl:xs.length≠ys.length):EqT K H (n+1) a b false
 | tup {n:Nat} {a b:Addr} {xs ys:List V} {e:Nat->Bool} (ha:SqT K H a xs) (hb:SqT K H b ys) (he:∀ j x y,xs[j]?=some x->ys[j]?=some y->EqD K H n x y (e j)):EqT K H (n+1) a b ((List.range (min xs.length ys.length)).all e&&xs.length==ys.length)
 | lt {n:Nat} {a b:Addr} {xs ys:List V} (ha:SqL K H a xs) (hb:SqT K H b ys):EqT K H (n+1) a b false
 | tl {n:Nat} {a b:Addr} {xs ys:List V} (ha:SqT K H a xs) (hb:SqL K H b ys):EqT K H (n+1) a b false
end
theorem jx:∀{xs:List V} {us:List Value} {j:Nat} {u:Value},Vals xs us->us[j]?=some u->∃ x,xs[j]?=some x/\RelV x u
 | _,_,_,_,.nil,e=>by simp at e
 | _,_,0,_,.cons r _,e=>by simp at e;subst e;show⟨_,rfl,r⟩
 | _,_,j+1,u,.cons _ t,e=>by
  obtain⟨x,h1,a⟩:=jx (j:=j) (u:=u) t (by simpa using e);show⟨x,by simpa using h1,a⟩
section
variable{X:Cx}{pins:List (Addr×Obj)}{σ:St}{H:Hp}{s:Shared}
theorem qdu(I:Inv X pins σ H s):∀ n,(∀(A:Around) (x y:V) (k:Bool) (u v:Value),EqD X.K H n x y k->RelV x u->RelV y v->A.units+n<cLine->SeqAt.EqAt A s u v k)/\(∀(A:Around) (a b:Addr) (k:Bool),EqT X.K H n a b k->A.units+n<cLine->SeqAt.RcAt A s (.ref a) (.ref b) k):=by
 intro n
 induction n with
 | zero =>
  have G:∀(A:Around) (a b:Addr) (k:Bool),EqT X.K H 0 a b k->A.units+0<cLine->SeqAt.RcAt A s (.ref a) (.ref b) k:=λA a b k h=>by cases h
  show⟨λA x y k u v h g i B=>?_,G⟩
  cases h with
  | flat fx fy=>show qeS g i fx fy
  | self=>cases g;cases i;show kE _
  | deep h ne=>cases h
 | succ n ih =>
  have E:∀(A:Around) (a b:Addr) (k:Bool),EqT X.K H (n+1) a b k->A.units+(n+1)<cLine->SeqAt.RcAt A s (.ref a) (.ref b) k:=λA a b k h B=>by
   have f:A.units<cLine:=by lk
   have o:A.in1.units+n<cLine:=by show A.units+1+n<cLine;lk
   cases h with
   | @lst _ _ _ xs ys e ha hb hl he =>
    obtain⟨its,r,pl,q⟩:=I.list ha;obtain⟨c,m,d,l⟩:=I.list hb;have p:xs.length=its.toArray.size:=by rw[yA];show r.length
    have t:ys.length=c.toArray.size:=by rw[yA];show m.length
    rw[p];show SeqAt.RcAt.lists pl.isList d.isList (by rw[<- p,<- t,hl]) f λj h1 F=>?_;have w:its[j]?=some its.toArray[j]:=by simp
    have z:c[j]?=some c.toArray[j]:=by simp
    obtain⟨x,C,g⟩:=jx r w;obtain⟨y,D,i⟩:=jx m z;show ih.1 A.in1 x y (e j) _ _ (he j x y C D) g i o
   | @lstL _ _ _ xs ys ha hb hl =>
    obtain⟨its,r,pl,q⟩:=I.list ha;obtain⟨c,m,d,l⟩:=I.list hb;show SeqAt.RcAt.lists_lengths pl.isList d.isList ?_ f;rw[yA,yA,<- r.length,<- m.length];simp[hl]
   | @tup _ _ _ xs ys e ha hb he =>
    obtain⟨its,r,pl,q⟩:=I.tuple ha;obtain⟨c,m,d,l⟩:=I.tuple hb;have p:xs.length=its.toArray.size:=by rw[yA];show r.length
    have t:ys.length=c.toArray.size:=by rw[yA];show m.length
    rw[p,t];show SeqAt.RcAt.tuples pl d f λj h1 F=>?_;have w:its[j]?=some its.toArray[j]:=by simp
    have z:c[j]?=some c.toArray[j]:=by simp
    obtain⟨x,C,g⟩:=jx r w;obtain⟨y,D,i⟩:=jx m z;show ih.1 A.in1 x y (e j) _ _ (he j x y C D) g i o
   | lt ha hb =>
    obtain⟨its,r,pl,q⟩:=I.list ha;obtain⟨c,m,d,l⟩:=I.tuple hb;show SeqAt.RcAt.list_tuple pl.isList d f
   | tl ha hb =>
    obtain⟨its,r,pl,q⟩:=I.tuple ha;obtain⟨c,m,d,l⟩:=I.list hb;show SeqAt.RcAt.tuple_list pl d.isList f
  show⟨λA x y k u v h g i B=>?_,E⟩
  cases h with
  | flat fx fy=>show qeS g i fx fy
  | self=>cases g;cases i;show kE _
  | deep h ne=>cases g;cases i;show SeqAt.EqAt.of_refs ne (E A _ _ k h B)
theorem ne_refs(I:Inv X pins σ H s){n:Nat}{A:Around}{a b:Addr}{k:Bool}(h:EqT X.K H n a b k)(B:A.units+n<cLine):SeqAt.RcNeAt A s (.ref a) (.ref b) (!k):=by
 cases n with
 | zero=>cases h
 | succ n =>
  have w:=qdu I n;have f:A.units<cLine:=by lk
  have l:A.in1.units+n<cLine:=by show A.units+1+n<cLine;lk
  cases h with
  | @lst _ _ _ xs ys e ha hb hl he =>
   obtain⟨its,r,pl,o⟩:=I.list ha;obtain⟨c,i,d,g⟩:=I.list hb;have m:xs.length=its.toArray.size:=by rw[yA];show r.length
   have p:ys.length=c.toArray.size:=by rw[yA];show i.length
   rw[m];show SeqAt.RcNeAt.lists pl.isList d.isList (by rw[<- m,<- p,hl]) f λj h1 z=>?_;obtain⟨x,q,u⟩:=jx r (show its[j]?=some its.toArray[j] by simp);obtain⟨y,t,v⟩:=jx i (show c[j]?=some c.toArray[j] by simp);show w.1 A.in1 x y (e j) _ _ (he j x y q t) u v l
  | @lstL _ _ _ xs ys ha hb hl =>
   obtain⟨its,r,pl,o⟩:=I.list ha;obtain⟨c,i,d,g⟩:=I.list hb;show SeqAt.RcNeAt.lists_lengths pl.isList d.isList ?_ f;rw[yA,yA,<- r.length,<- i.length];simp[hl]
  | @tup _ _ _ xs ys e ha hb he =>
   obtain⟨its,r,pl,o⟩:=I.tuple ha;obtain⟨c,i,d,g⟩:=I.tuple hb;have m:xs.length=its.toArray.size:=by rw[yA];show r.length
   have p:ys.length=c.toArray.size:=by rw[yA];show i.length
   rw[m,p];show SeqAt.RcNeAt.tuples pl d f λj h1 z=>?_;obtain⟨x,q,u⟩:=jx r (show its[j]?=some its.toArray[j] by simp);obtain⟨y,t,v⟩:=jx i (show c[j]?=some c.toArray[j] by simp);show w.1 A.in1 x y (e j) _ _ (he j x y q t) u v l
  | lt ha hb =>
   obtain⟨its,r,pl,o⟩:=I.list ha;obtain⟨c,i,d,g⟩:=I.tuple hb;show SeqAt.RcNeAt.list_tuple pl.isList d f
  | tl ha hb =>
   obtain⟨its,r,pl,o⟩:=I.tuple ha;obtain⟨c,i,d,g⟩:=I.list hb;show SeqAt.RcNeAt.tuple_list pl d.isList f
theorem qf1{A:Around}{x y:V}{u v:Value}(e:RelV x u)(c:RelV y v)(f:qae x=true)(d:qae y=true):SeqAt.RcAt A s u v (eqV x y)/\SeqAt.RcNeAt A s u v (!eqV x y):=by
 cases x with
 | non =>
  cases e
  cases y with
  | non=>cases c;show⟨SeqAt.RcAt.none_none,SeqAt.RcNeAt.none_none⟩
  | bl b=>cases c;show⟨SeqAt.RcAt.none_bool b,SeqAt.RcNeAt.none_bool b⟩
  | int b=>obtain⟨t,rfl⟩:=c;show⟨SeqAt.RcAt.none_int b t,SeqAt.RcNeAt.none_int b t⟩
  | str b=>obtain⟨t,rfl⟩:=c;show⟨SeqAt.RcAt.none_str b t,SeqAt.RcNeAt.none_str b t⟩
  | _=>cases d
 | bl a =>
  cases e
  cases y with
  | non=>cases c;show⟨SeqAt.RcAt.bool_none a,SeqAt.RcNeAt.bool_none a⟩
  | bl b=>cases c;show⟨SeqAt.RcAt.bool_bool a b,SeqAt.RcNeAt.bool_bool a b⟩
  | int b=>obtain⟨t,rfl⟩:=c;show⟨SeqAt.RcAt.bool_int a b t,SeqAt.RcNeAt.bool_int a b t⟩
  | str b=>obtain⟨t,rfl⟩:=c;show⟨SeqAt.RcAt.bool_str a b t,SeqAt.RcNeAt.bool_str a b t⟩
  | _=>cases d
 | int a =>
  obtain⟨t',rfl⟩:=e
  cases y with
  | non=>cases c;show⟨SeqAt.RcAt.int_none a t',SeqAt.RcNeAt.int_none a t'⟩
  | bl b=>cases c;show⟨SeqAt.RcAt.int_bool a t' b,SeqAt.RcNeAt.int_bool a t' b⟩
  | int b=>obtain⟨t,rfl⟩:=c;show⟨SeqAt.RcAt.int_int a t' b t,SeqAt.RcNeAt.int_int a t' b t⟩
  | str b=>obtain⟨t,rfl⟩:=c;show⟨SeqAt.RcAt.int_str a t' b t,SeqAt.RcNeAt.int_str a t' b t⟩
  | _=>cases d
 | str a =>
  obtain⟨t',rfl⟩:=e
  cases y with
  | non=>cases c;show⟨SeqAt.RcAt.str_none a t',SeqAt.RcNeAt.str_none a t'⟩
  | bl b=>cases c;show⟨SeqAt.RcAt.str_bool a t' b,SeqAt.RcNeAt.str_bool a t' b⟩
  | int b=>obtain⟨t,rfl⟩:=c;show⟨SeqAt.RcAt.str_int a t' b t,SeqAt.RcNeAt.str_int a t' b t⟩
  | str b=>obtain⟨t,rfl⟩:=c;show⟨SeqAt.RcAt.str_str a t' b t,SeqAt.RcNeAt.str_str a t' b t⟩
  | _=>cases d
 | _=>cases f
end
def qfG(K:yg)(c:Bool):R2:=λx y H Q=>(qae x=true/\qae y=true/\Q (.bl (if c then !eqV x y else eqV x y)) H) \/
 (∃ a b k n,x=.ref a/\y=.ref b/\n<=60/\EqT K H n a b k/\Q (.bl (if c then !k else k)) H) \/
 (∃ a kvs,x=.ref a/\y=.ref a/\H a=some (.dK kvs)/\Q (.bl (!c)) H)
theorem qbX{b:Type}[DecidableEq b]:∀{a:List (b×Value)} {k:b} {v:Value},(a.map (·.1)).Nodup->(k,v)∈a->valueAt a k=some v
 | [],_,_,_,h=>by cases h
 | (k',v')::r,k,v,hn,h=>by
  obtain⟨h1,c⟩:=yo.mp (show(k'::r.map (·.1)).Nodup from hn);unfold valueAt;rw[xT];by_cases e:k'=k
  .subst e;simp only[decide_true];rcases yv.mp h with z | z
   .cases z;rfl
   .show absurd (yB.mpr ⟨(k',v),z,rfl⟩) h1
  .simp only[e,Kw];rcases yv.mp h with z | z
   .cases z;show absurd rfl e
   .show qbX c z
theorem qdv{A:Around}{s:Shared}{c:Type}[DecidableEq c](a:List (c×Value))(d:(a.map (·.1)).Nodup):∀ f:List (c×Value),(∀ p∈f,p∈a)->PySem.W.KeqHits A s a f true
 | [],_=>.nil
 | (k,v)::r,h=>by
  have hv:valueAt a k=some v:=qbX d (h (k,v) yM);show .hit (e:=true) (b:=true) hv (kE v) (qdv a d r λp g=>h p (yy _ g))
section
variable{X:Cx}{K:yg}
theorem k_eqU(m:X.K=K)(p:X.A.units+100<cLine):OpR X (compareOp .Eq) (qfG K false):=by
 subst m;intro pins s σ H x y u v Q I c f h;rcases h with⟨j,l,q⟩ | ⟨a,b,k,n,rfl,rfl,o,e,q⟩ | ⟨a,kvs,rfl,rfl,i,q⟩
 .show(qf1 c f j l).1 _ _ _ _ ⟨.bl _,H,I,rfl,q⟩
 .cases c;cases f;show(qdu I n).2 X.A a b k e (by lk) _ _ _ _ ⟨.bl _,H,I,rfl,q⟩
 .cases c;cases f;obtain⟨_,g,vs,r,d⟩:=(show ObjOk X.prog X.w H s.heap a (.dK kvs) from I.hok a _ i);obtain⟨_,_,_,_,_,_,_,_,nd⟩:=id d;show PySem.W.keq_eq g g d d (by lk) (λ_=>qdv vs nd vs λ_ h=>h) ?_;rw[Xh];show⟨.bl true,H,I,rfl,q⟩
theorem qaf(m:X.K=K)(p:X.A.units+100<cLine):OpR X (compareOp .NotEq) (qfG K true):=by
 subst m;intro pins s σ H x y u v Q I c f h;rcases h with⟨j,l,q⟩ | ⟨a,b,k,n,rfl,rfl,o,e,q⟩ | ⟨a,kvs,rfl,rfl,i,q⟩
 .show(qf1 c f j l).2 _ _ _ _ ⟨.bl _,H,I,rfl,q⟩
 .cases c;cases f;show ne_refs I e (by lk) _ _ _ _ ⟨.bl _,H,I,rfl,q⟩
 .cases c;cases f;obtain⟨_,g,vs,r,d⟩:=(show ObjOk X.prog X.w H s.heap a (.dK kvs) from I.hok a _ i);obtain⟨_,_,_,_,_,_,_,_,nd⟩:=id d;show PySem.W.keq_ne g g d d (by lk) (λ_=>qdv vs nd vs λ_ h=>h) ?_;rw[Xh];show⟨.bl false,H,I,rfl,q⟩
end
section
variable{X:Cx}{K:yg}
def qhd(K:yg):R2:=λx y H Q=>rIx K x y H Q\/∃ a v,x=.ref a/\DGet H a y (some v)/\Q v H
theorem qv(f:X.K=K)(m:X.A.units+100<cLine):IxR X (qhd K):=by
 subst f;show IxR.or ix_seq ?_;intro d c pins s σ H x y v u Q I j l h i;obtain⟨a,z,rfl,g,q⟩:=h;cases j;show tail_any (dict_typeIs I g) PySem.F.slot_dict_getitem.lookup (d_getItem (by lk) I g l λo n e b=>⟨z,H,e,b,q⟩) i
def rSetU:qgt:=λo i v H Q=>rSetL o i v H Q\/∃ a H',o=.ref a/\DPut H a i v H'/\Q H'
theorem jN(l:X.A.units+100<cLine):qg3 X rSetU:=by
 intro pins s σ H o i v j f u Q I c b d h;rcases h with h | ⟨a,H',rfl,g,q⟩
 .show set_list pins s σ H o i v j f u Q I c b d h
 .cases c;show d_setItem (by lk) I g b d λs' e=>⟨H',e,q⟩
def qf2(K:yg)(b:Bool):R2:=λx y H Q=>rIn K b x y H Q\/(∃ a o,y=.ref a/\DGet H a x o/\Q (.bl (if b then !o.isSome else o.isSome)) H) \/
 (∃ p xs e n,y=.ref p/\SqL K H p xs/\n<=60/\(∀ z∈xs,EqD K H n z x (e z))/\Q (.bl (if b then !xs.any e else xs.any e)) H)
theorem qf3{pins:List (Addr×Obj)}{σ:St}{H:Hp}{s:Shared}{xs:List V}{its:List Value}{x:V}{u:Value}{e:V->Bool}{n:Nat}{A:Around}(I:Inv X pins σ H s)(r:Vals xs its)(v:RelV x u)(t:A.units+n<cLine)(p:∀ z∈xs,EqD X.K H n z x (e z)) :
  ∃ i:Value->Bool,(∀ w,w∈its.toArray->SeqAt.EqAt A s w u (i w))/\its.toArray.any i=xs.any e:=by
 classical
 show⟨λw=>decide (∃ z∈xs,RelV z w/\e z=true),λw hw=>?_,?_⟩
 .have f:w∈its:=by simpa using hw
  obtain⟨j,d⟩:=List.mem_iff_getElem?.mp f;obtain⟨z,a,b⟩:=jx r d;have l:=ye a
  have o:decide (∃ z∈xs,RelV z w/\e z=true)=e z:=by
   cases q:e z with
   | true=>show yz ⟨z,l,b,q⟩
   | false =>
    show yl λ⟨y,_,g,m⟩=>?_;rw[RelV.inj g b,q] at m;cases m
  show SeqAt.EqAt A s w u (decide (∃ z∈xs,RelV z w/\e z=true));rw[o];show(qdu I n).1 A z x (e z) w u (p z l) b v t
 .rw [Yu,YV];constructor
  .intro h;have h':its.any (λw=>decide (∃ z∈xs,RelV z w/\e z=true))=true:=by simpa using h
   obtain⟨w,_,q⟩:=YV.mp h';obtain⟨z,a,_,c⟩:=yk q;show⟨z,a,c⟩
  .rintro ⟨z,a,c⟩;obtain⟨j,d⟩:=List.mem_iff_getElem?.mp a;obtain⟨w,hw,b⟩:=r.get d;have:its.any (λw=>decide (∃ z∈xs,RelV z w/\e z=true))=true:=YV.mpr ⟨w,ye hw,yz ⟨z,a,b,c⟩⟩;simpa using this
theorem qbp(j:X.K=K)(l:X.A.units+100<cLine):OpR X (compareOp .In) (qf2 K false):=by
 subst j;intro pins s σ H x y u v Q I b c h;rcases h with h | ⟨a,o,rfl,g,q⟩ | ⟨p,xs,e,n,rfl,hl,hn,he,q⟩
 .show op_in_seq pins s σ H x y u v Q I b c h
 .cases c;show d_in (by lk) I g b λs' d=>⟨.bl _,H,d,rfl,q⟩
 .cases c;obtain⟨its,r,pl,m⟩:=I.list hl;obtain⟨f,h1,i⟩:=qf3 (A:=X.A.in1) I r b (by show X.A.units+1+n<cLine;lk) he;show SeqAt.in_listAt f pl.isList h1 (by rw[i];show⟨.bl _,H,I,rfl,q⟩)
theorem zQ(j:X.K=K)(l:X.A.units+100<cLine):OpR X (compareOp .NotIn) (qf2 K true):=by
 subst j;intro pins s σ H x y u v Q I b c h;rcases h with h | ⟨a,o,rfl,g,q⟩ | ⟨p,xs,e,n,rfl,hl,hn,he,q⟩
 .show op_notIn_seq pins s σ H x y u v Q I b c h
 .cases c;show d_notIn (by lk) I g b λs' d=>⟨.bl _,H,d,rfl,q⟩
 .cases c;obtain⟨its,r,pl,m⟩:=I.list hl;obtain⟨f,h1,i⟩:=qf3 (A:=X.A.in1) I r b (by show X.A.units+1+n<cLine;lk) he;show SeqAt.notIn_listAt f pl.isList h1 (by rw[i];show⟨.bl _,H,I,rfl,q⟩)
def rListU(K:yg):List V->Hp->VK->Prop:=λxs H Q=>(∃ p ys,xs=[.ref p]/\(SqL K H p ys\/SqT K H p ys)/\∀ l,H l=none->Q (.ref l) (upd H l (.lst ys))) \/
 (∃ p kvs,xs=[.ref p]/\H p=some (.dK kvs)/\∀ l,H l=none->Q (.ref l) (upd H l (.lst (kvs.map λa=>kV a.1)))) \/
 (∃ x,xs=[.str x]/\x.length<=1000/\∀ l,H l=none->Q (.ref l) (upd H l (.lst (x.cps.toList.map λc=>.str ⟨#[c]⟩))))
theorem qch{c d:Type}{F:c->d->Prop}:∀{l:List c} {m:List d} {j:Nat} {a:c},Paired F l m->l[j]?=some a->∃ b,m[j]?=some b/\F a b
 | _,_,_,_,.nil,e=>by simp at e
 | _,_,0,_,.cons r _,e=>by simp at e;subst e;show⟨_,rfl,r⟩
 | _,_,j+1,a,.cons _ t,e=>by
  obtain⟨b,h1,f⟩:=qch (j:=j) (a:=a) t (by simpa using e);show⟨b,by simpa using h1,f⟩
theorem qbd:∀{ys:List V} {us:List Value},ys.length=us.length->(∀(j:Nat) y u,ys[j]?=some y->us[j]?=some u->RelV y u)->Vals ys us
 | [],[],_,_=>.nil
 | [],_::_,h,_=>by cases h
 | _::_,[],h,_=>by cases h
 | y::ys,u::us,h,q=>.cons (q 0 y u rfl rfl) (qbd (Nat.succ.inj h) λj c b h1 a=>q (j+1) c b (by simpa using h1) (by simpa using a))
theorem qdw(L:X.K=K)(hc:X.calm=true):zL X (.type "list") (rListU K):=by
 subst L;intro pins s σ H xs us Q I r h;rcases h with h | ⟨p,kvs,rfl,ea,q⟩ | ⟨x,rfl,hx,q⟩
 .show call_list_of pins s σ H xs us Q I r h
 .obtain⟨u,rfl,N⟩:=qbn r;cases N;obtain⟨D,M,vs,E,d⟩:=(show ObjOk X.prog X.w H s.heap p (.dK kvs) from I.hok p _ ea);obtain⟨ep,n⟩:=d.dictAt;have hl:kvs.length=vs.length:=E.length;show PySem.W.kdl_call (PySem.W.kdl_dict (knd:=jc X.prog X.w) (kvs:=vs) (ep:=ep) M) (I.ok.hd hc) n (by rw[<- hl];show D) λh' tk a f A e it=>?_;obtain⟨o,v⟩:=it
  have hv:Vals (kvs.map λb=>kV b.1) a.toList:=by
   show qbd (by rw[ya,hl,<- o];simp) λj y u h1 g=>?_;obtain⟨k,x,l,G⟩:=v j u (by simpa using g);rw[yd] at h1
   cases B:kvs[j]? with
   | none=>rw[B] at h1;cases h1
   | some b =>
    rw[B] at h1;cases h1;obtain⟨P,C,J,O⟩:=qch E B;rw[l] at C;cases C;have F:b.1=k:=J;show RelV (kV b.1) u;rw[F];rcases qU (show qdn k u=true from G) with⟨i,t,rfl,rfl⟩ | ⟨z,t,rfl,rfl⟩
    .show⟨t,rfl⟩
    .show⟨t,rfl⟩
  show⟨.ref s.heap.objs.size,_,I.laid (t':=tk) A (yh _) (show ObjOk X.prog X.w _ h' _ (.lst (kvs.map λb=>kV b.1)) from⟨by rw[ya];show D,a.toList,f,hv,by simpa using e⟩),rfl,q _ (I.hok.fresh (yh _))⟩
 .obtain⟨u,rfl,t,rfl⟩:=qbn r;have hsz:x.cps.size<=sizeLine:=yN (qh hx);show call_list_str (I.ok.hd hc) x t (λh' tk a f A e it=>?_) hsz;obtain⟨o,v⟩:=it
  have hv:Vals (x.cps.toList.map λc=>V.str ⟨#[c]⟩) a.toList:=by
   show qbd (by rw[ya];simp[o]) λj y u h1 g=>?_;obtain⟨c,t',l,rfl⟩:=v j u (by simpa using g);rw[yd] at h1;have m:x.cps.toList[j]?=some c:=by simpa using l
   rw[m] at h1;cases h1;show⟨t',rfl⟩
  show⟨.ref s.heap.objs.size,_,I.laid (t':=tk) A (yh _) (show ObjOk X.prog X.w _ h' _ (.lst (x.cps.toList.map λc=>V.str ⟨#[c]⟩)) from⟨by rw[ya];simpa using hsz,a.toList,f,hv,by simpa using e⟩),rfl,q _ (I.hok.fresh (yh _))⟩
end
structure CMethOk(P:Program)(w:World)(K:yg)(mg:Str->Option Value)(base:Heap)(CX:CXT)(k:Nat)(C:Addr)(x m:Str)(ps:LS)(sp:Sp):Prop where
 ex:∃ f fd,FnOk P w K mg base CX k f fd ps sp/\CMeth K C m f/\Binds K fd ps []
 mg_:mg x=some (.ref C)
section
variable{X:Cx}{k:Nat}{C:Addr}{ps:LS}{sp:Sp}{x m:Str}{p pos apos:Pos}{e:Expr}{es:List Expr}{t:TA}
theorem qd7(D:MakeOk X.prog X.w X.K X.mg X.base CX0 k C x ps sp)(h:Room (k+1) X.A)(c:PA X (e::es) t)(g:Gl X x:=by rfl)(a:(x==("__debug__":Str))=false:=by decide)
  (d:starEach (e::es) X.env=(false,eval e X.env)::starEach es X.env:=by rfl) (b:(backTo pos (starEach es X.env)).any (·.1)=false:=by rfl):PE X (.Call (.Name x p) (e::es) [] pos) (qgg C sp [] E0 t):=by
 obtain⟨f,fd,F,M,hb⟩:=D.ex;show pe_make M F h g D.mg_ hb .nil qy c a d b
theorem qd8{pl:Sem Bool}(D:CMethOk X.prog X.w X.K X.mg X.base CX0 k C x m ps sp)(h:Room k X.A)(d:PA X (e::es) t)(g:Gl X x:=by rfl)(a:(x==("__debug__":Str))=false:=by decide)
  (c:starEach (e::es) X.env=(false,eval e X.env)::starEach es X.env:=by rfl) (b:(backTo pos (starEach es X.env)).any (·.1)=false:=by rfl)
  (i:eval (.Call (.Attribute (.Name x p) m apos) (e::es) [] pos) X.env=(do
   let ov <- eval (.Name x p) X.env
   standAt apos.atName
   let (f,first) <- holding [ov] (getMethod ov m pl)
   callWith pos f first (backTo pos (starEach (e::es) X.env)) (backToKw pos (keywordEach [] X.env))):=by rfl) :
  PE X (.Call (.Attribute (.Name x p) m apos) (e::es) [] pos) (qeN sp [] E0 t):=by
 obtain⟨f,fd,F,M,hb⟩:=D.ex;show pe_clsm (pl:=pl) M F h g D.mg_ hb qy d a c b i
end
theorem own_eq_same{prog:Program}{w:World}{A:Around}{E:Value->Shared->Prop}{s:Shared}{K:yg}{x C:Addr}{ox:Obj}{od:Option Obj}{Q:Value->Shared->Prop}(l:A.units<cLine)(X:K.In s.heap)(I:PySem.W.InstAt s.heap x ox C od)
  (j:PySem.W.findIn K (.ref C) "__eq__"=some (some (.builtin "object.__eq__"))) (g:PySem.W.mroIn K C (.type "object")=some true) (h:Q (.bool true) s):wpAny (model prog w) A (richCompare .Eq (.ref x) (.ref x)) Q E s:=by
 have a:∀{f:Around} {d:Value->Shared->Prop},d (.bool true) s->wpAny (model prog w) f (call (.builtin "object.__eq__") [.ref x,.ref x]) d E s:=λ{f d} q=>by
  show Xn (xY PySem.F.slot_object_eq.plain PySem.F.entry_object_eq (@PySem.W.check_slot (model prog w) _ _ s "object.__eq__" "object" "__eq__" (.ref x) [.ref x] [] _ (by room) (by room) (I.type.andThen (xA X g)) (PySem.F.args_object_eq_2 _ _) ?_));show yr (yE (yr (wpAny_isSame_ref_self ?_)));show yE q
 have one:wpAny (model prog w) A (tryCompare (.ref x) "__eq__" (.ref x)) (λr s'=>∃ v,r=some v/\Q v s') E s:=by
  unfold tryCompare;show yr ?_;simp only[callSpecialIfBound?,bindSpecialIfBound?];show YT (yr (yr (yr (I.type.here ((YQ X j).here ?_)))));show yr (Kg (wpAny_ite ?_));have b:=PySem.F.slot_object_eq.bind (.ref x)
  have c:wpAny (model prog w) A (call (.builtin "object.__eq__") ([.ref x]++[.ref x])>>=λv=>pure (some v)) (λr s'=>wpAny (model prog w) A (match r with | some .notImplemented | none=>pure none | some v=>pure (some v)) (λr s'=>∃ v,r=some v/\Q v s') E s') E s:=
   yr (a (yE (yE ⟨_,rfl,h⟩)))
  split
  .show yr (xm b (yE c))
  .show wpAny_tryCatch (yr (xm b (yE c)))
 unfold richCompare;simp only[oneThing_ref];show YT (yr (wpAny_cRoomFor l ?_));show yr (I.type.here (yr (I.type.here ?_)));rw[yD (by simp)];show yr (yE ?_);simp only[xN,ki];show yr (YJ one (λr s' z=>?_) λ_ _ e=>e);obtain⟨v,rfl,i⟩:=z;show yE i
structure OEq(K:yg)(C:Addr):Prop where
 eq:PySem.W.findIn K (.ref C) "__eq__"=some (some (.builtin "object.__eq__"))
 ob:PySem.W.mroIn K C (.type "object")=some true
def qht(K:yg):R2:=λx y H Q=>qfG K false x y H Q\/∃ a C dx fs,x=.ref a/\y=.ref a/\H a=some (.ins C dx fs)/\OEq K C/\Q (.bl true) H
theorem k_eqW{X:Cx}{K:yg}(d:X.K=K)(e:X.A.units+100<cLine):OpR X (compareOp .Eq) (qht K):=by
 subst d;intro pins s σ H x y u v Q I b c h;rcases h with h | ⟨a,C,dx,fs,rfl,rfl,ea,oe,q⟩
 .show k_eqU rfl e pins s σ H x y u v Q I b c h
 .cases b;cases c;obtain⟨f,O,_⟩:=qbc I.hok ea;obtain⟨od,J,_⟩:=O.look;show own_eq_same (by lk) I.kIn J oe.eq oe.ob ⟨.bl true,H,I,rfl,q⟩
theorem qG{X:Cx}:MtR X "list.append" rAppend:=mt_append
theorem mtR_extend{X:Cx}:MtR X "list.extend" rExtend:=mt_extend
theorem mtR_pop{X:Cx}:MtR X "list.pop" rPop:=mt_pop
theorem boot_ValueError:bootBuiltins "ValueError"=some (.type "ValueError"):=by room
section
variable{D:Ends}{σ:St}{H:Hp}{Q:VK}{t u:TS}{te ta tb tc:TE}{tas:TA}{K:yg}{sp:Sp}{E:XK}{EK:St->XK}{C:Addr}{f m:Str}
theorem vFldU(h:ta σ H λx a=>FlUR K f x a Q):qgG K ta f σ H Q:=h
theorem vSFldU(h:te σ H λy a=>ta σ a λx b=>SFUR K f x y b (D.nx σ)):qgH K ta te f D σ H:=h
theorem vXMake(h:tas σ H λvs a=>vs.length<=1000/\∀ x,a x=none->sp (.ref x::vs) (upd a x (XN x C none)) (λv b=>v=.non/\Q (.ref x) b) E):qeZ C sp E tas σ H Q:=h
theorem vMake(h:tas σ H λvs a=>∀ x dx,a x=none->a dx=none->dx≠x->sp (.ref x::(vs++[])) (upd (upd a dx (.own x)) x (.ins C dx [])) (λv b=>v=.non/\Q (.ref x) b) E):qgg C sp [] E tas σ H Q:=h
theorem vMeth(h:ta σ H λx a=>MeR C m x a (tas σ a λvs b=>sp (x::(vs++[])) b Q E)):qeO C m sp [] E ta tas σ H Q:=h
theorem vVinit(h:tas σ H λvs b=>∃ a C y,vs=[.ref a,y]/\b a=some (XN a C none)/\XAt K C/\Q .non b):qfU K tas σ H Q:=h
theorem vCallS(h:tas σ H λvs a=>sp vs a Q (EK σ)):qfY sp EK tas σ H Q:=h
theorem vMethS(h:ta σ H λx a=>MeR C m x a (tas σ a λvs b=>sp (x::vs) b Q (EK σ))):tMethS C m sp EK ta tas σ H Q:=h
theorem vMakeS(h:tas σ H λvs a=>∀ x dx,a x=none->a dx=none->dx≠x->sp (.ref x::vs) (upd (upd a dx (.own x)) x (.ins C dx [])) (λv b=>v=.non/\Q (.ref x) b) (EK σ)):tMakeS C sp EK tas σ H Q:=h
theorem vRaise(h:te σ H λx b=>∃ a C dx,x=.ref a/\b a=some (XN a C dx)/\XAt K C/\EK σ (.ref C) dx (upd b a (XO a C dx))):qfX K EK te D σ H:=h
theorem qbq{x y:V}{t a:Value}{b:Bool}(ty:TyX K H x t)(c:qc4 y=some a)(hb:PySem.W.kitOne K t a=some b)(h:Q (.bl b) H):qgK K [x,y] H Q:=⟨x,y,t,a,b,rfl,ty,c,hb,h⟩
end
section
variable{prog:Program}{w:World}{A:Around}{E:Value->Shared->Prop}{s:Shared}
theorem none_dict{a:Addr}{Q:Value->Shared->Prop}(d:s.TypeIs (.ref a) "dict")(e:A.units<cLine)(h:Q (.bool false) s):wpAny (model prog w) A (richCompare .Eq .none (.ref a)) Q E s:=by
 show SeqAt.rc_eq_decline_or (k:=false) rfl d (by decide) PySem.F.sub_dict_NoneType YY PySem.F.slot_dict_eq_refl
  (λ_ c=>call_gives YY rfl PySem.F.entry_NoneType_eq (PySem.F.args_NoneType_eq_2 _ _) (SeqAt.NoneType___eq___none_ref_0 a) c) (λf c=>?_) (λ_ c=>xm (rfl:isSame .none (.ref a)=pure false) c) (.inr e) h
 show wpAny_call_entry PySem.F.slot_dict_eq_refl d PySem.F.entry_dict_eq ?_ (PySem.F.args_dict_eq_2 _ _);show wpAny _ _ (Builtin.Dict.dictSlotArgs "__eq__" ⟨[.ref a,.none],[]⟩>>=_) _ _ s;show yr ?_;unfold Builtin.Dict.dictSlotArgs;show yr (wpAny_notOrdered_dict d ?_);show wpAny _ _ (pure (Value.ref a,Value.none)) _ _ s;show yE ?_;show yr (wpAny_isInstance (T:="NoneType") (b:=false) rfl PySem.F.sub_NoneType_dict ?_);simp only[Bool.not_false,Xu];show yr (wpAny_rule (yE ⟨_,rfl,c⟩))
theorem none_own{K:yg}{x C:Addr}{ox:Obj}{od:Option Obj}{Q:Value->Shared->Prop}(i:A.units<cLine)(X:K.In s.heap)(I:PySem.W.InstAt s.heap x ox C od)(f:OEq K C)(g:PySem.W.mroIn K C (.type "NoneType")=some false)
  (h:Q (.bool false) s):wpAny (model prog w) A (richCompare .Eq .none (.ref x)) Q E s:=by
 have j:wpAny (model prog w) A (tryCompare .none "__eq__" (.ref x)) (λr s'=>r=none/\s'=s) E s:=by
  unfold tryCompare;show yr ?_;simp only[callSpecialIfBound?,bindSpecialIfBound?];show YT (yr (yr ?_));show yr (xm (rfl:typeOf .none=pure (.type "NoneType")) ?_);show xm YY.lookup ?_;show yr (Kg (wpAny_ite ?_))
  have a:wpAny (model prog w) A (call (.builtin "NoneType.__eq__") ([.none]++[.ref x])>>=λv=>pure (some v)) (λr s'=>wpAny (model prog w) A (match r with | some .notImplemented | none=>pure none | some v=>pure (some v)) (λr s'=>r=none/\s'=s) E s') E s:=
   yr (call_gives YY rfl PySem.F.entry_NoneType_eq (PySem.F.args_NoneType_eq_2 _ _) (SeqAt.NoneType___eq___none_ref_0 x) (yE (yE ⟨rfl,rfl⟩)))
  split
  .show yr (xm (YY.bind .none) (yE a))
  .show wpAny_tryCatch (yr (xm (YY.bind .none) (yE a)))
 have l:wpAny (model prog w) A (tryCompare (.ref x) "__eq__" .none) (λr s'=>r=none/\s'=s) E s:=by
  unfold tryCompare;show yr ?_;simp only[callSpecialIfBound?,bindSpecialIfBound?];show YT (yr (yr (yr (I.type.here ((YQ X f.eq).here ?_)))));show yr (Kg (wpAny_ite ?_));have b:=PySem.F.slot_object_eq.bind (.ref x)
  have c:∀{d:Value->Shared->Prop},d .notImplemented s->wpAny (model prog w) A (call (.builtin "object.__eq__") [.ref x,.none]) d E s:=λ{d} q=>by
   show Xn (xY PySem.F.slot_object_eq.plain PySem.F.entry_object_eq (@PySem.W.check_slot (model prog w) _ _ s "object.__eq__" "object" "__eq__" (.ref x) [.none] [] _ (by room) (by room) (I.type.andThen (xA X f.ob)) (PySem.F.args_object_eq_2 _ _) ?_));show yr (yE (yr (xm (rfl:isSame (.ref x) .none=pure false) ?_)));show yE q
  have a:wpAny (model prog w) A (call (.builtin "object.__eq__") ([.ref x]++[.none])>>=λv=>pure (some v)) (λr s'=>wpAny (model prog w) A (match r with | some .notImplemented | none=>pure none | some v=>pure (some v)) (λr s'=>r=none/\s'=s) E s') E s:=
   yr (c (yE (yE ⟨rfl,rfl⟩)))
  split
  .show yr (xm b (yE a))
  .show wpAny_tryCatch (yr (xm b (yE a)))
 unfold richCompare;show YT (yr (wpAny_cRoomFor i ?_));show wpAny _ _ (typeOf .none>>=_) _ _ _;show yr (xm (rfl:typeOf .none=pure (.type "NoneType")) (yr (I.type.here ?_)));rw[yH (by rfl)];show yr ((xA X g).here ?_);simp only[xN,ki];show yr (YJ j (λr s' z=>?_) λ_ _ e=>e);obtain⟨rfl,rfl⟩:=z;simp only[Bool.not_false,Xu];show yr (YJ l (λr s' z=>?_) λ_ _ e=>e);obtain⟨rfl,rfl⟩:=z;show yr (wpAny_rule (yr (xm (rfl:isSame .none (.ref x)=pure false) (yE h))))
end
def rNoneRef(K:yg):R2:=λx y H Q=>∃ a,x=.non/\y=.ref a/\((∃ xs,SqL K H a xs\/SqT K H a xs)\/(∃ kvs,H a=some (.dK kvs))\/∃ C dx fs,H a=some (.ins C dx fs)/\OEq K C/\PySem.W.mroIn K C (.type "NoneType")=some false)/\Q (.bl false) H
def qgZ(K:yg):R2:=λx y H Q=>qht K x y H Q\/rNoneRef K x y H Q
theorem jS{X:Cx}{K:yg}(e:X.K=K)(j:X.A.units+100<cLine):OpR X (compareOp .Eq) (qgZ K):=by
 intro pins s σ H x y u v Q I f g h;rcases h with h | ⟨a,rfl,rfl,h,q⟩
 .show k_eqW e j pins s σ H x y u v Q I f g h
 .subst e;cases f;cases g;have b:EP X pins σ Q (.bool false) s:=⟨.bl false,H,I,rfl,q⟩;rcases h with⟨xs,hl | hl⟩ | ⟨kvs,c⟩ | ⟨C,dx,fs,c,l,i⟩
  .obtain⟨its,r,pl,_⟩:=I.list hl;show SeqAt.RcAt.none_list pl.isList (by lk) _ _ _ _ b
  .obtain⟨its,r,pl,_⟩:=I.tuple hl;show SeqAt.RcAt.none_tuple pl (by lk) _ _ _ _ b
  .obtain⟨_,_,vs,_,d⟩:=(show ObjOk X.prog X.w H s.heap a (.dK kvs) from I.hok a _ c);show none_dict d.typeIs (by lk) b
  .obtain⟨m,O,_⟩:=qbc I.hok c;obtain⟨od,J,_⟩:=O.look;show none_own (by lk) I.kIn J l i b
def XL(K:yg)(C:Addr)(e:List Value):Prop:=∃ nm m N bs a sn c d b f g h i j l,K.lookup C=some (excClassObj nm m C N bs e a sn c d b f g h i j l "ValueError.__new__")
section
variable{K:yg}{C D:Addr}{bm bn:List Value}
theorem XL.xat(x:XL K C bm)(hb:qcN bm=true)
  (g:PySem.W.findIn K (.ref C) "__getattribute__"=some (some (.builtin "BaseException.__getattribute__"))) (h:PySem.W.findIn K (.ref C) "__getattr__"=some none)
  (b:PySem.W.mroIn K C (.type "BaseException")=some true) (j:PySem.W.mroIn K C (.type "object")=some true) (i:PySem.W.hasDictIn K C=true) (d:PySem.W.findIn K (.ref C) "__class__"=some (some (.builtin "object.__class__")))
  (c:PySem.W.specialIn K (.builtin "object.__class__") "__get__"=some (some (.builtin "getset_descriptor.__get__"))) (ct:PySem.W.takesIn K (.builtin "object.__class__")=some true)
  (l:PySem.W.findIn K (.ref C) "__setattr__"=some (some (.builtin "object.__setattr__"))):XAt K C:=by
 obtain⟨nm,u,N,bs,a,sn,m,n,f,o,p,q,r,s,t,e⟩:=x;show⟨g,h,b,j,i,d,c,ct,l,?_,?_⟩
 .unfold PySem.W.clsIn;rw[e];show hb
 .unfold qgY;rw[e];simp[hb]
theorem XL.kit(x:XL K C bm)(y:XL K D bn):PySem.W.kitOne K (.ref C) (.ref D)=some ((Value.ref C::bm).contains (.ref D)):=by
 obtain⟨nm,J,N,bs,d,sn,v,A,i,B,E,F,G,H,I,e⟩:=x;obtain⟨q,t,w,h,a,u,f,g,b,j,l,m,n,o,p,c⟩:=y;unfold PySem.W.kitOne PySem.W.kitCls;split
 .rename_i z
  have z:C=D:=kA (Ym.mp z);subst z;simp
 .dsimp only;have r:(PySem.W.clsIn K D).isSome=true:=by unfold PySem.W.clsIn;rw[c];rfl
  have s:(PySem.W.typeIn K (.ref D)==some (.type "type"))=true:=by show((K.lookup D).map (·.cls)==_)=true;rw[c];rfl
  rw[yH (by rw[r,s];rfl)];unfold PySem.W.subIn PySem.W.mroIn PySem.W.clsIn;dsimp only;rw[e];rfl
theorem XL.kitT(x:XL K C bm){T:String}(h:PySem.W.kitMeta T=true):PySem.W.kitOne K (.ref C) (.type T)=some (bm.contains (.type T)):=by
 obtain⟨nm,n,N,bs,a,sn,c,d,b,f,g,i,j,l,m,e⟩:=x;unfold PySem.W.kitOne PySem.W.kitCls;split
 .rename_i z
  show absurd (Ym.mp z) nofun
 .dsimp only;rw[yH h];unfold PySem.W.subIn PySem.W.mroIn PySem.W.clsIn;dsimp only;rw[e];show some ((Value.ref C::bm).contains _)=_;rw[Ys];rfl
abbrev qcv:List Value:=[.type "ValueError",.type "Exception",.type "BaseException",.type "object"]
theorem qe1:qcN qcv=true:=by decide
theorem qdx{c:Addr}:qcN (.ref c::qcv)=true:=qe1
theorem kits{K:yg}{a:LI}{c:Addr}(n:(a++[c]).Nodup)(h:∀ i,i<a.length->XL K (a.getD i c) (.ref c::qcv))(hc:XL K c qcv) :
  (∀ i j,i<a.length->j<a.length->PySem.W.kitOne K (.ref (a.getD i c)) (.ref (a.getD j c))=some (decide (i=j)))/\(∀ i,i<a.length+1->PySem.W.kitOne K (.ref (a.getD i c)) (.ref c)=some true) /\
  (∀ i,i<a.length+1->PySem.W.kitOne K (.ref (a.getD i c)) (.type "ValueError")=some true)/\∀ j,j<a.length->PySem.W.kitOne K (.ref c) (.ref (a.getD j c))=some false:=by
 have m:∀(j:Nat) (b:j<a.length),a.getD j c=a[j]:=λj b=>by simp[List.getD,b]
 have hl:a.getD a.length c=c:=by simp
 have g:∀ j,j<a.length->c≠a.getD j c:=λj b e=>by
  have s:=(Yk.mp n).2.2 (a.getD j c) (by rw[m j b];show Xj b) c (by simp);show s e.symm
 show⟨λi j f b=>?_,λi f=>?_,λi f=>?_,λj b=>?_⟩
 .rw [(h i f).kit (h j b)]
  congr 1
  rw[Ys,Ys];have l:((Value.ref (a.getD j c))==Value.ref c)=false:=Yy.mpr λe=>g j b (kA e).symm;have p:List.contains qcv (Value.ref (a.getD j c))=false:=rfl;rw[l,p];by_cases d:i=j
  .subst d;simp
  .have r:((Value.ref (a.getD j c))==Value.ref (a.getD i c))=false:=Yy.mpr λe=>by
    have e:=kA e;rw[m i f,m j b] at e;have o:=xn.mp (Yk.mp n).1;rcases Nat.lt_or_gt_of_ne d with q | q
    .show o i j f b q e.symm
    .show o j i b f q e
   rw[r];simp[d]
 .rcases Nat.lt_or_ge i a.length with hi' | hi'
  .rw [(h i hi').kit hc,Ys,Ys];simp
  .have:i=a.length:=by lk
   subst this;rw[hl,hc.kit hc];simp
 .rcases Nat.lt_or_ge i a.length with hi' | hi'
  .rw [(h i hi').kitT (by room)];rfl
  .have:i=a.length:=by lk
   subst this;rw[hl,hc.kitT (by room)];rfl
 .rw [hc.kit (h j b),Ys];have l:((Value.ref (a.getD j c))==Value.ref c)=false:=Yy.mpr λe=>g j b (kA e).symm;rw[l];rfl
end
end L2
namespace HT
open PySem PySem.Spec PyProof.Rows
section
variable{prog:Program}{w:World}{A:Around}{E:Value->Shared->Prop}{s:Shared}
end
end HT
namespace L2
open PySem PySem.Spec PyProof.Rows
variable{H:Hp}{X:Cx}{es:List Expr}{pos:Pos}{σ:St}
def tRev(K:yg)(d:TE)(e:TO):TE:=fun σ H Q=>d σ H λx c=>e σ c λo b=>o=some (-1)/\∃ a y z,x=.ref a/\SqT K b a [y,z]/\∀ p,b p=none->Q (.ref p) (upd b p (.tup [z,y]))
theorem vRev{K:yg}{c:TE}{d:TO}{Q:VK}(h:c σ H λx e=>d σ e λo b=>o=some (-1)/\∃ a y z,x=.ref a/\SqT K b a [y,z]/\∀ p,b p=none->Q (.ref p) (upd b p (.tup [z,y]))):tRev K c d σ H Q:=h
section
variable{X:Cx}{K:yg}{e st:Expr}{te:TE}{ts:TO}{p2 pos:Pos}
def rTupleU(K:yg):List V->Hp->VK->Prop:=λxs H Q=>∃ p a,xs=[.ref p]/\((SqL K H p a/\∀ l,H l=none->Q (.ref l) (upd H l (.tup a)))\/(SqT K H p a/\Q (.ref p) H))
theorem qd9(a:X.K=K):zL X (.type "tuple") (rTupleU K):=by subst a;show call_tuple_of
end
theorem Inv.turnedL{a:List (Addr×Obj)}{s:Shared}{h':Heap}{t':Nat}{fp:LI}(I:Inv X a σ H s)(k:∀ b o,b∉fp->s.heap.get? b=some o->h'.get? b=some o)(f:∀ b∈fp,qdp X a H b):Inv X a σ H { s with heap:=h',toks:=t' }:=by
 have d:∀ b u,H b=some u->b∉fp:=λb u e z=>by rw[(f b z).1] at e;cases e
 have l:X.env.locals∉fp:=λz=>(f _ z).2.1 rfl;show I.step (g':=s.gens) (d':=s.drawn) (ch:=fp) (λb hb=>?_) (λb o _ _ hc e _=>k b o hc e) (λb o _ _ hc e _=>⟨o.slots,k b o hc e⟩) (λ_ _ _ _ n=>n)
  (λb o hc e=>⟨o,k b o hc e⟩) (λ_ _ e=>e) (λ_ _ _ e=>e) (λb ps e=>⟨#[],by rw[e];simp⟩) (λm p=>?_) (λb u e=>?_) I.bare
 .obtain⟨w,g,x,h,i,j⟩:=f b hb;show⟨h,g,i,j⟩
 .obtain⟨o,es,ep,t,r⟩:=p;show⟨o,es,ep,k _ o l t,r⟩
 .show(I.hok b u e).stay (λc v hc q=>k c v ?_ q) (λ_ q=>q) λ_ _ q=>q;rcases hc with z | z
  .rw [z];show d b u e
  .show d c _ z
def Ite(K:yg)(a:Addr):It:=
 ⟨λi H=>∃ xs x,SqL K H a xs/\xs[i]?=some x,λi H x H'=>∃ t y,x=.ref t/\H t=none/\H'=upd H t (.tup [.int i,y])/\∀ xs,SqL K H a xs->xs[i]?=some y,λi H=>∃ xs,SqL K H a xs/\xs.length<=i⟩
theorem push_some{h:Heap}{o v:Obj}{b:Addr}(e:(h.push o).get? b=some v)(ne:b≠h.objs.size):h.get? b=some v:=(Heap.get?_push_cases e).elim (λz=>absurd z.1 ne) λz=>z
theorem turn_enum{P:Program}{w:World}{K:yg}{x1}(a e it:Addr)(q:e≠it):Turn P w K (.Tuple es x1 pos) (Ite K a) [e,it] e (λi h=>(∃ g,IsEnum h e it i g)/\h.IsListIter it a i) where
 mem:=by simp
 obj:=λi h st b hb=>by
  obtain⟨⟨g,m⟩,o,D,c,d⟩:=st;simp only[yv,yQ,Yw] at hb;rcases hb with rfl | rfl
  .show⟨_,m,λv z=>by
    have T:Data.fields _=Data.cell v:=z;cases T⟩
  .show⟨o,D,λv z=>by rw[d] at z;cases z⟩
 keep:=λi h h' st k=>by
  obtain⟨⟨g,m⟩,j⟩:=st;show⟨⟨g,k e (by simp) _ m⟩,j.at λo x=>k it (by simp) o x⟩
 item:=by
  intro X G hw F hc i l s σ H E I L st M;subst G hw F;obtain⟨⟨g,m⟩,j⟩:=st;obtain⟨xs,x,B,N⟩:=M;obtain⟨O,S,p,C⟩:=I.list B;obtain⟨u,hu,ru⟩:=S.get N;show wpAny_pyNext_enum_item m j p.isList (x:=u) (by simpa using hu) q λh' ho t hT hsz hk=>?_;show⟨_,rfl,wpAny_letOwnedTupleGo_enum ho λU J n=>?_⟩;have fre:H s.heap.objs.size=none:=I.hok.fresh (yh _);have A:s.heap.objs.size≠e:=Xm (yU m);have R:s.heap.objs.size≠it:=by obtain⟨o,D,_⟩:=j;show Xm (yU D)
  have W:Inv X l σ (upd H s.heap.objs.size (.tup [.int i,x])) { s with heap:=s.heap.push { cls:=.type "tuple",data:=.seq #[.int i s.toks,u] },toks:=s.toks+1 }:=
   I.laid (λb u e=>yw _ e) (yh _) ⟨wqqe,[.int i s.toks,u],.cons ⟨_,rfl⟩ (.cons ru .nil),⟨_,Ye _ rfl,rfl,_,rfl⟩⟩
  have r:∀ b∈[e,it],qdp X l (upd H s.heap.objs.size (.tup [.int i,x])) b:=λb hb=>by
   obtain⟨f0,f⟩:=L b hb;show⟨?_,f⟩;rw[qi]
   .show f0
   .simp only[yv,yQ,Yw] at hb;rcases hb with rfl | rfl
    .show A.symm
    .show R.symm
  have kk:∀ b o,b∉[e,it]->(s.heap.push { cls:=.type "tuple",data:=.seq #[.int i s.toks,u] }).get? b=some o->U.get? b=some o:=λb o hb z=>by
   simp only[yv,yQ,Yw,Ky] at hb;by_cases C:b=s.heap.objs.size
   .subst C;rw[Ye _ rfl] at z;cases z;show(n.2 _ A).trans hT
   .show(n.2 b hb.1).trans (hk b o hb.1 hb.2 (push_some z C))
  have Y:=W.turnedL (h':=U) (t':=s.toks+1) (fp:=[e,it]) kk r;show⟨.ref s.heap.objs.size,_,Y,rfl,⟨_,x,rfl,fre,rfl,λys hy=>by rw[I.list_inj hy B];show N⟩,⟨⟨_,by simpa using J⟩,t.at λo y=>(n.2 it q.symm).trans y⟩,λb hb=>(r b hb).1⟩
 done:=by
  intro X G hw F hc i l s σ H E I L st M;subst G hw F;obtain⟨⟨g,m⟩,j⟩:=st;obtain⟨xs,B,N⟩:=M;obtain⟨O,S,p,C⟩:=I.list B;have hl:=S.length;show wpAny_pyNext_enum_end (I.ok.hd hc) m j p.isList (Array.getElem?_eq_none (by simp;lk)) λh' Z=>⟨rfl,I.turnedL (t':=s.toks) (fp:=[e,it]) (λb o hb z=>Z b o (λT=>hb (by simp[T])) z) L⟩
 self:=λ_ _ _ _ _ st h=>by
  obtain⟨⟨g,m⟩,_⟩:=st;show wpAny_pyIter_enum m h
theorem boot_enumerate:bootBuiltins "enumerate"=some (.type "enumerate"):=by room
def qgL(K:yg)(c:TA):TI:=fun σ H R=>c σ H λvs b=>∃ a xs,vs=[.ref a]/\SqL K b a xs/\R (Ite K a) b
theorem pi_enum{K:yg}{a:Expr}{i:TA}{x1}{A p:Pos}(l:X.K=K)(n:Gl X "enumerate")(u:X.mg "enumerate"=none)(m:PA X [a] i)(w:starEach [a] X.env=[(false,eval a X.env)]:=by rfl):PI X (.Tuple es x1 A) (.Call (.Name "enumerate" p) [a] [] pos) (qgL K i):=by
 subst l;intro d s σ H R I h;show Call_ (qbJ I n u boot_enumerate (xE (thn (m pos d s σ H _ I h) λus f ⟨vs,j,c,z,y⟩=>?_) w rfl));obtain⟨a,xs,e,v,q⟩:=y;subst e
 cases z with
 | cons r rr =>
  cases rr;cases r;obtain⟨x,C,pl,B⟩:=c.list v;show call_enumerate_list pl.isList λh' g o hsz t=>wpAny_pyIter_enum g ?_;show⟨_,[f.heap.objs.size+1,f.heap.objs.size],_,_,j,rfl,c.kept (t':=f.toks) t,turn_enum a _ _ (Nat.succ_ne_self _),⟨⟨_,g⟩,o⟩,λb hb=>?_,q⟩;simp only[yv,yQ,Yw] at hb;rcases hb with rfl | rfl
  .show c.fpOk (XY _) (c.hok.fresh (XY _))
  .show c.fpOk (yh _) (c.hok.fresh (yh _))
theorem for_enum{K:yg}{a:Addr}{xs:List V}{g:TG}{l:TS}{D:Ends}(b:Nat->St->Hp->Prop)(n:b 0 σ H)(hl:∀ i σ H,i<=xs.length->b i σ H->SqL K H a xs)
  (s:∀ i x t σ H,xs[i]?=some x->H t=none->b i σ H->g (.ref t) σ (upd H t (.tup [.int i,x])) λd h=>l { D with nx:=b (i+1),ct:=b (i+1),bk:=D.nx } d h) (o:∀ σ H,b xs.length σ H->D.nx σ H) :
  ∃ W:Nat->Nat->St->Hp->Prop,(∃ m,W 0 m σ H)/\∀ i m σ H,W i m σ H ->
   ((Ite K a).stop i H/\D.nx σ H)\/((Ite K a).go i H/\∃ N:St->Hp->Prop,(∀ c H',N c H'->∃ j,j<m/\W (i+1) j c H')/\∀ x H',(Ite K a).yld i H x H'->g x σ H' λd h=>l { D with nx:=N,ct:=N,bk:=D.nx } d h):=by
 show⟨λi m σ H=>m=xs.length-i/\i<=xs.length/\b i σ H,⟨xs.length,by simp,Yx _,n⟩,?_⟩;rintro i m σ H ⟨rfl,r,p⟩;have q:=hl i σ H r p;by_cases f:i<xs.length
 .show .inr ⟨⟨xs,xs[i],q,by simp[f]⟩,b (i+1),λc H' w=>⟨xs.length-(i+1),by lk,rfl,f,w⟩,λx H' y=>?_⟩;obtain⟨t,v,rfl,u,rfl,y⟩:=y;show s i v t σ _ (y xs q) u p
 .have e:i=xs.length:=by lk
  subst e;show .inl ⟨⟨xs,q,yh _⟩,o σ H p⟩
theorem vEnum{K:yg}{b:TA}{R:It->Hp->Prop}(h:b σ H λvs c=>∃ a xs,vs=[.ref a]/\SqL K c a xs/\R (Ite K a) c):qgL K b σ H R:=h
section
variable{X:Cx}
end
end L2
namespace L2
open PySem PySem.Spec PyProof.Rows PySem.Builtin PySem.Builtin.Str
theorem qhu{a c:Nat}(h:a+100<c):a+1<c:=by lk
theorem vDGet2{e ty f:TE}{b:St}{H:Hp}{Q:VK}(h:e b H λx c=>∃ a,x=.ref a/\IsD c a/\ty b c λy g=>f b g λz d=>∃ o,DGet d a y o/\Q (o.getD z) d):qfR e ty f b H Q:=h
end L2
namespace L2
open PySem PySem.Spec PyProof.Rows
theorem eqV_strD(a b:Str):eqV (.str a) (.str b)=decide (a=b):=by
 have e:eqV (.str a) (.str b)=(a==b):=by simp[eqV]
 rw[e,Yu,Ym,yJ]
theorem qc7:∀(c:LS) (y:Str) (m:Nat) (b:m<c.length),m<c.idxOf y->c[m]≠y
 | [],_,_,b,_=>by simp at b
 | a::r,y,m,b,h=>by
  rw[List.idxOf_cons] at h;by_cases e:a=y
  .subst e;simp at h
  .have hb:(a==y)=false:=Yy.mpr e;rw[hb] at h
   cases m with
   | zero=>show e
   | succ k =>
    have d:k<r.idxOf y:=by
     have h:k+1<r.idxOf y+1:=h;lk
    show qc7 r y k (by simpa using b) d
section
variable{X:Cx}{K:yg}
def rIndex(K:yg):V->List V->Hp->VK->Prop:=λx vs H Q=>∃(p:Addr) (a:LS) (y:Str),x=.ref p/\vs=[.str y]/\SqL K H p (a.map V.str)/\y∈a/\Q (.int (a.idxOf y:Nat)) H
theorem qe2(C:X.K=K):MtR X "list.index" (rIndex K):=by
 subst C;intro A s P H x vs v us Q I M L h;obtain⟨p,b,y,rfl,rfl,D,G,q⟩:=h;cases M;obtain⟨u,rfl,J⟩:=L.one;obtain⟨a,r,pl,z⟩:=I.list D;obtain⟨⟨cls,B,data,N⟩,t,hc,n,o⟩:=id pl.isList;simp only at hc o;subst hc o;have fs:(b.map V.str).all qae=true:=by rw[kM];show Yr.mpr λ_ _=>rfl
 have c:(b.map V.str).length=a.length:=r.length;rw[ya] at c;have f:b.idxOf y<b.length:=List.idxOf_lt_length_iff.mpr G
 have at_:∀(m:Nat) (j:m<b.length) (d:m<a.toArray.size),eqU (.str y) a.toArray[m]=decide (b[m]=y):=λm j d=>by
  have g:(b.map V.str)[m]?=some (.str b[m]):=by rw[yd,yb j];rfl
  obtain⟨w,hw,l⟩:=r.get g
  have e:a.toArray[m]=w:=by
   have:a.toArray[m]?=some w:=by simpa using hw
   rw[Array.getElem?_eq_getElem d] at this;show ym this
  rw[e,qeT l rfl,eqV_strD]
 have O:b.length<=sizeLine:=by rw[ya] at z;show z
 have E:sizeLine<2 ^ 63-1:=by decide
 show kP kc ⟨_,t,rfl⟩ PySem.F.entry_list_index (PySem.F.args_list_index_2 _ _)
  (SeqAt.list_indexAt p a.toArray n B N u (eqU (.str y)) (b.idxOf y) (by simpa [<- c] using f) (by lk) ?_ ?_) ⟨t,λw hw=>qan J rfl r fs w (by simpa using hw),.int _,H,I.tok _,⟨_,rfl⟩,q⟩
 .rw [at_ _ f];show yz (xP f)
 .intro m j i;rw[at_ m (by lk)];show yl λe=>qc7 b y m (by lk) i e
end
theorem qag(xs:List V)(k:Nat):qcr xs none (some (k:Int))=xs.take k:=by
 unfold qcr;rw[HT.sIx_none,HT.sIx_nat,List.drop_zero,Kx];by_cases h:k<=xs.length
 .rw [Kq h]
 .rw [Kh (by lk),YW (yh _),YW (by lk)]
theorem qaT(xs:List V)(k:Nat):qcr xs (some (k:Int)) none=xs.drop k:=by
 unfold qcr;rw[HT.sIx_none,HT.sIx_nat];by_cases h:k<=xs.length
 .rw [Kq h,YW (by rw[YU];lk)]
 .rw [Kh (by lk),Ki,List.drop_of_length_le (by lk)];simp
section
variable{X:Cx}{K:yg}
theorem qea:∀{ns:LQ} {us:List Value},Vals (ns.map V.int) us->IntsAre us ns
 | [],_,.nil=>.nil
 | n::ns,_,.cons r t=>by
  obtain⟨tk,rfl⟩:=r;show .cons n tk (qea t)
def rSum(K:yg):List V->Hp->VK->Prop:=λxs H Q=>∃(p:Addr) (ns:LQ),xs=[.ref p]/\SqL K H p (ns.map V.int)/\Q (.int ns.sum) H
theorem k_sum(i:X.K=K)(hc:X.calm=true):zL X (.builtin "sum") (rSum K):=by
 subst i;intro e s t H xs us Q I r h;obtain⟨p,ns,rfl,l,q⟩:=h;obtain⟨u,rfl,m⟩:=qbn r;cases m;obtain⟨b,n,pl,o⟩:=I.list l;have c:=qea n;obtain⟨xs,d⟩:=c.allInts.items;have a:s.heap.IsList p (intItems xs):=d ▸ pl.isList;show sum_intListG (I.ok.hd hc) a λh' tk t' j=>?_
 have f:ns=xs.toList.map (·.1):=by
  rw[<- nums_intItems,<- d];show(show numsOf b.toArray.toList=ns from c.numsOf).symm
 have g:preSum (numAt xs) xs.size=ns.sum:=by
  rw[preSum_eq,YW (by simp),f]
 rw[g];show⟨.int _,H,I.kept j,⟨_,rfl⟩,q⟩
theorem boot_sum:bootBuiltins "sum"=some (.builtin "sum"):=by room
end
end L2
namespace HT
open PySem PySem.Spec PyProof.Rows
section
variable{prog:Program}{w:World}{A:Around}{E:Value->Shared->Prop}{s:Shared}
end
end HT
namespace L2
open PySem PySem.Spec PyProof.Rows
def tStep(K:yg)(e:TE)(f:TO):TE:=λc H Q=>e c H λx d=>f c d λo b=>∃ a y z,x=.ref a/\SqT K b a [y,z]/\((o=some (-1)/\∀ p,b p=none->Q (.ref p) (upd b p (.tup [z,y])))\/(o=some 1/\Q (.ref a) b))
theorem vStep{K:yg}{d:TE}{e:TO}{c:St}{H:Hp}{Q:VK}(h:d c H λx f=>e c f λo b=>∃ a y z,x=.ref a/\SqT K b a [y,z]/\((o=some (-1)/\∀ p,b p=none->Q (.ref p) (upd b p (.tup [z,y])))\/(o=some 1/\Q (.ref a) b))):tStep K d e c H Q:=h
section
variable{X:Cx}{K:yg}{e st:Expr}{te:TE}{ts:TO}{p2 pos:Pos}
end
def FG(K:yg)(nm:Str)(st:Stmt):Prop:=∃ f a,PySem.W.nsIn K mainGlobals nm=some (some (.ref f))/\Fun K nm nm st f a
def FM(K:yg)(C:Addr)(m b:Str)(st:Stmt):Prop:=∃ f a,PySem.W.findIn K (.ref C) m=some (some (.ref f))/\PySem.W.isFn K (.ref f)=true/\Fun K m b st f a
def FC(K:yg)(C:Addr)(m b:Str)(st:Stmt):Prop:=∃ f a,PySem.W.findCls K (.ref C) (.type "type") m=some (.val (.ref f))/\Fun K m b st f a
structure XQ(K:yg)(C:Addr):Prop where
 xa:PySem.W.findIn K (.ref C) "__getattribute__"=some (some (.builtin "BaseException.__getattribute__"))
 xb:PySem.W.findIn K (.ref C) "__getattr__"=some none
 xd:PySem.W.mroIn K C (.type "BaseException")=some true
 xe:PySem.W.mroIn K C (.type "object")=some true
 xf:PySem.W.hasDictIn K C=true
 xg:PySem.W.findIn K (.ref C) "__class__"=some (some (.builtin "object.__class__"))
 xh:PySem.W.findIn K (.ref C) "__setattr__"=some (some (.builtin "object.__setattr__"))
 p:PySem.W.keepIn K (.ref C)=true
section
variable{P:Program}{w:World}{K:yg}{mg:Str->Option Value}{base h:Heap}{CX:CXT}{k:Nat}{sp:Sp}{st:Stmt}{f:Addr}{fd:FuncData}{ps:LS}{nm m ql x:Str}{C:Addr}
theorem lN0{P:List Value->Prop}(h:P []):∀ us:List Value,us.length=0->P us:=λus e=>by rw[List.eq_nil_of_length_eq_zero e];show h
theorem lNs{P:List Value->Prop}{n:Nat}(h:∀ a r,r.length=n->P (a::r)):∀ us:List Value,us.length=n+1->P us:=λus e=>by
 cases us with
 |nil=>cases e
 |cons a r=>show h a r (Nat.succ.inj e)
theorem lN1{P:List Value->Prop}(h:∀ a,P [a]):∀ us:List Value,us.length=1->P us:=lNs λa=>lN0 (h a)
theorem lN2{P:List Value->Prop}(h:∀ a b,P [a,b]):∀ us:List Value,us.length=2->P us:=lNs λa=>lN1 (h a)
theorem lN3{P:List Value->Prop}(h:∀ a b c,P [a,b,c]):∀ us:List Value,us.length=3->P us:=lNs λa=>lN2 (h a)
theorem lN4{P:List Value->Prop}(h:∀ a b c d,P [a,b,c,d]):∀ us:List Value,us.length=4->P us:=lNs λa=>lN3 (h a)
theorem lN5{P:List Value->Prop}(h:∀ a b c d e,P [a,b,c,d,e]):∀ us:List Value,us.length=5->P us:=lNs λa=>lN4 (h a)
theorem lN6{P:List Value->Prop}(h:∀ a b c d e g,P [a,b,c,d,e,g]):∀ us:List Value,us.length=6->P us:=lNs λa=>lN5 (h a)
abbrev BA(x ql:Str)(st:Stmt)(ps:LS):Prop:=∀(kV b d:Value) (c:Option Addr) (a ct:Value) (us:List Value),us.length=ps.length->bindArgs (PySem.W.fnOf x ql (qaA st) (zN st) (qg st) .none kV b d c a ct) ⟨us,[]⟩=pure (ps.zip us)
theorem fg_mk(X:K.In h)(G:h.Ns mainGlobals mg)(a:PySem.W.nsIn K mainGlobals nm=some (some (.ref f)))(F:Fun K nm nm st f fd)(o:FnOk P w K mg base CX k f fd ps sp)
  (hb:BA nm nm st ps:=by first | (show λ_ _ _ _ _ _=>lN1 λ_=>rfl) | (show λ_ _ _ _ _ _=>lN2 λ_ _=>rfl) | (show λ_ _ _ _ _ _=>lN3 λ_ _ _=>rfl) | (show λ_ _ _ _ _ _=>lN4 λ_ _ _ _=>rfl)) :
  DefOk P w K mg base CX k nm ps sp:=⟨_,_,o,Kb X G a,F.kp,F.binds hb⟩
theorem fm_mk(b:Cls K C)(a:PySem.W.findIn K (.ref C) m=some (some (.ref f)))(n:PySem.W.isFn K (.ref f)=true)(F:Fun K m ql st f fd)(o:FnOk P w K mg base CX k f fd ps sp)
  (hb:BA m ql st ps:=by first | (show λ_ _ _ _ _ _=>lN1 λ_=>rfl) | (show λ_ _ _ _ _ _=>lN2 λ_ _=>rfl) | (show λ_ _ _ _ _ _=>lN3 λ_ _ _=>rfl) | (show λ_ _ _ _ _ _=>lN4 λ_ _ _ _=>rfl)) :
  MethOk P w K mg base CX k C m ps sp:=⟨⟨_,_,o,⟨a,n,F.kp⟩,F.binds hb⟩,b⟩
theorem fw_mk(X:K.In h)(G:h.Ns mainGlobals mg)(c:PySem.W.nsIn K mainGlobals x=some (some (.ref C)))(b:PySem.W.makesIn K C=true)(d:PySem.W.keepIn K (.ref C)=true)(a:PySem.W.findIn K (.ref C) "__init__"=some (some (.ref f)))(n:PySem.W.isFn K (.ref f)=true)(F:Fun K "__init__" ql st f fd)(o:FnOk P w K mg base CX k f fd ps sp)
  (hb:BA "__init__" ql st ps:=by first | (show λ_ _ _ _ _ _=>lN1 λ_=>rfl) | (show λ_ _ _ _ _ _=>lN2 λ_ _=>rfl) | (show λ_ _ _ _ _ _=>lN3 λ_ _ _=>rfl)) :
  MakeOk P w K mg base CX k C x ps sp:=⟨⟨_,_,o,⟨b,a,n,d⟩,F.binds hb⟩,Kb X G c⟩
theorem qgM(X:K.In h)(G:h.Ns mainGlobals mg)(c:PySem.W.nsIn K mainGlobals x=some (some (.ref C)))(Y:XAt K C)(q:XQ K C)(a:PySem.W.findIn K (.ref C) "__init__"=some (some (.ref f)))(n:PySem.W.isFn K (.ref f)=true)(F:Fun K "__init__" ql st f fd)(o:wqqb k f fd ps sp)
  (hb:BA "__init__" ql st ps:=by first | (show λ_ _ _ _ _ _=>lN1 λ_=>rfl) | (show λ_ _ _ _ _ _=>lN2 λ_ _=>rfl)) :
  XMakeOk P w K mg base k C x ps sp:=⟨⟨_,_,o,⟨Y,a,n,q.p⟩,F.binds hb⟩,Kb X G c⟩
theorem fc_mk(X:K.In h)(G:h.Ns mainGlobals mg)(c:PySem.W.nsIn K mainGlobals x=some (some (.ref C)))(a:PySem.W.readsIn K C (.type "type")=true)(b:PySem.W.findCls K (.ref C) (.type "type") m=some (.val (.ref f)))(d:PySem.W.specialIn K (.ref C) "__getattribute__"=some (some (.builtin "type.__getattribute__")))(F:Fun K m ql st f fd)(o:FnOk P w K mg base CX k f fd ps sp)
  (hb:BA m ql st ps:=by(show λ_ _ _ _ _ _=>lN2 λ_ _=>rfl)) :
  CMethOk P w K mg base CX k C x m ps sp:=⟨⟨_,_,o,⟨a,b,d,F.kp⟩,F.binds hb⟩,Kb X G c⟩
theorem qfH{c:List Value}(x:XL K C c)(hb:qcN c=true)(q:XQ K C)(a:PySem.W.specialIn K (.builtin "object.__class__") "__get__"=some (some (.builtin "getset_descriptor.__get__")))(b:PySem.W.takesIn K (.builtin "object.__class__")=some true):XAt K C:=x.xat hb q.xa q.xb q.xd q.xe q.xf q.xg a b q.xh
end
end L2
namespace HT
open PySem PySem.Spec PyProof.Rows
section
variable{prog:Program}{w:World}{A:Around}{E:Value->Shared->Prop}{s:Shared}
end
end HT
namespace L2
open PySem PySem.Spec PyProof.Rows
section
variable{X:Cx}{K:yg}{pos p:Pos}{x:Str}
end
section
variable{X:Cx}{K:yg}{e lo st:Expr}{te:TE}{tl ts:TO}{p2 pos:Pos}
def qhv(K:yg)(te:TE):TI:=λc H R=>te c H λv b=>∃ a xs,v=.ref a/\SqL K b a xs/\R (Itl K a) b
theorem qe3{K:yg}{te:TE}{c:St}{H:Hp}{R:It->Hp->Prop}(h:te c H λv b=>∃ a xs,v=.ref a/\SqL K b a xs/\R (Itl K a) b):qhv K te c H R:=h
theorem qc8{t:Expr}(j:X.K=K)(l:PE X e te):PI X t e (qhv K te):=by
 subst j;intro c s u H R I h;show thn (l c s u H _ I h) λv d ⟨y,g,f,r,a,xs,i,m,q⟩=>?_;subst i;cases r
 have fp:∀ b∈[d.heap.objs.size],qdp X c g b:=λb hb=>by
  have e:b=d.heap.objs.size:=by simpa using hb
  subst e;show f.fpOk (yh _) (f.hok.fresh (yh _))
 obtain⟨n,x,p,w⟩:=f.list m;show kU p.isList ⟨d.heap.objs.size,[d.heap.objs.size],_,_,g,rfl,f.kept (t':=d.toks) λb o e=>yw _ e,qcQ a _,⟨_,Ye _ rfl,rfl,rfl⟩,fp,q⟩
end
theorem qeb:∀{xs:List V} {us:List Value},Vals xs us->Vals xs.reverse us.reverse
 | _,_,.nil=>.nil
 | _,_,.cons r t=>by
  rw[List.reverse_cons,List.reverse_cons];show(qeb t).append (.cons r .nil)
section
variable{X:Cx}{K:yg}{e st:Expr}{te:TE}{ts:TO}{p2 pos:Pos}
end
section
variable{X:Cx}{a:Expr}{ta:TA}{p p2 pos pos2:Pos}
end
end L2
namespace L2
structure Sb(V:Nat->Prop):Prop where
 z:V 0
 a:∀ x y,V x->V y->V (x ^^^ y)
def jn(V:Nat->Prop)(x:Nat):Nat->Prop:=λy=>V y\/V (y ^^^ x)
def Spn:LN->Nat->Prop
 | []=>λy=>y=0
 | a::L=>jn (Spn L) a
open Classical in
def Bnd(b n v:Nat):Prop:=∀ i,v.testBit i=true->b<=i/\i<b+n
open Classical in
def swp:Nat->Nat->LN->Nat
 | 0,_,_=>0
 | n+1,b,L=>match L.filter (λv=>v.testBit b) with
  | []=>swp n (b+1) L
  | p::t=>1+swp n (b+1) (L.filter (λv=>!v.testBit b)++t.map λv=>v ^^^ p)
open Classical in
def rk(L:LN):Nat:=swp 30 0 L
open Classical in
def les:Nat×Nat->List (Nat×Nat)->Nat×Nat
 | s,[]=>s
 | s,o::os=>if s.1 ^^^ o.1<s.1 then les (s.1 ^^^ o.1,s.2 ^^^ o.2) os else les s os
structure Ech(os:List (Nat×Nat)):Prop where
 nz:∀ o∈os,o.1≠0
 pw:os.Pairwise λa b=>b.1.testBit a.1.log2=false
def csm:LN->Nat->Nat->Nat
 | [],_,_=>0
 | a::L,k,c=>(if c.testBit k then a else 0) ^^^ csm L (k+1) c
def stp(st:List (Nat×Nat))(n v:Nat):List (Nat×Nat):=if (les (v,1 <<< n) st).1=0 then st else st++[les (v,1 <<< n) st]
structure Stp(L:LN)(n:Nat)(st:List (Nat×Nat)):Prop where
 ech:Ech st
 sum:∀ o∈st,csm L 0 o.2=o.1
 low:∀ o∈st,o.2<2 ^ n
 lt:∀ o∈st,o.1<2 ^ 30
 spn:∀ v,Spn (st.map (·.1)) v↔Spn (L.take n) v
 free:st.map (λo=>o.2.log2)=(List.range n).filter λi=>decide (rk (L.take i)<rk (L.take (i+1)))
 len:st.length<=n
end L2
namespace L2
open PySem PySem.Spec PyProof.Rows
variable{H:Hp}{σ:St}
section
variable{X:Cx}
end
def Fl:V->Prop
 | .non=>True
 | .bl _=>True
 | .int i=>-999999999999<=i/\i<=999999999999
 | _=>False
def fD:V->PyData
 | .non=>.none
 | .bl b=>.bool b
 | .int i=>.int i
 | .str x=>.str x
 | _=>.none
def FlS(xs:List V):Prop:=xs.length<=1000/\∀ x∈xs,Fl x
def ShwT(H:Hp)(v:V)(t:Str):Prop:=match v with
 | .non=>t="None"
 | .bl b=>t=if b then Str.ofString "True" else Str.ofString "False"
 | .int i=>i.natAbs.log2<1920/\t=toString i
 | .str x=>(reprText x).length<=sizeLine/\t=reprText x
 | .ref p=>(∃ xs,H p=some (.lst xs)/\FlS xs/\t=(PyData.list (xs.map fD)).shown)\/∃ xs,H p=some (.tup xs)/\FlS xs/\t=(PyData.tuple (xs.map fD)).shown
 | _=>False
section
variable{X:Cx}{K:yg}
end
section
variable{K:yg}{a:Addr}{xs:List V}{g:TG}{tc:TT}{te:TE}{σ':St}{H1:Hp}{Q:V->Hp->Prop}
end
theorem bit_nat(m j:Nat):decide (Builtin.bitAnd ((m:Int) / 2 ^ (j:Int).toNat) 1=1)=m.testBit j:=by
 rw[km,Nat.testBit_eq_decide_div_mod_eq];rw[yS]
 have e:((m:Int) / 2 ^ j) % 2=((m / 2 ^ j % 2:Nat):Int):=by
  rw[Int.natCast_emod,Int.natCast_ediv,xU];rfl
 rw[e];by_cases h:m / 2 ^ j % 2=1
 .rw [h];rfl
 .rw [yl h,yl (by lk)]
theorem bit0_nat(m j:Nat):decide (Builtin.bitAnd ((m:Int) / 2 ^ (j:Int).toNat) 1=0)=!m.testBit j:=by
 rw[<- bit_nat m j,km];have h:((m:Int) / 2 ^ (j:Int).toNat) % 2=0\/((m:Int) / 2 ^ (j:Int).toNat) % 2=1:=by lk
 rcases h with h | h<;>rw[h]<;>rfl
section
variable{K:yg}{a b:Addr}{xs ys:List V}{g:TG}{tc:TT}{te:TE}{σ':St}{H1:Hp}{Q:V->Hp->Prop}
end
section
variable{X:Cx}{K:yg}
end
theorem pick_one(a:List Value):slicePick a.toArray none none (some 1)=a.toArray:=by
 have e:slicePick a.toArray none none (some 1)=slicePick a.toArray none none none:=rfl;rw[e,qaL,HT.sIx_none,HT.sIx_none];simp
def qhw(K:yg)(d:TE)(e:TO):TE:=fun σ H Q=>d σ H λx c=>e σ c λo b=>∃ a xs,x=.ref a/\SqL K b a xs/\((o=some (-1)/\∀ p,b p=none->Q (.ref p) (upd b p (.lst xs.reverse)))\/(o=some 1/\∀ p,b p=none->Q (.ref p) (upd b p (.lst xs))))
theorem vRv2{K:yg}{c:TE}{d:TO}{Q:VK}(h:c σ H λx e=>d σ e λo b=>∃ a xs,x=.ref a/\SqL K b a xs/\((o=some (-1)/\∀ p,b p=none->Q (.ref p) (upd b p (.lst xs.reverse)))\/(o=some 1/\∀ p,b p=none->Q (.ref p) (upd b p (.lst xs))))):qhw K c d σ H Q:=h
section
variable{X:Cx}{K:yg}{e st:Expr}{te:TE}{ts:TO}{p2 pos:Pos}
theorem pe_rv2(B:X.K=K)(C:PE X e te)(D:PO X (some st) ts):PE X (.Subscript e (.Slice none none (some st) p2) pos) (qhw K te ts):=by
 subst B;intro c s σ H Q I h;show Subscript_ (thn (C c s σ H _ I h) λv L ⟨x,p,u,J,G⟩=>?_);show wpAny_Slice ?_;rw[evalPart_none];show yE ?_;show yE ?_;show thn (D c L σ p _ u G) λn d ⟨o,t,y,pt,a,xs,z,E,q⟩=>?_;subst z;cases J;have f:Inv X c σ t { d with heap:=d.heap.push { cls:=.type "slice",data:=.fields #[.none,.none,n] } }:=y.kept (t':=d.toks) λb m q=>yw _ q;obtain⟨F,r,g,l⟩:=f.list E;have j:=r.length;show wpAny (model X.prog X.w) X.A (subscriptTail e (.Slice none none (some st) p2) (.ref a) (.ref d.heap.objs.size)) (EP X c σ Q) X.xe { d with heap:=d.heap.push { cls:=.type "slice",data:=.fields #[.none,.none,n] } };rcases q with⟨i,q⟩ | ⟨i,q⟩
 .subst i;show tail_any (ops:=[.ref a,.ref d.heap.objs.size]) g.isList.typeIs kj.lookup (XR g.isList (kO ..) .none .none pt (by decide) ?_ (by rw[yA]<;>lk)) (by with_unfolding_all rfl);rw[PySem.W.krv_pick];show⟨.ref _,_,f.laid (t':=d.toks) (o:=.lst xs.reverse) (λb m q=>yw _ q) (yh _) ?_,rfl,q _ (f.hok.fresh (yh _))⟩;show⟨by rw[xk];show l,_,0,qeb r,Ye _ rfl⟩
 .subst i;show tail_any (ops:=[.ref a,.ref d.heap.objs.size]) g.isList.typeIs kj.lookup (XR g.isList (kO ..) .none .none pt (by decide) ?_ (by rw[yA]<;>lk)) (by with_unfolding_all rfl);rw[pick_one];show⟨.ref _,_,f.laid (t':=d.toks) (o:=.lst xs) (λb m q=>yw _ q) (yh _) ?_,rfl,q _ (f.hok.fresh (yh _))⟩;show⟨l,_,0,r,Ye _ rfl⟩
end
mutual
inductive Dat(H:Hp):V->PyData->Prop
 | non:Dat H .non .none
 | bl (b:Bool):Dat H (.bl b) (.bool b)
 | int (i:Int):Dat H (.int i) (.int i)
 | str (x:Str):Dat H (.str x) (.str x)
 | lst {a:Addr} {xs:List V} {ds:List PyData}:H a=some (.lst xs)->DatS H xs ds->Dat H (.ref a) (.list ds)
 | tup {a:Addr} {xs:List V} {ds:List PyData}:H a=some (.tup xs)->DatS H xs ds->Dat H (.ref a) (.tuple ds)
 | dnil {a:Addr}:H a=some (.dK [])->Dat H (.ref a) (.dict [])
inductive DatS(H:Hp):List V->List PyData->Prop
 | nil:DatS H [] []
 | cons {v:V} {vs:List V} {d:PyData} {ds:List PyData}:Dat H v d->DatS H vs ds->DatS H (v::vs) (d::ds)
end
theorem Dat.same{H H':Hp}(s:Same H H'){v:V}{d:PyData}(h:Dat H v d):Dat H' v d:=
 Dat.rec (H:=H) (motive_1:=λv d _=>Dat H' v d) (motive_2:=λvs c _=>DatS H' vs c) .non .bl .int .str (λe _ r=>.lst (s _ _ e) r) (λe _ r=>.tup (s _ _ e) r) (λe=>.dnil (s _ _ e)) .nil (λ_ _ a b=>.cons a b) h
structure Shw(d:PyData)(n m:Nat):Prop where
 s:d.showable=true
 l:d.leavesShort 13=true
 b:d.bulk<=n
 p:d.depth<=m
structure ShwS(ds:List PyData)(n m:Nat):Prop where
 s:PyData.showableAll ds=true
 l:PyData.leavesShortAll 13 ds=true
 b:PyData.bulkAll ds<=n
 p:PyData.depthAll ds<=m
theorem ShwS.nil{m:Nat}:ShwS [] 0 m:=⟨rfl,rfl,yh _,Yx _⟩
theorem ShwS.cons{d:PyData}{a:List PyData}{n c m:Nat}(h:Shw d n m)(r:ShwS a c m):ShwS (d::a) (n+1+c) m:=
  ⟨by show(PyData.showable d&&PyData.showableAll a)=true;rw[h.s,r.s];rfl,by show(PyData.leavesShort 13 d&&PyData.leavesShortAll 13 a)=true;rw[h.l,r.l];rfl,
   by have:=h.b;have:=r.b;show PyData.bulk d+1+PyData.bulkAll a<=_;lk,
   by have:=h.p;have:=r.p;simp only[PyData.depthAll];lk⟩
theorem ShwS.mono{a:List PyData}{n d m c:Nat}(h:ShwS a n m)(f:n<=d)(e:m<=c):ShwS a d c:=⟨h.s,h.l,yi h.b f,yi h.p e⟩
theorem Shw.mono{d:PyData}{n c m a:Nat}(h:Shw d n m)(f:n<=c)(e:m<=a):Shw d c a:=⟨h.s,h.l,yi h.b f,yi h.p e⟩
theorem ShwS.list{a:List PyData}{n m:Nat}(h:ShwS a n m):Shw (.list a) n (m+1):=
 ⟨by simpa only[PyData.showable] using h.s,by simpa only[PyData.leavesShort] using h.l,by simpa only[PyData.bulk] using h.b,by have:=h.p;simp only[PyData.depth];lk⟩
theorem ShwS.tuple{a:List PyData}{n m:Nat}(h:ShwS a n m):Shw (.tuple a) n (m+1):=
 ⟨by simpa only[PyData.showable] using h.s,by simpa only[PyData.leavesShort] using h.l,by simpa only[PyData.bulk] using h.b,by have:=h.p;simp only[PyData.depth];lk⟩
theorem Shw.non{m:Nat}:Shw .none 0 m:=⟨rfl,rfl,yh _,Yx _⟩
theorem Shw.bl{b:Bool}{m:Nat}:Shw (.bool b) 0 m:=⟨rfl,rfl,yh _,Yx _⟩
theorem Shw.int{i:Int}{m:Nat}(h1:-999999999999<=i)(a:i<=999999999999):Shw (.int i) 0 m:=
 ⟨yz (log2_small (yj (show i.natAbs<2 ^ 40 by lk) (Y7 (by decide) (by decide)))),yz (PyData.shown_int_le2 h1 a),yh _,Yx _⟩
theorem Shw.str{x:Str}{m:Nat}(h:∀ c∈x.cps.toList,c<16 ^ 8):Shw (.str x) x.length m:=
 ⟨rfl,by simpa only[PyData.leavesShort,Yr,decide_eq_true_eq] using h,yh _,Yx _⟩
theorem Shw.dnil{m:Nat}:Shw (.dict []) 0 (m+1):=⟨rfl,rfl,yh _,by simp[PyData.depth,PyData.depthKv]⟩
section
variable{X:Cx}{K:yg}{pins:List (Addr×Obj)}{σ:List (Option V)}{H:Hp}{s:Shared}
theorem Dat.reads(I:Inv X pins σ H s)(M:H sysModules=none){v:V}{d:PyData}(h:Dat H v d):∀ u,RelV v u->∃ c,Reads s.heap u d c/\sysModules∉c:=
 Dat.rec (H:=H) (motive_1:=λv d _=>∀ u,RelV v u->∃ c,Reads s.heap u d c/\sysModules∉c) (motive_2:=λvs m _=>∀ us,Vals vs us->∃ c,ReadsAll s.heap us m c/\sysModules∉c)
  (λu r=>⟨[],by cases r;show .none,nofun⟩) (λb u r=>⟨[],by cases r;show .bool b,nofun⟩) (λi u r=>⟨[],by obtain⟨t,rfl⟩:=r;show .int i t,nofun⟩) (λx u r=>⟨[],by obtain⟨t,rfl⟩:=r;show .str x t,nofun⟩)
  (λ{a xs m} e _ B u r=>by
   cases r;obtain⟨z,f,n,F,g⟩:=I.hok a _ e;obtain⟨c,l,A⟩:=B f F;show⟨a::c,.list g rfl rfl (by rw[List.toList_toArray];show l),λj=>?_⟩;rcases yv.mp j with z | z
   .rw [z,e] at M;cases M
   .show A z)
  (λ{a xs m} e _ B u r=>by
   cases r;obtain⟨f,F,⟨o,p,g,n,q⟩,_⟩:=I.tuple (SqT.of e);obtain⟨c,l,A⟩:=B f F;show⟨c,.tuple p g q (by rw[List.toList_toArray];show l),A⟩)
  (λ{a} e u r=>by
   cases r;obtain⟨z,K,vs,E,o,J,ep,p,g,q,P,G,R⟩:=qgB I.hok e;cases E;have L:J.toList=[]:=by cases w:J.toList with | nil=>rfl | cons y ys=>rw[w] at G;cases G
   show⟨a::[]++[],.dict p g.1 q (by rw[L];show .nil) (by rw[L];show .nil),λj=>?_⟩;rcases yv.mp j with z | z
   .rw [<- z] at K;simp at K
   .cases z)
  (λus r=>by cases r;show⟨[],.nil,nofun⟩)
  (λ_ _ C D us r=>by
   cases r with
   | cons r rr =>
    obtain⟨c,l,N⟩:=C _ r;obtain⟨bs,O,nb⟩:=D _ rr;show⟨c++bs,.cons l O,λj=>(yG.mp j).elim N nb⟩) h
def rReprD:List V->Hp->VK->Prop:=λxs H Q=>∃ v d,xs=[v]/\Dat H v d/\Shw d (2 ^ 20) 60/\Q (.str d.shown) H
theorem qbe(n:X.K=K)(E:X.A.units+100<cLine)(f:X.A.guards=some [])(y:∃ o,K.lookup sysModules=some o):zL X (.builtin "repr") rReprD:=by
 subst n;intro pins s σ H xs us Q I r h;obtain⟨v,d,rfl,m,hw,q⟩:=h;obtain⟨u,rfl,a⟩:=qbn r;obtain⟨o,w⟩:=y;have t:H sysModules=none:=(I.bs _ _ (I.mod.kin _ _ w)).2;have hsz:d.shown.length<=sizeLine:=PyData.shown_fits_bulk (B:=13) (by decide) (by decide) hw.l hw.b;obtain⟨C,j,g⟩:=m.reads I t u a;have D:=hw.p
 cases m with
 | non=>cases a;show P.repr_of_none ⟨.str _,H,I.tok _,⟨_,rfl⟩,q⟩
 | bl b=>cases a;show P.repr_of_bool ⟨.str _,H,I.tok _,⟨_,rfl⟩,q⟩
 | int i=>obtain⟨tk,rfl⟩:=a;show P.repr_of_int (yk (by simpa only[PyData.showable] using hw.s)) ⟨.str _,H,I.tok _,⟨_,rfl⟩,q⟩
 | str x=>obtain⟨tk,rfl⟩:=a;show P.repr_of_str (hsz:=hsz) ⟨.str _,H,I.tok _,⟨_,rfl⟩,q⟩
 | lst e _=>cases a;show repr_of_reads' j hw.s (λ_=>g) f (by lk) (λ_ _ z=>z) (λh' u tk c=>⟨.str _,H,I.kept (t':=tk) c,⟨_,rfl⟩,q⟩) hsz
 | tup e _=>cases a;show repr_of_reads' j hw.s (λ_=>g) f (by lk) (λ_ _ z=>z) (λh' u tk c=>⟨.str _,H,I.kept (t':=tk) c,⟨_,rfl⟩,q⟩) hsz
 | dnil e=>cases a;show repr_of_reads' j hw.s (λ_=>g) f (by lk) (λ_ _ z=>z) (λh' u tk c=>⟨.str _,H,I.kept (t':=tk) c,⟨_,rfl⟩,q⟩) hsz
end
theorem qec{f:Str×NameKind->Str×NameKind}(a:∀ y,(f y).1=y.1)(b:∀ y,(f y).2=y.2\/(f y).2=.cell):∀{ns:List (Str×NameKind)} {x:Str},(ns.lookup x=some .cell\/ns.lookup x=some .free)->((ns.map f).lookup x=some .cell\/(ns.map f).lookup x=some .free)
 | [],x,h=>by simp at h
 | y::r,x,h=>by
  have e:((y::r).map f)=((f y).1,(f y).2)::r.map f:=rfl;have c:y::r=(y.1,y.2)::r:=rfl;rw[c,xq] at h;rw[e,xq,a y]
  cases hb:x==y.1 with
  | false=>rw[hb] at h;show qec a b h
  | true =>
   rw[hb] at h;rcases b y with z | z
   .rw [z];show h
   .rw [z];show .inl rfl
theorem compB_re{sc scope:Scope}{env:Env}(h:qc3 sc scope=true):qc3 (relabel sc env) scope=true:=by
 unfold qc3 at h ⊢;rw[yL] at h ⊢;show⟨h.1,Yr.mpr λy b=>?_⟩;have:=Yr.mp h.2 y b
 cases a:y.2 with
 | free =>
  rw[a] at this;simp only[yL,Y5,Ym] at this ⊢;show⟨?_,this.2⟩;show qec (λy=>by dsimp only;split<;>rfl) (λy=>by dsimp only;split<;>simp) this.1
 | _=>rw[a] at this;first | done | show this | cases this
section
variable{X:Cx}{tg elt iter:Expr}{ifs:List Expr}{scope sc1:Scope}{pos:Pos}{N N1:LS}{nl:Nat}{ixs:LN}{wi:TI}{g:TG}{tc:TT}{te:TE}{C1:Addr}{s1:Shared}{H1:Hp}{ex1:LI}
theorem pe_compIn(N:LS)(nl:Nat)(ixs:LN)(hc:X.calm=true)(e:qc3 sc1 scope=true)(h:N.length=nl+ixs.length)(a:qgX nl ixs N N1 scope.names=true)
  (l:PI (X.comp N1 sc1 C1 s1 H1 ex1) tg iter wi) (j:∀ C d b c,PG ((X.comp N1 sc1 C1 s1 H1 ex1).comp N scope C d b c) tg g) (f:qeW nl g) (n:∀ C d b c,qgo ((X.comp N1 sc1 C1 s1 H1 ex1).comp N scope C d b c) ifs tc) (i:∀ C d b c,PE ((X.comp N1 sc1 C1 s1 H1 ex1).comp N scope C d b c) elt te)
  (m:∀ x,foldedSetIterable iter (X.comp N1 sc1 C1 s1 H1 ex1).env x=pure x:=by intro _;rfl):PE (X.comp N1 sc1 C1 s1 H1 ex1) (.ListComp elt [⟨tg,iter,ifs,0⟩] scope pos) (qfE wi g tc te nl ixs):=
 jh (sc:=relabel sc1 X.env) (XN:=N1) N nl ixs rfl rfl hc (compB_re e) h a l j f n i m
end
section
variable{X:Cx}{K:yg}
theorem vDGet1{d ty:TE}{σ:St}{H:Hp}{Q:VK}(h:d σ H λx b=>∃ a,x=.ref a/\IsD b a/\ty σ b λy c=>∃ o,DGet c a y o/\Q (o.getD .non) c):qfQ d ty σ H Q:=h
end
abbrev Cx.soft(X:Cx):Cx:={ X with calm:=false }
structure RoomW(k:Nat)(A:Around):Prop where
 dp:A.depth+3*k+5<recursionLimit
 un:A.units+16*k+200<cLine
 gd:A.guards=some []
theorem RoomW.deeper{k:Nat}{A:Around}(r:RoomW (k+1) A)(env:Env):RoomW k (A.deeper env):=
 ⟨by have:=r.dp;show A.depth+1+3*k+5<_;lk,by have:=r.un;show A.units+3+16*k+200<_;lk,r.gd⟩
theorem Room.soft{j k:Nat}{A:Around}{h:Option Value}(r:Room k A)(l:j<=k):RoomW j (A.mark h):=⟨by have:=r.dp;show A.depth+3*j+5<_;lk,by have:=r.un;show A.units+16*j+200<_;lk,r.gd⟩
structure FnOkW(P:Program)(w:World)(K:yg)(mg:Str->Option Value)(base:Heap)(k:Nat)(f:Addr)(fd:FuncData)(ps:LS)(sp:Sp):Prop where
 len:∀ vs H Q E,sp vs H Q E->vs.length=ps.length
 run:∀(A:Around) (outer:List Env) (s:Shared) (H:Hp) (args:Args) (us:List Value) (vs:List V) (Q:VK) (E:XK),RoomW k A->Env0 P w K mg base A outer s H->BindsTo s fd args (ps.zip us)->Vals vs us->sp vs H Q E ->
  codeAny (model P w) A (.call (.ref f) args) (CR CX0 outer P w H s Q E) s
structure DefOkW(P:Program)(w:World)(K:yg)(mg:Str->Option Value)(base:Heap)(k:Nat)(x:Str)(ps:LS)(sp:Sp):Prop where
 ex:∃ f fd,FnOkW P w K mg base k f fd ps sp/\mg x=some (.ref f)/\PySem.W.keepIn K (.ref f)=true/\Binds K fd ps []
section
variable{X:Cx}{k:Nat}{f C:Addr}{fd:FuncData}{ps:LS}{sp:Sp}{x m:Str}{p pos apos:Pos}{e o:Expr}{es:List Expr}{ta:TE}{t:TA}
end
section
variable{P:Program}{w:World}{K:yg}{mg:Str->Option Value}{base:Heap}
end
section
variable{prog:Program}{w:World}{A:Around}{E:Value->Shared->Prop}{s:Shared}
abbrev IsZp(h:Heap)(z TI TO:Addr)(b:Value)(a:Bool):Prop:=h.get? z=some { cls:=.type "zip",dict:=none,data:=.fields #[b,.bool a,.bool false,.ref TI,.ref TO],slots:=#[] }
def ZAt(z TI TO N:Nat)(h:Heap):Prop:=IsZip h z TI TO .none\/∃ T a o,N<=T/\IsZp h z TI TO (rawInt (T:Nat)) a/\h.get? T=some o
end
structure LZ(z TI TO i1 i2 a b S N:Nat)(xs ys:Array Value)(h0:Heap)(i:Nat)(acc:Array Value)(c:Nat)(h:Heap):Prop where
 zp:ZAt z TI TO N h
 ti:IsPair h TI (.ref i1) (.ref i2)
 tO:∃ u v,IsPair h TO u v
 j1:h.IsListIter i1 a i
 j2:h.IsListIter i2 b i
 la:h.IsList a xs
 lb:h.IsList b ys
 ls:h.get? S=some { cls:=.type "list",dict:=none,data:=.seq acc c,slots:=#[] }
 sz:N<=h.objs.size
 len:acc.size=i
 its:∀(j:Nat) v,acc[j]?=some v->∃ t x y,v=.ref t/\N<=t/\IsPair h t x y/\xs[j]?=some x/\ys[j]?=some y
 nd:∀(j k:Nat) v,acc[j]?=some v->acc[k]?=some v->j=k
 kp:∀ q o,q<N->q≠z->q≠TO->q≠i1->q≠i2->q≠S->h0.get? q=some o->h.get? q=some o
structure LE(z TO i1 i2 S N:Nat)(xs ys:Array Value)(h0:Heap)(n:Nat)(acc:Array Value)(c:Nat)(h:Heap):Prop where
 ls:h.get? S=some { cls:=.type "list",dict:=none,data:=.seq acc c,slots:=#[] }
 len:acc.size=n
 its:∀(j:Nat) v,acc[j]?=some v->∃ t x y,v=.ref t/\N<=t/\IsPair h t x y/\xs[j]?=some x/\ys[j]?=some y
 nd:∀(j k:Nat) v,acc[j]?=some v->acc[k]?=some v->j=k
 kp:∀ q o,q<N->q≠z->q≠TO->q≠i1->q≠i2->q≠S->h0.get? q=some o->h.get? q=some o
structure LA(z TI TO i1 i2 a b S N:Nat):Prop where
 D:ZipApart z TI TO i1 i2 a b
 lt:z<S/\TI<S/\TO<S/\i1<S/\i2<S/\a<S/\b<S
 S:S<N
section
variable{prog:Program}{w:World}{A:Around}{R:Result->Shared->Prop}{z TI TO i1 i2 a b S N:Nat}{xs ys:Array Value}{h0:Heap}
end
section
variable{prog:Program}{w:World}{A:Around}{E:Value->Shared->Prop}{s:Shared}
end
structure Zl(H H':Hp)(l:Addr)(ts:LI)(xs ys:List V):Prop where
 sm:L2.Same H H'
 fl:H l=none
 ls:H' l=some (.lst (ts.map V.ref))
 len:ts.length=min xs.length ys.length
 tp:∀(j:Nat) t,ts[j]?=some t->H t=none/\∃ x y,xs[j]?=some x/\ys[j]?=some y/\H' t=some (.tup [x,y])
section
variable{X:Cx}
end
end L2
namespace K45
open PySem L2 PyProof.Rows
variable{A:Addr->Prop}{C a cw dx l p t x z:Addr}{E:XK}{H H' H0 H1 H2 J J':Hp}{K:W.Frag}{ab:Str×Str}{b c s u y:Str}{d ol v:V}{first i j m m' n n' r ri room:Nat}{g:Str->Option Str}{gs ms ns:LN}{kps qs tps:LP}{l' l1 l2 m1 rs rv rw ss:LS}{mg:Str->Option Value}{o:HO}{ps:List (LS)}{q q':Nat×Nat}{ts us:LI}{xs:List V}{α β:Type}
theorem Sr(H:Hp):L2.Same H H:=L2.Same.refl H
theorem za{k:Nat}{A:Around}(a:Room k A):A.units+100<cLine:=by have:=a.un;lk
theorem hmR{k:Nat}{A:Around}(a:Room k A)(h:j<=k:=by decide):Room j A:=a.mono h
theorem uz:FnScope wqU wqU (qg jz):=fS
theorem uH:FnScope wqv wqv (qg jX):=fS
theorem uR:FnScope wqv wqv (qg zt):=fS
local macro_rules | `(tactic| walk_at "w")=>`(tactic| first
 | with_reducible refine vSeq ?_ | with_reducible refine vAsg ?_ | with_reducible refine vAsgS ?_ | with_reducible refine vIfS ?_ | with_reducible refine vRet ?_ | with_reducible refine vNext ?_ | with_reducible refine vC ?_
 | ((with_reducible refine' vVar ?hv ?_);(case hv=>rfl)) | with_reducible refine vOp ?_ | with_reducible refine vChain ?_ | with_reducible refine vNil ?_ | with_reducible refine vCons ?_ | with_reducible refine vCB ?_ | with_reducible refine vCall ?_
 | with_reducible refine vLst ?_ | with_reducible refine vTup ?_ | with_reducible refine vTest ?_ | with_reducible refine vB ?_ | with_reducible refine vNot ?_ | with_reducible refine vAnd ?_ | with_reducible refine vOr ?_
 | with_reducible refine vAndV ?_ | with_reducible refine vOrV ?_ | with_reducible refine vNotV ?_ | with_reducible refine vYes ?_ | with_reducible refine vLeI ?_ | with_reducible refine vLeS ?_ | with_reducible refine vIsB ?_ | with_reducible refine vAddI ?_ | with_reducible refine vSl ?_ | with_reducible refine vNoPart ?_ | with_reducible refine vPart ?_ | with_reducible refine vExI ?_ | with_reducible refine vBM ?_ | with_reducible refine vBM0 ?_ | with_reducible refine vComp ?_ | with_reducible refine vFor ?_ | with_reducible refine vRng1 ?_ | with_reducible refine vAny ?_ | with_reducible refine vGN ?_ | with_reducible refine vI0 ?_ | with_reducible refine vEqI ?_ | with_reducible refine vEqB ?_ | with_reducible refine vEx ?_ | with_reducible refine vDrop ?_ | with_reducible refine vRetN ?_ | with_reducible refine vFldU ?_ | with_reducible refine vSFldU ?_ | with_reducible refine vXMake ?_ | with_reducible refine vMake ?_ | with_reducible refine vMeth ?_ | with_reducible refine vVinit ?_ | with_reducible refine vCallS ?_ | with_reducible refine vRaise ?_ | with_reducible refine vMethS ?_ | with_reducible refine vMakeS ?_ | with_reducible refine vUn ?_ | with_reducible refine vIf ?_ | with_reducible refine vRev ?_ | with_reducible refine vEnum ?_ | with_reducible refine vDGet2 ?_ | with_reducible refine vStep ?_)
local macro_rules | `(tactic| walk_at "v")=>`(tactic| repeat walk_at "w")
local macro_rules | `(tactic| ext)=>`(tactic| walk_at "v")
local macro_rules | `(tactic| apply $e)=>`(tactic| (ext;refine $e))
def qfI(_:Nat):Str:="found"
structure Txt(K:W.Frag)(mg:Str->Option Value)(cc:Nat->Addr)(cw:Addr):Prop where
 b_len:mg "len"=none
 b_int:mg "int"=none
 b_enumerate:mg "enumerate"=none
 b_all:mg "all"=none
 b_max:mg "max"=none
 b_min:mg "min"=none
 b_isinstance:mg "isinstance"=none
 b_bool:mg "bool"=none
 b_str:mg "str"=none
 b_range:mg "range"=none
 b_list:mg "list"=none
 b_tuple:mg "tuple"=none
 b_ValueError:mg "ValueError"=none
 g_LONGEST_NAME:∃ tk,mg "LONGEST_NAME"=some (.int 6 tk)
 g_MOST_PLACES:∃ tk,mg "MOST_PLACES"=some (.int 14 tk)
 g_MOST_TIES:∃ tk,mg "MOST_TIES"=some (.int 30 tk)
 m_NoPairs:mg "NoPairs"=some (.ref (cc 0))
 m_NoBar:mg "NoBar"=some (.ref (cc 1))
 m_NoPlace:mg "NoPlace"=some (.ref (cc 2))
 m_OnceError:mg "OnceError"=some (.ref (cc 3))
 vinit:VInit K
 xat:∀ i,i<3+1->XAt K (cc i)
 na:∀ i,i<3->NoAttr K (cc i) (qfI i)
 kit:∀ i j,i<3->j<3->W.kitOne K (.ref (cc i)) (.ref (cc j))=some (decide (i=j))
 kitV:∀ i,i<3+1->W.kitOne K (.ref (cc i)) (.type "ValueError")=some true
 mroO:∀ i,i<3->W.mroIn K (cc i) (.ref (cc 3))=some true
 wcl:Cls K cw
 wn:NoAttr K cw "numbers"
 wo:NoAttr K cw "order"
 wr:NoAttr K cw "near"
 m_Web:mg "Web"=some (.ref cw)
 b_sum:mg "sum"=none
 b_repr:mg "repr"=none
 smod:∃ o,K.lookup sysModules=some o
inductive spOnce(K:W.Frag)(vs:List V)(H:Hp)(Q:VK)(E:XK):Prop|mk (e C:Addr) (y:V) (_:vs=[.ref e,y]) (_:H e=some (XN e C none)) (_:XAt K C) (_:Q .non H)
inductive spX(C:Addr)(fl:Str)(vs:List V)(H:Hp)(Q:VK)(E:XK):Prop|mk (e:Addr) (v:V) (_:vs=[.ref e,v]) (_:H e=some (XN e C none)) (_:∀ dx,H dx=none->Q .non (upd (upd H dx (.xd [(fl,v)])) e (XN e C (some dx))))
theorem qci{g:Str}{y:V}(c:XAt K C)(q:∀ dx H',L2.Same H1 H'->H' dx=some (.xd [(g,y)])->E (.ref C) (some dx) H') :
  [y].length<=1000/\∀ x,H1 x=none->spX C g (.ref x::[y]) (upd H1 x (XN x C none)) (λv H2=>v=.non/\∃ a f dx,(V.ref x)=.ref a/\H2 a=some (XN a f dx)/\XAt K f/\E (.ref f) dx (upd H2 a (XO a f dx))) E0:=by
 show⟨by show 1<=1000;decide,λx h=>⟨x,y,rfl,qb,λdx d=>⟨rfl,x,C,some dx,rfl,qb,c,q dx _ (λb o e=>?_) ?_⟩⟩⟩
 .have nx:b≠x:=λz=>by rw[z,h] at e;cases e
  have nd:b≠dx:=λz=>by rw[<- z,qi nx,e] at d;cases d
  rw[qi nx,qi nx,qi nd,qi nx];show e
 .have nx:dx≠x:=λz=>by rw[z,qb] at d;cases d
  rw[qi nx,qi nx,qb]
def Rz(a:Nat->Addr)(H:Hp)(E:XK)(r:Nat×V):Prop:=∀ dx H',L2.Same H H'->H' dx=some (.xd [(qfI r.1,r.2)])->E (.ref (a r.1)) (some dx) H'
theorem Rz.later{a:Nat->Addr}{r:Nat×V}(h:Rz a H E r)(s:L2.Same H H1):Rz a H1 E r:=λdx H' t e=>h dx H' (s.trans t) e
section
variable{P:Program}{w:World}{K:W.Frag}{mg:Str->Option Value}{base:Heap}{cc:Nat->Addr}{cw:Addr}{f:Addr}{fd:FuncData}
theorem ok_once(F:Fun K "__init__" "OnceError.__init__" jz f fd)(T:Txt K mg cc cw):wqqb 1 f fd wqU (spOnce K):=by
 show F.ok uz λ_ _ _ _ H vs Q E b h=>?_
 .obtain⟨e,C,y,rfl,a,c,q⟩:=h;show⟨_,(qe (qW (k_vinit (K:=K) rfl T.vinit rfl T.b_ValueError boot_ValueError (qa (pv 0) (qa (pv 1) qd))))),?_⟩;apply⟨e,C,y,rfl,a,c,q⟩
theorem ok_NoPairs(F:Fun K "__init__" "NoPairs.__init__" jX f fd)(T:Txt K mg cc cw)(b:CMethOk P w K mg base CX0 1 (cc 3) "OnceError" "__init__" wqU (spOnce K)) :
  wqqb 2 f fd wqv (spX (cc 0) (qfI 0)):=by
 show F.ok uH λ_ _ _ _ H vs Q E c h=>?_
 .obtain⟨e,v,rfl,a,q⟩:=h;show⟨_,(qc (qW (qd8 b (hmR c) (qa (pv 0) (qa qI qd))))
 (qe (qbT (K:=K) rfl (pv 0) (pv 1) rfl))),?_⟩
  apply⟨e,_,_,rfl,a,T.xat 0 (by decide),?_⟩;apply .inr ⟨e,_,rfl,a,T.xat 0 (by decide),T.na 0 (by decide),q⟩
theorem ok_NoBar(F:Fun K "__init__" "NoBar.__init__" zt f fd)(T:Txt K mg cc cw)(b:CMethOk P w K mg base CX0 1 (cc 3) "OnceError" "__init__" wqU (spOnce K)) :
  wqqb 2 f fd wqv (spX (cc 1) (qfI 1)):=by
 show F.ok uR λ_ _ _ _ H vs Q E c h=>?_
 .obtain⟨e,v,rfl,a,q⟩:=h;show⟨_,(qc (qW (qd8 b (hmR c) (qa (pv 0) (qa qI qd))))
 (qe (qbT (K:=K) rfl (pv 0) (pv 1) rfl))),?_⟩
  apply⟨e,_,_,rfl,a,T.xat 1 (by decide),?_⟩;apply .inr ⟨e,_,rfl,a,T.xat 1 (by decide),T.na 1 (by decide),q⟩
theorem uI:FnScope wq1 wq1 (qg zg):=fS
theorem u7:FnScope wqF wqF (qg qaU):=fS
theorem uA:FnScope wqg wqg (qg zI):=fS
theorem KR:FnScope ["numbers","thing","both"] wqg (qg q8):=fS
theorem qC(a:L2.Same H H1)(hl:H1 l=none):L2.Same H (upd H1 l o):=λc u e=>by
 have q:=a c u e;rw[qi (qD q hl)];show q
theorem qdy(a:L2.Same H H1)(hl:H l=none):L2.Same H (upd H1 l o):=λc u e=>by
 rw[qi (qD e hl)];show a c u e
def sg(c:Nat):Bool:=if (!decide (([c]:LN)<("a":Str).cps.toList))=true then !decide (("z":Str).cps.toList < [c]) else false
def jD(x:Str):Bool:=if 1<=x.length/\x.length<=6 then x.cps.toList.all sg else false
theorem qed{x:Str}(h:jD x=true):1<=x.length/\x.length<=6/\x.cps.toList.all sg=true:=by
 unfold jD at h;split at h
 .rename_i z;show⟨z.1,z.2,h⟩
 .cases h
theorem nameS_len(h:jD s=true):s.length<=6:=(qed h).2.1
structure All2{α β:Type}(R:α->β->Prop)(l:List α)(m:List β):Prop where
 len:l.length=m.length
 at_:∀(k:Nat) a b,l[k]?=some a->m[k]?=some b->R a b
theorem All2.nil{R:α->β->Prop}:All2 R [] []:=⟨rfl,λk a b h=>by simp at h⟩
theorem All2.mono{R S:α->β->Prop}{l:List α}{m:List β}(h:All2 R l m)(f:∀ a b,R a b->S a b):All2 S l m:=⟨h.len,λk a b x y=>f a b (h.at_ k a b x y)⟩
theorem All2.snoc{R:α->β->Prop}{l:List α}{m:List β}{x:α}{y:β}(h:All2 R l m)(r:R x y):All2 R (l++[x]) (m++[y]):=by
 show⟨by rw[yu,yu,h.len];rfl,λk a b c hb=>?_⟩;by_cases d:k<l.length
 .rw [Yi d] at c;rw[Yi (by rw[<- h.len];show d)] at hb;show h.at_ k a b c hb
 .rw [yY (by lk)] at c;rw[yY (by rw[<- h.len];lk)] at hb
  have e:k-l.length=0:=by
   have:=(yc.mp c).1;simp at this;lk
  rw[<- h.len] at hb;rw[e] at c hb;cases c;cases hb;show r
theorem All2.mem{R:α->β->Prop}{l:List α}{m:List β}(h:All2 R l m){x:α}(c:x∈l):∃ y∈m,R x y:=by
 obtain⟨k,b,e⟩:=XJ c;have a:k<m.length:=by rw[<- h.len];show b
 show⟨m[k],Xj a,h.at_ k x m[k] (by rw[yb b,e]) (yb a)⟩
def PL(H:Hp)(l:Addr)(ts:LI)(tps:LP):Prop:=H l=some (.lst (ts.map V.ref))/\All2 (λt ab=>H t=some (.tup [.str ab.1,.str ab.2])) ts tps
theorem PL.same(h:PL H l ts tps)(s:L2.Same H H'):PL H' l ts tps:=⟨s _ _ h.1,h.2.mono λ_ _ z=>s _ _ z⟩
inductive spName(vs:List V)(H:Hp)(Q:VK)(E:XK):Prop|mk (x:Str) (_:vs=[.str x]) (_:jD x=true) (_:∀ H',L2.Same H H'->Q (.bl true) H')
theorem ok_name(F:Fun K "is_name" "is_name" zg f fd)(T:Txt K mg cc cw):wqqb 1 f fd wq1 spName:=by
 show F.ok uI λ_ _ _ _ H vs Q E t h=>?_
 .obtain⟨x,rfl,n,q⟩:=h;obtain⟨u,r,s⟩:=qed n;show⟨_,(qc (qN (PW.pt (qaH (qS (qQ (qj (qay (K:=K) rfl) rfl T.b_isinstance Yz (qa (pv 0) (qa (jB (v:=.ty "str") rfl T.b_str boot_str rfl) qd))))) (qac (qS (qdS qfS qfS qf (qj (jv (K:=K) rfl) rfl T.b_len Yt (qa (pv 0) qd)) (qbu rfl T.g_LONGEST_NAME)))))) (qe (qr ju)) qw)
 (qe (qr (qj (qgF (K:=K) rfl rfl) rfl T.b_all boot_all (qa (jh (sc:=qg zg) (XN:=wq1) ["sign"] 1 [] rfl rfl rfl (by room) rfl (by room)
  (qK (K:=K) rfl (pv 0)) (λ_ _ _ _=>(qm (i:=0) (show(["sign"]:LS).Nodup by room) rfl (yF rfl))) qF
  (λ_ _ _ _=>jW)
  (λ_ _ _ _=>(qdR qfS qfS qI (pv 0) qI))) qd))))),?_⟩
  apply qbq (.inl (.str x)) rfl (zf K "str" (by simp) "str" (by simp)) ?_;apply yq ?_;apply qgE (yi r (by decide)) ?_;apply qL (λh1=>?_) λh1=>absurd (yz (by lk)) h1;apply qL (λj=>by simp only[YD,Y8] at j;lk) λj=>?_;apply qd1 (λi g H'=>H'=H/\g=((x.cps.toList.take i).map sg).map V.bl) ⟨rfl,by simp⟩ (λi c g H' hc e=>?_) λg H' e=>?_
  .obtain⟨rfl,rfl⟩:=e;apply zX ?_;ext
   have hl:(List.map V.bl (List.map sg (List.take i x.cps.toList))).length<sizeLine:=by
    rw[ya,ya,yK];show qh (yi (kr _ _) (by simpa [Str.length] using(show x.length<=1000 by lk)))
   have a:∀ b,b=sg c->(List.map V.bl (List.map sg (List.take i x.cps.toList)))++[V.bl b]=List.map V.bl (List.map sg (List.take (i+1) x.cps.toList)):=by
    intro b hb;have m:x.cps.toList[i]?=some c:=by simpa using hc
    rw[hb,yO,m];simp
   show qL (λd=>?_) λd=>⟨hl,rfl,a _ (by unfold sg;rw[yD d])⟩;apply⟨hl,rfl,a _ (by unfold sg;rw[yH d])⟩
  .obtain⟨rfl,rfl⟩:=e;have p:x.cps.toList.take x.cps.size=x.cps.toList:=by rw[<- Xb,yT]
   rw[p];show⟨?_,λl hl=>?_⟩
   .rw [ya,ya];show yN (qh (by simpa [Str.length] using(show x.length<=1000 by lk)))
   .ext;show⟨l,x.cps.toList.map sg,rfl,SqL.of qb,?_⟩;have z:=q _ (qC (Sr H') (o:=.lst ((x.cps.toList.map sg).map V.bl)) hl);rw[kM];rw[<- s] at z;show z
inductive spBit(vs:List V)(H:Hp)(Q:VK)(E:XK):Prop|mk (b n:Int) (_:vs=[.int b,.int n]) (_:0<=n) (_:Q (.bl (decide (Builtin.bitAnd (b / 2 ^ n.toNat) 1=1))) H)
theorem ok_bit(F:Fun K "has_bit" "has_bit" qaU f fd):wqqb 1 f fd wqF spBit:=by
 show F.ok u7 λ_ _ _ _ H vs Q E c h=>?_
 .obtain⟨b,n,rfl,a,q⟩:=h;have d:=za c;show⟨_,(qe (qr (zM (jS (K:=K) rfl d) (qp jF (qp qaJ (pv 0) (pv 1)) qf) qf (qB _)))),?_⟩;apply vI a ?_;apply .inl (.inl (.inl ⟨rfl,rfl,?_⟩));show q
def qbv:LS->Nat->List (Key×V)
 | [],_=>[]
 | s::r,i=>(.inr s,.int i)::qbv r (i+1)
theorem qc9(y:Str):∀(ss:LS) (i:Nat),qbv (ss++[y]) i=qbv ss i++[(.inr y,.int (i+ss.length:Nat))]
 | [],i=>rfl
 | s::r,i=>by
  show(_::qbv (r++[y]) (i+1))=_::(qbv r (i+1)++_);rw[qc9 y r (i+1)];have:i+1+r.length=i+(s::r).length:=by simp;lk
  rw[this]
theorem zR:∀(ss:LS) (i:Nat),(qbv ss i).length=ss.length
 | [],_=>rfl
 | _::r,i=>congrArg (· + 1) (zR r (i+1))
theorem qbY:∀{ss:LS} {i:Nat},y∉ss->zG (qbv ss i) (.inr y:Key)=none
 | [],_,_=>rfl
 | s::r,i,h=>by
  have h1:¬ s=y:=λe=>h (by rw[e];show yM);show zG ((.inr s,V.int i)::qbv r (i+1)) _=none;rw[qV (p:=((.inr s:Key),V.int i)) (λe=>h1 (kC e))];show qbY λm=>h (yy _ m)
theorem jZ:∀{ss:LS} {i:Nat},y∈ss->∃ j,j<ss.length/\ss[j]?=some y/\zG (qbv ss i) (.inr y:Key)=some (.int (i+j:Nat))
 | [],_,h=>by cases h
 | s::r,i,h=>by
  by_cases e:s=y
  .subst e;show⟨0,by simp,rfl,jd (p:=((.inr s:Key),V.int i)) rfl⟩
  .rcases yv.mp h with z | z
   .show absurd z.symm e
   .obtain⟨j,h1,b,c⟩:=jZ (i:=i+1) z;show⟨j+1,by simp;lk,by simpa using b,?_⟩;show zG ((.inr s,V.int i)::qbv r (i+1)) _=_;rw[qV (p:=((.inr s:Key),V.int i)) (λa=>e (kC a)),c];have:i+1+j=i+(j+1):=by lk
    rw[this]
theorem qaB(y:Str)(ss:LS)(i:Nat):(zG (qbv ss i) (.inr y:Key)).isSome=decide (y∈ss):=by
 by_cases h:y∈ss
 .obtain⟨j,_,_,e⟩:=jZ (i:=i) h;rw[e,yz h];rfl
 .rw [qbY h,yl h];rfl
inductive spPlace(vs:List V)(H:Hp)(Q:VK)(E:XK):Prop|mk (d:Addr) (ss:LS) (x:Str) (_:vs=[.ref d,.str x]) (_:H d=some (.dK (qbv ss 0))) (_:jD x=true) (_:x∈ss) (_:∀ H',L2.Same H H'->Q (.bl true) H')
theorem ok_place(F:Fun K "is_place" "is_place" zI f fd)(j:wq9 1 "is_name" wq1 spName):wqqb 2 f fd wqg spPlace:=by
 show F.ok uA λ_ _ _ _ H vs Q E a h=>?_
 .obtain⟨d,ss,x,rfl,c,e,i,q⟩:=h;have g:=za a;show⟨_,(qe (qr (qbi (qo j (hmR a) qy (qa (pv 1) qd)) (qbh (zM (qbp (K:=K) rfl g) (pv 1) (pv 0) (by with_unfolding_all rfl)))))),?_⟩;apply⟨x,rfl,e,λH1 b=>?_⟩;apply zX ?_;apply .inr (.inl ⟨d,_,rfl,DGet.k (k:=Sum.inr x) (b d _ c),?_⟩);rw[qaB,yz i];show q H1 b
inductive spTwo(vs:List V)(H:Hp)(Q:VK)(E:XK):Prop|mk (d t:Addr) (ss:LS) (a b:Str) (_:vs=[.ref d,.ref t]) (_:H d=some (.dK (qbv ss 0))) (_:H t=some (.tup [.str a,.str b])) (_:jD a=true) (_:jD b=true) (_:a∈ss) (_:b∈ss) (_:a≠b) (_:∀ H',L2.Same H H'->Q (.bl true) H')
theorem ok_two(F:Fun K "are_two_places" "are_two_places" q8 f fd)(T:Txt K mg cc cw)(o:wq9 2 "is_place" wqg spPlace):wqqb 3 f fd wqg spTwo:=by
 show F.ok KR λ_ _ _ _ H vs Q E m h=>?_
 .obtain⟨d,t,ss,a,b,rfl,p,c,s,nb,r,hb,l,q⟩:=h;have g:=za m;show⟨_,(qc (qN (PW.pt (qaH (qS (qQ (qj (qay (K:=K) rfl) rfl T.b_isinstance Yz (qa (pv 1) (qa (jB (v:=.ty "tuple") rfl T.b_tuple XW rfl) qd))))) (qac (qq (qaf (K:=K) rfl g) (qj (jv (K:=K) rfl) rfl T.b_len Yt (qa (pv 1) qd)) qf (qB _))))) (qe (qr ju)) qw)
 (qc (qk (i:=2) KR.nd rfl (yF rfl) (qbi (qo o (hmR m) qy (qa (pv 0) (qa (qu (qv (K:=K) rfl g) (pv 1) qf (λ_ _=>rfl)) qd))) (qbh (qo o (hmR m) qy (qa (pv 0) (qa (qu (qv (K:=K) rfl g) (pv 1) qf (λ_ _=>rfl)) qd))))))
 (qe (qr (qbi (pv 2) (qbh (zM (qaf (K:=K) rfl g) (qu (qv (K:=K) rfl g) (pv 1) qf (λ_ _=>rfl)) (qu (qv (K:=K) rfl g) (pv 1) qf (λ_ _=>rfl)) (qB _)))))))),?_⟩
  apply qbq (.inl (.tup c)) rfl (zf K "tuple" (by simp) "tuple" (by simp)) ?_;apply yq ?_;apply qgi c ?_;apply .inl ⟨rfl,rfl,?_⟩;apply yq ?_;apply .inl (qax c rfl ?_);apply⟨d,ss,a,rfl,p,s,r,λH1 j=>?_⟩;apply zX ?_;apply .inl (qax (j _ _ c) rfl ?_);apply⟨d,ss,b,rfl,j _ _ p,nb,hb,λH2 n=>?_⟩;apply zX ?_;apply .inl (qax (n _ _ (j _ _ c)) rfl ?_);apply .inl (qax (n _ _ (j _ _ c)) rfl ?_);show .inl ⟨rfl,rfl,?_⟩;have z:=q H2 (j.trans n);have e:(if true=true then !eqV (V.str a) (V.str b) else eqV (V.str a) (V.str b))=true:=by simp[eqV,l]
  rw[e];show z
theorem ud:FnScope ["names","numbers","name"] ["names"] (qg zu):=fS
theorem zC(m j:Nat):decide (Builtin.bitAnd ((m:Int) / 2 ^ (j:Int).toNat) 1=1)=m.testBit j:=by
 rw[km,Nat.testBit_eq_decide_div_mod_eq];rw[yS];have e:(m:Int) / 2 ^ j=((m / 2 ^ j:Nat):Int):=by rw[Int.natCast_ediv,xU];rfl
 rw[e]
 congr 1
 apply propext;lk
theorem qee(m j:Nat):Builtin.bitOr (m:Int) (1*2 ^ (j:Int).toNat)=((m ||| 2 ^ j:Nat):Int):=by
 have e:(1*2 ^ (j:Int).toNat:Int)=((2 ^ j:Nat):Int):=by rw[yS,kY,xU];rfl
 rw[e];generalize 2 ^ j=k;have c:Builtin.bitNot (m:Int)=-(m:Int)-1:=rfl;have d:Builtin.bitNot (k:Int)=-(k:Int)-1:=rfl;unfold Builtin.bitOr Builtin.bitAnd;rw[c,d,yl (by lk),yl (by lk)];dsimp only;unfold Builtin.bitNot;have a:(-(-(m:Int)-1)-1).toNat=m:=by lk
 have b:(-(-(k:Int)-1)-1).toNat=k:=by lk
 rw[a,b];lk
def But(x:Addr)(H H':Hp):Prop:=∀ b o,b≠x->H b=some o->H' b=some o
theorem But.refl(x:Addr)(H:Hp):But x H H:=λ_ _ _ e=>e
theorem But.same(a:But x H H1)(b:L2.Same H1 H2):But x H H2:=λc o n e=>b c o (a c o n e)
theorem But.put(a:But x H H1):But x H (upd H1 x o):=λc u n e=>by rw[qi n];show a c u n e
theorem But.new(a:But x H H1)(hl:H1 l=none):But x H (upd H1 l o):=a.same (qC (Sr H1) hl)
theorem qdz{q:Addr}{Q:VK}(h:H a=some (.lst xs))(b:H q=some (.tup [.ty "list",.ty "tuple"]))(k:Q (.bl true) H):qf0 K [.ref a,.ref q] H Q:=
 ⟨_,q,_,_,[.type "list",.type "tuple"],true,rfl,.inl (.lst h),b,rfl,rfl,k⟩
inductive spNums(vs:List V)(H:Hp)(Q:VK)(E:XK):Prop|mk (a:Addr) (ss:LS) (_:vs=[.ref a]) (_:H a=some (.lst (ss.map V.str))) (_:ss.length<=14) (_:ss.Nodup) (_:(∀ s∈ss,jD s=true)) (_:∀ d H',L2.Same H H'->H d=none->H' d=some (.dK (qbv ss 0))->Q (.ref d) H')
theorem ok_nums(F:Fun K "numbers_of" "numbers_of" zu f fd)(T:Txt K mg cc cw)(S:wq9 1 "is_name" wq1 spName) :
  wqqb 4 f fd ["names"] spNums:=by
 show F.ok ud λ_ _ _ _ H vs Q E G h=>?_
 .obtain⟨a,ss,rfl,l,M,r,s,q⟩:=h;have I:=za G;show⟨_,(qc (qN (qS (qQ (qj (qcu (K:=K) rfl) rfl T.b_isinstance Yz (qa (pv 0) (qa (jg (qa (jB (v:=.ty "list") rfl T.b_list XG rfl) (qa (jB (v:=.ty "tuple") rfl T.b_tuple XW rfl) qd))) qd))))) (qe jl) qw)
 (qc (qN (qq qge (qj (jv (K:=K) rfl) rfl T.b_len Yt (qa (pv 0) qd)) (qbu rfl T.g_MOST_PLACES) (qB _)) (qe jl) qw)
 (qc (qk (i:=1) ud.nd rfl (yF rfl) j8)
 (qc (qR yW rfl (qK (K:=K) rfl (pv 0)) (qm (i:=2) ud.nd rfl (yF rfl))
 (qc (qN (qS (qQ (qo S (hmR G) qy (qa (pv 2) qd)))) (qe jl) qw)
 (qc (qN (qq (qbp (K:=K) rfl I) (pv 2) (pv 1) (by with_unfolding_all rfl)) (qe jl) qw)
 (qe (jK (qj (jv (K:=K) rfl) rfl T.b_len Yt (qa (pv 1) qd)) (jJ (pv 1) (pv 2) (jN I)))))))
 (qe (qr (pv 1))))))),?_⟩
  apply⟨wqqe,λg N=>?_⟩;have m:=qC (Sr H) (o:=.tup [.ty "list",.ty "tuple"]) N;apply qdz (m _ _ l) qb ?_;apply yq ?_;apply j6 (m _ _ l) ?_;rw[ya];apply qL (λh=>by have:=yk h;lk) λ_=>?_;ext;intro d C;have L:=qC m (o:=.dK []) C;have c:H d=none:=m.free C;apply .inl ⟨⟨_,SqL.of (L _ _ l)⟩,qO (K:=K) (λi p H'=>∃ A,p=[some (.ref a),some (.ref d),A]/\L2.Same H H'/\H' d=some (.dK (qbv (ss.take i) 0))) ⟨none,rfl,L,qb⟩ (λi p H' _ e=>by obtain⟨_,_,z,_⟩:=e;show SqL.of (z _ _ l)) (λi y p H' J e=>?_) λp H' e=>?_⟩
  .obtain⟨A,rfl,u,b⟩:=e;rw[yd] at J;obtain⟨x,t,rfl⟩:=yn.mp J;have O:i<ss.length:=(yc.mp t).1;have j:ss.take (i+1)=ss.take i++[x]:=by rw[yO,t];rfl
   have D:x∉ss.take i:=λz=>by
    have B:(ss.take (i+1)).Nodup:=r.sublist (kh _ _);rw[j] at B;show(Yk.mp B).2.2 _ z x (by simp) rfl
   apply⟨x,rfl,s x (ye t),λH1 n=>?_⟩;have R:=u.trans n;apply yq ?_;apply .inr (.inl ⟨d,_,rfl,DGet.k (k:=Sum.inr x) (n _ _ b),?_⟩);rw[qaB,yl D];apply yq ?_;apply .inr ⟨_,n _ _ b,?_⟩;apply .inr ⟨d,_,rfl,DPut.k (k:=Sum.inr x) (n _ _ b) (qh (by rw[zR,yK];lk)),?_⟩;show⟨_,rfl,qdy R c,?_⟩;rw[qb,qbt _ (qbY D),j,qc9,zR];simp only[xZ]
  .obtain⟨A,rfl,u,b⟩:=e;ext;rw[ya,yT] at b;show q d H' u c b
theorem u5:FnScope wqD wqD (qg qao):=fS
theorem K5:FnScope ["numbers","ties","near","tie","one","other"] wq8 (qg qaV):=fS
def qbZ(ss:LS)(ns:LN)(seen:LP):Prop:=ns.length=ss.length/\(∀ a,ns.getD a 0<2 ^ ss.length)/\∀ a b s t,ss[a]?=some s->ss[b]?=some t->(ns.getD a 0).testBit b=decide ((s,t)∈seen\/(t,s)∈seen)
theorem qA(h:ss.Nodup){a b:Nat}(i:ss[a]?=some s)(hb:ss[b]?=some s):a=b:=by
 have e:=xn.mp h;obtain⟨f,c⟩:=yc.mp i;obtain⟨g,d⟩:=yc.mp hb;rcases x0 a b with q | q | q
 .show absurd (c.trans d.symm) (e a b f g q)
 .show q
 .show absurd (d.trans c.symm) (e b a g f q)
theorem bits_zero:qbZ ss (List.replicate ss.length 0) []:=by
 have z:∀ a,(List.replicate ss.length 0).getD a 0=0:=λa=>by
  simp only[List.getD,Xe];split<;>rfl
 show⟨by simp,λa=>by rw[z a];show Xq _,λa b s t c hb=>?_⟩;rw[z a];simp
theorem zv{v:Nat}(h:i<ns.length):(ns.set i v).getD j 0=if i=j then v else ns.getD j 0:=by
 simp only[List.getD,List.getElem?_set];by_cases e:i=j
 .subst e;simp[h]
 .simp [e]
theorem bits_step{seen:LP}(hb:qbZ ss ns seen)(n:ss.Nodup){t:Str}(d:ss[i]?=some s)(g:ss[j]?=some t)(m:s≠t) :
  qbZ ss ((ns.set i (ns.getD i 0 ||| 2 ^ j)).set j (ns.getD j 0 ||| 2 ^ i)) (seen++[(s,t)]):=by
 obtain⟨hl,l,h⟩:=hb;have A:i<ns.length:=by rw[hl];show(yc.mp d).1
 have B:j<ns.length:=by rw[hl];show(yc.mp g).1
 have D:i≠j:=λe=>by rw[e,g] at d;cases d;show m rfl
 have x:i<ss.length:=(yc.mp d).1;have y:j<ss.length:=(yc.mp g).1;show⟨by simp[hl],λa=>?_,λa b u v f c=>?_⟩
 .rw [zv (by simpa using B),zv A];split
  .show xx (l _) (xv (by decide) x)
  .split
   .show xx (l _) (xv (by decide) y)
   .show l _
 rw[zv (by simpa using B),zv A];have o:=h a b u v f c;have C:∀ P Q:Prop,(P↔Q)->∀ [Decidable P] [Decidable Q],decide P=decide Q:=λP Q e=>by intro _ _;show Yo.mpr e
 by_cases r:j=a
 .subst r;rw[g] at f;cases f;rw[yH rfl,YS,o,Yj];by_cases q:i=b
  .subst q;rw[d] at c;cases c;simp
  .have vs:v≠s:=λe=>by subst e;show q (qA n d c)
   simp only[q,Kw,Ku];apply Yo.mpr;simp only[yG,yC,Kv];constructor
   .rintro (z | z)
    .show .inl (.inl z)
    .show .inr (.inl z)
   .rintro ((z | ⟨z,_⟩) | (z | ⟨z,_⟩))
    .show .inl z
    .show absurd z.symm m
    .show .inr z
    .show absurd z vs
 .rw [yD r];by_cases p:i=a
  .subst p;rw[d] at f;cases f;rw[yH rfl,YS,o,Yj];by_cases w:j=b
   .subst w;rw[g] at c;cases c;simp
   .have F:v≠t:=λe=>by subst e;show w (qA n g c)
    simp only[w,Kw,Ku];apply Yo.mpr;simp only[yG,yC,Kv];constructor
    .rintro (z | z)
     .show .inl (.inl z)
     .show .inr (.inl z)
    .rintro ((z | ⟨_,z⟩) | (z | ⟨_,z⟩))
     .show .inl z
     .show absurd z F
     .show .inr z
     .show absurd z m
  .rw [yD p,o];have us:u≠s:=λe=>by subst e;show p (qA n d f)
   have E:u≠t:=λe=>by subst e;show r (qA n g f)
   apply Yo.mpr;simp only[yG,yC,Kv];constructor
   .rintro (z | z)
    .show .inl (.inl z)
    .show .inr (.inl z)
   .rintro ((z | ⟨z,_⟩) | (z | ⟨_,z⟩))
    .show .inl z
    .show absurd z us
    .show .inr z
    .show absurd z E
def zh(ns:LN):List V:=ns.map λ(n:Nat)=>.int (n:Int)
theorem je(h:i<ns.length):(zh ns)[i]?=some (.int (ns.getD i 0:Nat)):=by
 unfold zh;rw[yd,yb h];simp[List.getD,h]
theorem qbw(ns:LN)(i m:Nat):(zh ns).set i (.int m)=zh (ns.set i m):=by
 unfold zh;rw[List.map_set]
theorem qda(k:Nat):(List.replicate k [V.int 0]).flatten=zh (List.replicate k 0):=by
 induction k with
 | zero=>rfl
 | succ k ih=>rw[xz,xw,ih];rfl
theorem qcw(h:j<n):ixN n (j:Int)=some j:=by
 unfold ixN;rw[yH (by lk),yH (by lk)];rfl
def UN(x y:Str×Str):Prop:=x≠y/\x≠(y.2,y.1)
structure TGo(ss:LS)(tps:LP):Prop where
 few:tps.length<=30
 inn:∀ ab∈tps,ab.1∈ss/\ab.2∈ss/\ab.1≠ab.2
 un:tps.Pairwise UN
structure WOk(ss:LS)(ns:LN):Prop where
 len:ns.length=ss.length
 few:ss.length<=14
 nd:ss.Nodup
 lt:∀ a,ns.getD a 0<2 ^ ss.length
 nm:∀ s∈ss,jD s=true
inductive WebAt(cw:Addr)(H:Hp)(x:Addr)(ss:LS)(ns:LN):Prop|mk (dx d ol n:_) (_:H x=some (.ins cw dx (j4 "near" (.ref n) (j4 "order" (.ref ol) (j4 "numbers" (.ref d) []))))) (_:H d=some (.dK (qbv ss 0))) (_:H ol=some (.lst (ss.map V.str))) (_:H n=some (.lst (zh ns))) (_:WOk ss ns)
theorem WebAt.same(h:WebAt cw H x ss ns)(s:L2.Same H H'):WebAt cw H' x ss ns:=by
 obtain⟨dx,d,ol,n,h1,a,b,c,e⟩:=h;show⟨dx,d,ol,n,s _ _ h1,s _ _ a,s _ _ b,s _ _ c,e⟩
inductive WebN(H0:Hp)(cw:Addr)(H:Hp)(x:Addr)(ss:LS)(ns:LN):Prop|mk (dx d ol n:_) (_:H x=some (.ins cw dx (j4 "near" (.ref n) (j4 "order" (.ref ol) (j4 "numbers" (.ref d) []))))) (_:H d=some (.dK (qbv ss 0))) (_:H ol=some (.lst (ss.map V.str))) (_:H n=some (.lst (zh ns))) (_:WOk ss ns) (_:H0 d=none) (_:H0 ol=none) (_:H0 n=none)
theorem WebN.web(h:WebN H0 cw H x ss ns):WebAt cw H x ss ns:=by
 obtain⟨dx,d,ol,n,h1,a,b,c,e,_⟩:=h;show⟨dx,d,ol,n,h1,a,b,c,e⟩
inductive WebP(A:Addr->Prop)(cw:Addr)(H:Hp)(x:Addr)(ss:LS)(ns:LN):Prop|mk (dx d ol n:_) (_:H x=some (.ins cw dx (j4 "near" (.ref n) (j4 "order" (.ref ol) (j4 "numbers" (.ref d) []))))) (_:H d=some (.dK (qbv ss 0))) (_:H ol=some (.lst (ss.map V.str))) (_:H n=some (.lst (zh ns))) (_:WOk ss ns) (_:¬ A x) (_:¬ A d) (_:¬ A ol) (_:¬ A n)
theorem WebP.web(h:WebP A cw H x ss ns):WebAt cw H x ss ns:=by
 obtain⟨dx,d,ol,n,h1,a,b,c,e,_⟩:=h;show⟨dx,d,ol,n,h1,a,b,c,e⟩
theorem WebP.keep(h:WebP A cw H x ss ns)(k:∀ b o,¬ A b->H b=some o->H' b=some o):WebP A cw H' x ss ns:=by
 obtain⟨dx,d,ol,n,h1,g,i,j,l,a,c,e,f⟩:=h;show⟨dx,d,ol,n,k _ _ a h1,k _ _ c g,k _ _ e i,k _ _ f j,l,a,c,e,f⟩
theorem WebN.apart(h:WebN H0 cw H x ss ns)(m:¬ A x)(b:∀ a,A a->H0 a≠none):WebP A cw H x ss ns:=by
 obtain⟨dx,d,ol,n,h1,g,i,j,l,c,e,f⟩:=h;show⟨dx,d,ol,n,h1,g,i,j,l,m,λz=>b _ z c,λz=>b _ z e,λz=>b _ z f⟩
theorem qdb:∀(ss:LS) (i:Nat),(qbv ss i).map (λa=>kV a.1)=ss.map V.str
 | [],_=>rfl
 | s::r,i=>congrArg (V.str s::·) (qdb r (i+1))
inductive spNear(vs:List V)(H:Hp)(Q:VK)(E:XK):Prop|mk (d l:Addr) (ss:LS) (ts:LI) (tps:LP) (_:vs=[.ref d,.ref l]) (_:H d=some (.dK (qbv ss 0))) (_:ss.length<=14) (_:ss.Nodup) (_:(∀ s∈ss,jD s=true)) (_:PL H l ts tps) (_:TGo ss tps) (_:∀ n ns H',L2.Same H H'->H n=none->H' n=some (.lst (zh ns))->qbZ ss ns tps->Q (.ref n) H')
theorem ok_near(F:Fun K "near_of" "near_of" qaV f fd)(T:Txt K mg cc cw)(KL:wq9 3 "are_two_places" wqg spTwo)(KN:wq9 1 "has_bit" wqF spBit) :
  wqqb 4 f fd wq8 spNear:=by
 show F.ok K5 λ_ _ _ _ H vs Q E hr h=>?_
 .obtain⟨d,l,ss,ts,tps,rfl,W,aj,af,G,⟨hl,D⟩,Z,q⟩:=h;have j:=za hr;have L:=D.len;have few:=Z.few;show⟨_,(qc (qN (qS (qQ (qj (qcu (K:=K) rfl) rfl T.b_isinstance Yz (qa (pv 1) (qa (jg (qa (jB (v:=.ty "list") rfl T.b_list XG rfl) (qa (jB (v:=.ty "tuple") rfl T.b_tuple XW rfl) qd))) qd))))) (qe jl) qw)
 (qc (qN (qq qge (qj (jv (K:=K) rfl) rfl T.b_len Yt (qa (pv 1) qd)) (qbu rfl T.g_MOST_TIES) (qB _)) (qe jl) qw)
 (qc (qk (i:=2) K5.nd rfl (yF rfl) (qp qdW (qz (qa qf qd)) (qj (jv (K:=K) rfl) rfl T.b_len Yt (qa (pv 0) qd))))
 (qc (qR yW rfl (qK (K:=K) rfl (pv 1)) (qm (i:=3) K5.nd rfl (yF rfl))
 (qc (qN (qS (qQ (qo KL (hmR hr) qy (qa (pv 0) (qa (pv 3) qd))))) (qe jl) qw)
 (qc (qk (i:=4) K5.nd rfl (yF rfl) (qu (qv (K:=K) rfl j) (pv 0) (qu (qv (K:=K) rfl j) (pv 3) qf (λ_ _=>rfl)) (λ_ _=>rfl)))
 (qc (qk (i:=5) K5.nd rfl (yF rfl) (qu (qv (K:=K) rfl j) (pv 0) (qu (qv (K:=K) rfl j) (pv 3) qf (λ_ _=>rfl)) (λ_ _=>rfl)))
 (qc (qN (qQ (qo KN (hmR hr) qy (qa (qu (qv (K:=K) rfl j) (pv 2) (pv 4) (λ_ _=>rfl)) (qa (pv 5) qd)))) (qe jl) qw)
 (qc (jK (qp qdq (qu (qv (K:=K) rfl j) (pv 2) (pv 4) (λ_ _=>rfl)) (qp j7 qf (pv 5))) (jJ (pv 2) (pv 4) (jN j)))
 (qe (jK (qp qdq (qu (qv (K:=K) rfl j) (pv 2) (pv 5) (λ_ _=>rfl)) (qp j7 qf (pv 4))) (jJ (pv 2) (pv 5) (jN j))))))))))
 (qe (qr (pv 2))))))),?_⟩
  apply⟨wqqe,λg aa=>?_⟩;have s0:=qC (Sr H) (o:=.tup [.ty "list",.ty "tuple"]) aa;apply qdz (s0 _ _ hl) qb ?_;apply yq ?_;apply j6 (s0 _ _ hl) ?_;rw[ya];apply qL (λh=>by have:=yk h;lk) λ_=>?_;apply⟨wqqd,λz ah=>?_⟩;have s1:=qC s0 (o:=.lst [.int 0]) ah;apply .inr ⟨_,s1 _ _ W,?_⟩;ext;rw[zR];show⟨z,_,_,rfl,rfl,qb,by lk,by lk,by show 1*_<=sizeLine;rw[yS];show yN (qh (by lk)),λn hn=>?_⟩;rw[yS,qda];have s2:=qC s1 (o:=.lst (zh (List.replicate ss.length 0))) hn;have n0:H n=none:=s1.free hn;apply .inl ⟨⟨_,SqL.of (s2 _ _ hl)⟩,qO (K:=K) (λi Y H'=>∃ v3 v4 v5 ns,Y=[some (.ref d),some (.ref l),some (.ref n),v3,v4,v5]/\L2.Same H H'/\H' n=some (.lst (zh ns))/\qbZ ss ns (tps.take i))
   ⟨none,none,none,_,rfl,s2,qb,bits_zero⟩ (λi Y H' _ I=>by obtain⟨_,_,_,_,_,z,_⟩:=I;show SqL.of (z _ _ hl)) (λi y Y H' hy I=>?_) λY H' I=>?_⟩
  .obtain⟨v3,v4,v5,ns,rfl,N,A,a⟩:=I;rw[yd] at hy;obtain⟨t,ht,rfl⟩:=yn.mp hy;have ac:i<ts.length:=(yc.mp ht).1;obtain⟨⟨p,r⟩,u⟩:∃ ab,tps[i]?=some ab:=⟨_,yb (by rw[<- L];show ac)⟩;have U:=D.at_ i t _ ht u;obtain⟨m1,X,c⟩:=Z.inn _ (ye u);dsimp only at U m1 X c;have J:tps.take (i+1)=tps.take i++[(p,r)]:=by rw[yO,u];rfl
   have ag:¬ ((p,r)∈tps.take i\/(r,p)∈tps.take i):=λz=>by
    have h3:(tps.take (i+1)).Pairwise UN:=Z.un.sublist (kh _ _);rw[J] at h3;have h4:=(List.pairwise_append.mp h3).2.2;rcases z with z | z
    .show(h4 _ z (p,r) (by simp)).1 rfl
    .show(h4 _ z (p,r) (by simp)).2 rfl
   obtain⟨C,ad,b,R⟩:=jZ (i:=0) m1;obtain⟨B,ae,s,S⟩:=jZ (i:=0) X;rw[xZ] at R S;have ai:C≠B:=λe=>by rw[e,s] at b;cases b;show c rfl
   have m:C<ns.length:=by rw[a.1];show ad
   have M:B<ns.length:=by rw[a.1];show ae
   apply⟨d,t,ss,p,r,rfl,N _ _ W,N _ _ U,G _ m1,G _ X,m1,X,c,λH1 t1=>?_⟩;have O:=N.trans t1;have x:=t1 _ _ A;apply yq ?_;apply .inl (qax (O _ _ U) rfl ?_);show .inr ⟨d,.int C,rfl,?_,?_⟩
   .have:=DGet.k (k:=Sum.inr p) (O _ _ W);rw[R] at this;show this
   apply .inl (qax (O _ _ U) rfl ?_);show .inr ⟨d,.int B,rfl,?_,?_⟩
   .have:=DGet.k (k:=Sum.inr r) (O _ _ W);rw[S] at this;show this
   apply .inl (zo x (qt (je m)) ?_);apply⟨_,_,rfl,by lk,?_⟩;rw[zC,a.2.2 C B p r b s,yl ag];apply yq ?_;apply .inl (zo x (qt (je m)) ?_);apply vI ⟨by lk,by lk,by decide⟩ ?_;ext;rw[qee];show .inl (qeE x (qcw (by unfold zh;rw[ya];show m)) ?_);rw[qbw];ext;have e2:(ns.set C (ns.getD C 0 ||| 2 ^ B)).getD B 0=ns.getD B 0:=by rw[zv m,yD ai]
   show .inl (zo qb (qt (je (by simpa using M))) ?_);apply vI ⟨by lk,by lk,by decide⟩ ?_;ext;rw[qee,e2];show .inl (qeE qb (qcw (by unfold zh;rw[ya];simpa using M)) ?_);rw[qbw];show⟨_,_,_,_,rfl,qdy (qdy O n0) n0,qb,?_⟩;rw[J];show bits_step a af b s c
  .obtain⟨v3,v4,v5,ns,rfl,N,A,a⟩:=I;ext;rw[ya,L,yT] at a;show q n _ H' N n0 A a
inductive spWeb(cw:Addr)(vs:List V)(H:Hp)(Q:VK)(E:XK):Prop|mk (x dx a l:Addr) (ss:LS) (ts:LI) (tps:LP) (_:vs=[.ref x,.ref a,.ref l]) (_:H x=some (.ins cw dx [])) (_:H a=some (.lst (ss.map V.str))) (_:ss.length<=14) (_:ss.Nodup) (_:(∀ s∈ss,jD s=true)) (_:PL H l ts tps) (_:TGo ss tps) (_:∀ ns H',But x H H'->WebN H cw H' x ss ns->qbZ ss ns tps->Q .non H')
theorem PL.but{fs:List (Str×V)}(h:PL H l ts tps)(a:H x=some (.ins C dx fs))(b:But x H H'):PL H' l ts tps:=
 ⟨b _ _ (qeJ h.1 a (by intro z;cases z)) h.1,h.2.mono λt ab e=>b _ _ (qeJ e a (by intro z;cases z)) e⟩
theorem ok_web(F:Fun K "__init__" "Web.__init__" qao f fd)(T:Txt K mg cc cw)(uW:wq9 4 "numbers_of" ["names"] spNums)(X:wq9 4 "near_of" wq8 spNear) :
  wqqb 5 f fd wqD (spWeb cw):=by
 show F.ok u5 λ_ _ _ _ H vs Q E N h=>?_
 .obtain⟨x,dx,a,l,ss,ts,tps,rfl,U,ha,j,nd,p,M,hg,q⟩:=h;have hu:=za N;show⟨_,(qc (qbT (K:=K) rfl (pv 0) (qo uW (hmR N) qy (qa (pv 1) qd)) rfl)
 (qc (qbT (K:=K) rfl (pv 0) (zH (qdw (K:=K) rfl rfl) rfl T.b_list XG (qa (jH (K:=K) rfl (pv 0) rfl) qd)) rfl)
 (qe (qbT (K:=K) rfl (pv 0) (qo X (hmR N) qy (qa (jH (K:=K) rfl (pv 0) rfl) (qa (pv 2) qd))) rfl)))),?_⟩
  apply⟨a,ss,rfl,ha,j,nd,p,λd H1 W L R=>?_⟩;have Y:=(But.refl x H).same W;have A:=W _ _ U;have r:d≠x:=qeJ R A (by intro z;cases z);apply .inl ⟨x,cw,dx,[],rfl,A,T.wcl,T.wn,by decide,?_⟩;have J:=Y.put (o:=.ins cw dx (j4 "numbers" (.ref d) []));have g:upd H1 x (.ins cw dx (j4 "numbers" (.ref d) [])) d=some (.dK (qbv ss 0)):=by rw[qi r];show R
  have c:upd H1 x (.ins cw dx (j4 "numbers" (.ref d) [])) x=_:=qb;generalize upd H1 x (.ins cw dx (j4 "numbers" (.ref d) []))=H2 at J g c;apply .inl ⟨x,cw,dx,_,.ref d,rfl,c,T.wcl,T.wn,by rw[qE,yH rfl],?_⟩;apply .inr (.inl ⟨d,_,rfl,g,λol s=>?_⟩);rw[qdb];have G:ol≠x:=λe=>by subst e;rw[c] at s;cases s
  have Z:=J.new (o:=.lst (ss.map V.str)) s
  have y:H ol=none:=by
   cases q':H ol with
   | none=>rfl
   | some o'=>rw[J ol o' G q'] at s;cases s
  have O:d≠ol:=qD g s;apply .inl ⟨x,cw,dx,_,rfl,(by rw[qi G.symm];show c),T.wcl,T.wo,YH (zd _ _ _) (by decide),?_⟩;have D:=Z.put (o:=.ins cw dx (j4 "order" (.ref ol) (j4 "numbers" (.ref d) [])));have m:upd (upd H2 ol (.lst (ss.map V.str))) x (.ins cw dx (j4 "order" (.ref ol) (j4 "numbers" (.ref d) []))) d=some (.dK (qbv ss 0)):=by rw[qi r,qi O];show g
  have v:upd (upd H2 ol (.lst (ss.map V.str))) x (.ins cw dx (j4 "order" (.ref ol) (j4 "numbers" (.ref d) []))) ol=some (.lst (ss.map V.str)):=by rw[qi G];show qb
  have i:upd (upd H2 ol (.lst (ss.map V.str))) x (.ins cw dx (j4 "order" (.ref ol) (j4 "numbers" (.ref d) []))) x=_:=qb;generalize upd (upd H2 ol (.lst (ss.map V.str))) x (.ins cw dx (j4 "order" (.ref ol) (j4 "numbers" (.ref d) [])))=H3 at D m v i;apply .inl ⟨x,cw,dx,_,.ref d,rfl,i,T.wcl,T.wn,by rw[qE,yD (by room),qE,yH rfl],?_⟩;apply⟨d,l,ss,ts,tps,rfl,m,j,nd,p,M.but U D,hg,λn ns H4 I t S b=>?_⟩;have B:=I _ _ i;have C:n≠x:=qeJ S B (by intro z;cases z);apply .inl ⟨x,cw,dx,_,rfl,B,T.wcl,T.wr,YH (zd _ _ _) (YH (Nat.succ_le_succ (zd _ _ _)) (by decide)),?_⟩
  have u:H n=none:=by
   cases q':H n with
   | none=>rfl
   | some o'=>rw[D n o' C q'] at t;cases t
  show q ns _ (D.same I).put ⟨dx,d,ol,n,qb,by rw[qi r];show I _ _ m,by rw[qi G];show I _ _ v,by rw[qi C];show S,⟨b.1,j,nd,b.2.1,p⟩,L,y,u⟩ b
theorem uS:FnScope wq2 wq2 (qg zw):=fS
theorem uf:FnScope wqr wqr (qg ji):=fS
theorem uC:FnScope wqi wqi (qg jO):=fS
theorem uT:FnScope wqi wqi (qg zx):=fS
theorem uv:FnScope wqi wqi (qg jq):=fS
theorem uB:FnScope ["self","one","other","bits"] wqX (qg qap):=fS
theorem uJ:FnScope wqV wqV (qg jy):=fS
theorem jr{n:V}:(j4 "near" n (j4 "order" ol (j4 "numbers" d []))).lookup ("numbers":Str)=some d:=by
 rw[qE,yD (by room),qE,yD (by room),qE,yH rfl]
theorem qaW{n:V}:(j4 "near" n (j4 "order" ol (j4 "numbers" d []))).lookup ("order":Str)=some ol:=by
 rw[qE,yD (by room),qE,yH rfl]
theorem qe4{n:V}:(j4 "near" n (j4 "order" ol (j4 "numbers" d []))).lookup ("near":Str)=some n:=by
 rw[qE,yH rfl]
theorem qaa{f:Str}{n:V}(h:(f=="near"||f=="order"||f=="numbers")=false):(j4 "near" n (j4 "order" ol (j4 "numbers" d []))).lookup f=none:=by
 simp only[Bool.or_eq_false_iff,Yy] at h;rw[qE,yD h.1.1,qE,yD h.1.2,qE,yD h.2];rfl
def inB:LS->Nat->Nat->LS
 | [],_,_=>[]
 | s::r,i,b=>if b.testBit i=true then s::inB r (i+1) b else inB r (i+1) b
theorem qbx(y:Str)(b:Nat):∀(l:LS) (k:Nat),inB (l++[y]) k b=inB l k b++(if b.testBit (k+l.length)=true then [y] else [])
 | [],k=>by simp[inB]
 | s::r,k=>by
  have a:=qbx y b r (k+1);have e:k+1+r.length=k+(s::r).length:=by simp;lk
  rw[e] at a;simp only[Ke,inB,a];split<;>simp
theorem qcx(b:Nat):∀(l:LS) (k:Nat),(inB l k b).length<=l.length
 | [],_=>yh _
 | s::r,k=>by
  have a:=qcx b r (k+1);simp only[inB];split
  .simp;lk
  .simp;lk
inductive spHas(cw:Addr)(vs:List V)(H:Hp)(Q:VK)(E:XK):Prop|mk (x:Addr) (ss:LS) (ns:LN) (y:Str) (_:vs=[.ref x,.str y]) (_:WebAt cw H x ss ns) (_:y∈ss) (_:∀ H',L2.Same H H'->Q (.bl true) H')
inductive spNum(cw:Addr)(vs:List V)(H:Hp)(Q:VK)(E:XK):Prop|mk (x:Addr) (ss:LS) (ns:LN) (y:Str) (j:Nat) (_:vs=[.ref x,.str y]) (_:WebAt cw H x ss ns) (_:ss[j]?=some y) (_:∀ H',L2.Same H H'->Q (.int (j:Nat)) H')
inductive spBB(cw:Addr)(vs:List V)(H:Hp)(Q:VK)(E:XK):Prop|mk (x:Addr) (ss:LS) (ns:LN) (y:Str) (j:Nat) (_:vs=[.ref x,.str y]) (_:WebAt cw H x ss ns) (_:ss[j]?=some y) (_:∀ H',L2.Same H H'->Q (.int (ns.getD j 0:Nat)) H')
inductive spNIn(cw:Addr)(vs:List V)(H:Hp)(Q:VK)(E:XK):Prop|mk (x:Addr) (ss:LS) (ns:LN) (b:Nat) (_:vs=[.ref x,.int b]) (_:WebAt cw H x ss ns) (_:∀ l,H l=none->Q (.ref l) (upd H l (.lst ((inB ss 0 b).map V.str))))
inductive spBs(cw:Addr)(vs:List V)(H:Hp)(Q:VK)(E:XK):Prop|mk (x:Addr) (ss:LS) (ns:LN) (y:Str) (j:Nat) (_:vs=[.ref x,.str y]) (_:WebAt cw H x ss ns) (_:ss[j]?=some y) (_:∀ H',L2.Same H H'->∀ l,H' l=none->Q (.ref l) (upd H' l (.lst ((inB ss 0 (ns.getD j 0)).map V.str))))
inductive spTied(cw:Addr)(vs:List V)(H:Hp)(Q:VK)(E:XK):Prop|mk (x:Addr) (ss:LS) (ns:LN) (y z:Str) (j i:Nat) (_:vs=[.ref x,.str y,.str z]) (_:WebAt cw H x ss ns) (_:ss[j]?=some y) (_:ss[i]?=some z) (_:∀ H',L2.Same H H'->Q (.bl ((ns.getD j 0).testBit i)) H')
inductive spPls(cw:Addr)(vs:List V)(H:Hp)(Q:VK)(E:XK):Prop|mk (x:Addr) (ss:LS) (ns:LN) (_:vs=[.ref x]) (_:WebAt cw H x ss ns) (_:∀ l,H l=none->Q (.ref l) (upd H l (.lst (ss.map V.str))))
theorem ok_has(F:Fun K "has_place" "Web.has_place" ji f fd)(T:Txt K mg cc cw)(b:wq9 2 "is_place" wqg spPlace):wqqb 3 f fd wqr (spHas cw):=by
 show F.ok uf λ_ _ _ _ H vs Q E e h=>?_
 .obtain⟨x,ss,ns,y,rfl,⟨dx,d,ol,n,g,c,j,i,hw⟩,a,q⟩:=h;show⟨_,(qe (qr (qo b (hmR e) qy (qa (jH (K:=K) rfl (pv 0) rfl) (qa (pv 1) qd))))),?_⟩;apply .inl ⟨x,cw,dx,_,.ref d,rfl,g,T.wcl,T.wn,jr,?_⟩;apply⟨d,ss,y,rfl,c,hw.nm _ a,a,q⟩
theorem ok_num(F:Fun K "number_of" "Web.number_of" jO f fd)(T:Txt K mg cc cw)(o:wqqa 3 cw "has_place" wqr (spHas cw)):wqqb 4 f fd wqi (spNum cw):=by
 show F.ok uC λ_ _ _ _ H vs Q E e h=>?_
 .obtain⟨x,ss,ns,y,j,rfl,c,b,q⟩:=h;obtain⟨dx,d,ol,n,g,r,v,u,hw⟩:=id c;have l:=ye b;have s:=za e;show⟨_,(qc (qN (qS (qQ (qX o (hmR e) (pv 0) (qa (pv 1) qd)))) (qe jl) qw)
 (qe (qr (qu (qv (K:=K) rfl s) (jH (K:=K) rfl (pv 0) rfl) (pv 1) (λ_ _=>rfl))))),?_⟩
  apply⟨x,dx,_,rfl,g,qaa (by room),?_⟩;apply⟨x,ss,ns,y,rfl,c,l,λH1 a=>?_⟩;apply yq ?_;obtain⟨i,t,p,m⟩:=jZ (i:=0) l;rw[xZ,qA hw.nd p b] at m;apply .inl ⟨x,cw,dx,_,.ref d,rfl,a _ _ g,T.wcl,T.wn,jr,?_⟩;apply .inr ⟨d,.int j,rfl,?_,q H1 a⟩;have:=DGet.k (k:=Sum.inr y) (a _ _ r);rw[m] at this;show this
theorem ok_bb(F:Fun K "bits_beside" "Web.bits_beside" jq f fd)(T:Txt K mg cc cw)(i:wqqa 4 cw "number_of" wqi (spNum cw)):wqqb 5 f fd wqi (spBB cw):=by
 show F.ok uv λ_ _ _ _ H vs Q E c h=>?_
 .obtain⟨x,ss,ns,y,j,rfl,b,a,q⟩:=h;obtain⟨dx,d,ol,n,e,o,p,l,hw⟩:=id b;have m:=za c;show⟨_,(qe (qr (qu (qv (K:=K) rfl m) (jH (K:=K) rfl (pv 0) rfl) (qX i (hmR c) (pv 0) (qa (pv 1) qd)) (λ_ _=>rfl)))),?_⟩;apply .inl ⟨x,cw,dx,_,.ref n,rfl,e,T.wcl,T.wr,qe4,?_⟩;apply⟨x,dx,_,rfl,e,qaa (by room),?_⟩;apply⟨x,ss,ns,y,j,rfl,b,a,λH1 g=>?_⟩;show .inl (zo (g _ _ l) (qt (je (by rw[hw.len];show(yc.mp a).1))) (q H1 g))
theorem ok_nin(F:Fun K "names_in" "Web.names_in" jy f fd)(T:Txt K mg cc cw)(A:wq9 1 "has_bit" wqF spBit):wqqb 2 f fd wqV (spNIn cw):=by
 show F.ok uJ λ_ _ _ _ H vs Q E u h=>?_
 .obtain⟨x,ss,ns,b,rfl,⟨dx,d,ol,n,v,D,t,L,hw⟩,q⟩:=h;have I:=za u;show⟨_,(qe (qr (jh (sc:=qg jy) (XN:=wqV) ["name","bits","self"] 1 [1,0] rfl rfl rfl (by room) rfl (by room)
  (qK (K:=K) rfl (jH (K:=K) rfl (pv 0) rfl)) (λ_ _ _ _=>(qm (i:=0) (show(["name","bits","self"]:LS).Nodup by room) rfl (yF rfl))) qF
  (λ_ _ _ _=>(qP (qQ (qo A (hmR u) qy (qa (pv 1) (qa (qu (qv (K:=K) rfl I) (jH (K:=K) rfl (pv 2) rfl) (pv 0) (λ_ _=>rfl)) qd))))))
  (λ_ _ _ _=>(pv 0))))),?_⟩
  apply .inl ⟨x,cw,dx,_,.ref ol,rfl,v,T.wcl,T.wo,qaW,?_⟩;show .inl ⟨⟨_,SqL.of t⟩,qJ (K:=K) (λi m H'=>H'=H/\m=(inB (ss.take i) 0 b).map V.str) ⟨rfl,by simp[inB]⟩ (λi m H' _ e=>by rw[e.1];show SqL.of t) (λi y m H' r e=>?_) λm H' e=>?_⟩
  .obtain⟨rfl,rfl⟩:=e;have G:i<ss.length:=by simpa using(yc.mp r).1
   have c:ss[i]?=some ss[i]:=yb G;generalize ss[i]=s at c;have B:y=.str s:=by rw[yd,c] at r;cases r;rfl
   subst B;obtain⟨j,J,C,z⟩:=jZ (i:=0) (ye c);rw[xZ] at z;have p:j=i:=qA hw.nd C c;subst p;have g:ss.take (j+1)=ss.take j++[s]:=by rw[yO,c];rfl
   have a:(ss.take j).length=j:=by rw[yK];lk
   apply .inl ⟨x,cw,dx,_,.ref d,rfl,v,T.wcl,T.wn,jr,?_⟩;apply .inr ⟨d,.int j,rfl,?_,?_⟩
   .have:=DGet.k (k:=Sum.inr s) D;rw[z] at this;show this
   apply⟨_,_,rfl,by lk,?_⟩;rw[zC];ext
   have few:((inB (ss.take j) 0 b).map V.str).length<sizeLine:=by
    rw[ya];show qh (yi (qcx _ _ _) (by rw[a];have:=hw.few;lk))
   show qL (λhb=>?_) λhb=>?_
   .ext;show⟨few,rfl,?_⟩;rw[g,qbx,a,xZ,yH hb];simp
   .show⟨rfl,?_⟩;rw[g,qbx,a,xZ,yD hb];simp
  .obtain⟨rfl,rfl⟩:=e;have o:ss.take (ss.map V.str).length=ss:=by rw[ya,yT]
   rw[o];show⟨?_,λl hl=>q l hl⟩;rw[ya];show yN (qh (yi (qcx _ _ _) (by have:=hw.few;lk)))
theorem ok_bs(F:Fun K "beside" "Web.beside" zx f fd)(T:Txt K mg cc cw)(g:wqqa 5 cw "bits_beside" wqi (spBB cw))(i:wqqa 2 cw "names_in" wqV (spNIn cw)):wqqb 6 f fd wqi (spBs cw):=by
 show F.ok uT λ_ _ _ _ H vs Q E b h=>?_
 .obtain⟨x,ss,ns,y,j,rfl,a,l,q⟩:=h;obtain⟨dx,d,ol,n,c,_⟩:=id a;show⟨_,(qe (qr (qX i (hmR b) (pv 0) (qa (qX g (hmR b) (pv 0) (qa (pv 1) qd)) qd)))),?_⟩;apply⟨x,dx,_,rfl,c,qaa (by room),?_⟩;apply⟨x,dx,_,rfl,c,qaa (by room),?_⟩;apply⟨x,ss,ns,y,j,rfl,a,l,λH1 e=>?_⟩;apply⟨x,ss,ns,_,rfl,a.same e,q H1 e⟩
theorem ok_tied(F:Fun K "tied" "Web.tied" qap f fd)(T:Txt K mg cc cw)(g:wqqa 5 cw "bits_beside" wqi (spBB cw))(m:wqqa 4 cw "number_of" wqi (spNum cw))
  (l:wq9 1 "has_bit" wqF spBit):wqqb 6 f fd wqX (spTied cw):=by
 show F.ok uB λ_ _ _ _ H vs Q E b h=>?_
 .obtain⟨x,ss,ns,y,z,j,i,rfl,a,p,o,q⟩:=h;obtain⟨dx,d,ol,n,e,_⟩:=id a;show⟨_,(qc (qk (i:=3) uB.nd rfl (yF rfl) (qX g (hmR b) (pv 0) (qa (pv 1) qd)))
 (qe (qr (qo l (hmR b) qy (qa (pv 3) (qa (qX m (hmR b) (pv 0) (qa (pv 2) qd)) qd)))))),?_⟩
  apply⟨x,dx,_,rfl,e,qaa (by room),?_⟩;apply⟨x,ss,ns,y,j,rfl,a,p,λH1 c=>?_⟩;apply⟨x,dx,_,rfl,c _ _ e,qaa (by room),?_⟩;apply⟨x,ss,ns,z,i,rfl,a.same c,o,λH2 r=>?_⟩;apply⟨_,_,rfl,by lk,?_⟩;rw[zC];show q H2 (c.trans r)
theorem ok_pls(F:Fun K "places" "Web.places" zw f fd)(T:Txt K mg cc cw):wqqb 1 f fd wq2 (spPls cw):=by
 show F.ok uS λ_ _ _ _ H vs Q E g h=>?_
 .obtain⟨x,ss,ns,rfl,⟨dx,d,ol,n,b,c,a,e,hw⟩,q⟩:=h;show⟨_,(qe (qr (zH (qdw (K:=K) rfl rfl) rfl T.b_list XG (qa (jH (K:=K) rfl (pv 0) rfl) qd)))),?_⟩;apply .inl ⟨x,cw,dx,_,.ref ol,rfl,b,T.wcl,T.wo,qaW,?_⟩;apply .inl ⟨ol,_,rfl,.inl (SqL.of a),q⟩
theorem KM:FnScope ["self","pieces","seen","number","piece"] wq2 (qg zy):=fS
theorem KB:FnScope ["near","number","piece","before","at","bits"] ["near","number"] (qg jY):=fS
theorem qdA(m k:Nat):Builtin.bitOr (m:Int) (k:Int)=((m ||| k:Nat):Int):=by
 have c:Builtin.bitNot (m:Int)=-(m:Int)-1:=rfl;have d:Builtin.bitNot (k:Int)=-(k:Int)-1:=rfl;unfold Builtin.bitOr Builtin.bitAnd;rw[c,d,yl (by lk),yl (by lk)];dsimp only;unfold Builtin.bitNot;have a:(-(-(m:Int)-1)-1).toNat=m:=by lk
 have b:(-(-(k:Int)-1)-1).toNat=k:=by lk
 rw[a,b];lk
theorem qdB(j:Nat):(1*2 ^ (j:Int).toNat:Int)=((2 ^ j:Nat):Int):=by rw[yS,kY,xU];rfl
inductive Rch(ns:LN)(i:Nat):Nat->Prop
 | zero:Rch ns i i
 | step {a b:Nat} (h:Rch ns i a) (t:(ns.getD a 0).testBit b=true):Rch ns i b
theorem Rch.trans{a b:Nat}(h:Rch ns i a)(g:Rch ns a b):Rch ns i b:=by
 induction g with
 | zero=>show h
 | step _ t ih=>show .step ih t
inductive spPc(vs:List V)(H:Hp)(Q:VK)(E:XK):Prop|mk (n:Addr) (ns:LN) (i:Nat) (_:vs=[.ref n,.int i]) (_:H n=some (.lst (zh ns))) (_:i<ns.length) (_:ns.length<=14) (_:(∀ a,ns.getD a 0<2 ^ ns.length)) (_:∀(b:Nat) (H':Hp),L2.Same H H'->(∀ c,b.testBit c=true↔Rch ns i c)->Q (.int b) H')
def qdC(ns:LN)(k:Nat):Bool:=@decide (∀ j,j<k->¬ Rch ns j k) (Classical.propDecidable _)
theorem isRep_iff{k:Nat}:qdC ns k=true↔∀ j,j<k->¬ Rch ns j k:=by unfold qdC;show @decide_eq_true_iff _ (Classical.propDecidable _)
def qfy(ns:LN)(n:Nat):LN:=(List.range n).filter (qdC ns)
open Classical in
def qdc(ss:LS)(ns:LN)(k:Nat):LS:=ss.filter λs=>decide (Rch ns k (ss.idxOf s))
theorem qb0(b:ss.Nodup)(h:ss[i]?=some s):ss.idxOf s=i:=by
 have a:s∈ss:=ye h;have hl:ss.idxOf s<ss.length:=YN a;show qA b (by rw[yb hl,xP]) h
theorem qaq(f:ss.Nodup)(b:Nat):inB ss 0 b=ss.filter λs=>b.testBit (ss.idxOf s):=by
 have e:∀ k,k<=ss.length->inB (ss.take k) 0 b=(ss.take k).filter λs=>b.testBit (ss.idxOf s):=λk=>by
  induction k with
  | zero=>intro _;simp[inB]
  | succ k ih =>
   intro h;have a:ss[k]?=some ss[k]:=yb (by lk);generalize ss[k]=g at a;have d:ss.take (k+1)=ss.take k++[g]:=by rw[yO,a];rfl
   have c:(ss.take k).length=k:=by rw[yK];lk
   rw[d,qbx,yZ,ih (by lk),c,xZ]
   congr 1
   rw[yP,YA,qb0 f a]
 have:=e ss.length (yh _)
 rwa[yT] at this
theorem comp_of(a:ss.Nodup){b k:Nat}(h:∀ c,b.testBit c=true↔Rch ns k c):inB ss 0 b=qdc ss ns k:=by
 rw[qaq a];unfold qdc;apply YL;intro s _;rw[Yu,h];simp
def qhx(H H':Hp)(l:Addr)(a:Addr)(ps:LS):Prop:=H a=none/\a≠l/\H' a=some (.lst (ps.map V.str))
inductive spPcs(cw:Addr)(vs:List V)(H:Hp)(Q:VK)(E:XK):Prop|mk (x:Addr) (ss:LS) (ns:LN) (_:vs=[.ref x]) (_:WebAt cw H x ss ns) (_:∀(l:Addr) (ls:LI) (H':Hp),L2.Same H H'->H l=none->H' l=some (.lst (ls.map V.ref))->All2 (qhx H H' l) ls ((qfy ns ss.length).map (qdc ss ns))->Q (.ref l) H')
theorem ok_pc(F:Fun K "piece_around" "piece_around" jY f fd)(T:Txt K mg cc cw)(KN:wq9 1 "has_bit" wqF spBit):wqqb 2 f fd ["near","number"] spPc:=by
 show F.ok KB λ_ _ _ _ H vs Q E hr h=>?_
 .obtain⟨n,ns,i,rfl,Z,hi,ac,S,q⟩:=h;have hu:=za hr;show⟨_,(qc (qk (i:=2) KB.nd rfl (yF rfl) (qp j7 qf (pv 1)))
 (qc (qk (i:=3) KB.nd rfl (yF rfl) qf)
 (qc (qcp yW (qq (qaf (K:=K) rfl hu) (pv 3) (pv 2) (qB _))
 (qc (qk (i:=3) KB.nd rfl (yF rfl) (pv 2))
 (qe (qR yW rfl (pi_enum (K:=K) rfl rfl T.b_enumerate (qa (pv 0) qd)) (qca rfl (jm (qm (i:=4) KB.nd rfl (yF rfl)) (jm (qm (i:=5) KB.nd rfl (yF rfl)) qbb)))
 (qe (qN (qQ (qo KN (hmR hr) qy (qa (pv 3) (qa (pv 4) qd)))) (qe (qk (i:=2) KB.nd rfl (yF rfl) (qp qdq (pv 2) (pv 5)))) qw))))))
 (qe (qr (pv 2)))))),?_⟩
  apply vI ⟨by lk,by lk,by decide⟩ ?_;ext;rw[qdB];have J:∀ c,(2 ^ i:Nat).testBit c=decide (i=c):=λc=>Yj;show⟨λm v H'=>∃(pc b:Nat) (j l:Option V),m=2 ^ ns.length-b/\v=[some (.ref n),some (.int i),some (.int pc),some (.int b),j,l]/\L2.Same H H'/\b ||| pc=pc/\pc<2 ^ ns.length/\pc.testBit i=true/\(∀ c,pc.testBit c=true->Rch ns i c)/\∀ a c,b.testBit a=true->(ns.getD a 0).testBit c=true->pc.testBit c=true,
   ⟨_,2 ^ i,0,none,none,rfl,rfl,L2.Same.refl H,by simp,xv (by decide) hi,by rw[J];simp,λc hc=>by rw[J] at hc;rw[<- yk hc];show .zero,λa c M=>by simp at M⟩,λm v H1 hW=>?_⟩
  obtain⟨pc,b,j,l,rfl,rfl,X,I,G,D,d,A⟩:=hW;apply .inl ⟨rfl,rfl,?_⟩;apply qL (λU=>?_) λB=>?_
  .have aa:b≠pc:=λe=>by
    subst e;simp[eqV] at U
   have ad:b<pc:=by
    have h1:b<=b ||| pc:=Nat.left_le_or;rw[I] at h1;lk
   show⟨λL H'=>∃(pk:Nat) (j l:Option V),L=[some (.ref n),some (.int i),some (.int pk),some (.int pc),j,l]/\L2.Same H H'/\pc ||| pk=pk/\pk<2 ^ ns.length/\pk.testBit i=true/\(∀ c,pk.testBit c=true->Rch ns i c)/\∀ a c,pc.testBit a=true->(ns.getD a 0).testBit c=true->pk.testBit c=true,
    λL H' hN=>?_,?_⟩
   .obtain⟨pk,j,l,rfl,k1,k2,k3,k4,k5,k6⟩:=hN;show⟨2 ^ ns.length-pc,by lk,pk,pc,j,l,rfl,rfl,k1,k2,k3,k4,k5,k6⟩
   .ext;show⟨n,zh ns,rfl,SqL.of (X _ _ Z),for_enum (K:=K) (λk v H'=>∃(pk:Nat) (j l:Option V),v=[some (.ref n),some (.int i),some (.int pk),some (.int pc),j,l]/\L2.Same H H'/\pc ||| pk=pk/\pk<2 ^ ns.length/\(∀ c,pk.testBit c=true->Rch ns i c)/\∀ a c,a<k->pc.testBit a=true->(ns.getD a 0).testBit c=true->pk.testBit c=true)
     ⟨pc,_,_,rfl,X,by simp,G,d,λa c h=>by lk⟩ (λk v H' _ C=>by obtain⟨_,_,_,_,z,_⟩:=C;show SqL.of (z _ _ Z)) (λk y t v H2 W ht C=>?_) λv H2 C=>?_⟩
    .obtain⟨pk,j,l,rfl,Y,g,r,s,p⟩:=C;have s3:=qC Y (o:=.tup [.int k,y]) ht;have O:k<ns.length:=by have:=(yc.mp W).1;unfold zh at this;simpa using this
     have ey:y=.int (ns.getD k 0:Nat):=by rw[je O] at W;cases W;rfl
     show⟨t,_,rfl,SqT.of qb,rfl,_,_,rfl,_,_,rfl,rfl,?_⟩;subst ey;apply⟨_,_,rfl,by lk,?_⟩;rw[zC];apply qL (λhb=>?_) λhb=>?_
     .ext;rw[qdA];show⟨pk ||| ns.getD k 0,_,_,rfl,s3,by rw[<- Nat.or_assoc,g],xx r (S k),λc hc=>?_,λa c M h1 x=>?_⟩
      .rw [YS,Y5] at hc;rcases hc with hc | hc
       .show s c hc
       .show .step (d k hb) hc
      .rw [YS,Y5];by_cases u:a=k
       .subst u;show .inr x
       .show .inl (p a c (by lk) h1 x)
     .show⟨pk,_,_,rfl,s3,g,r,s,λa c M h1 x=>?_⟩;by_cases u:a=k
      .subst u;show absurd h1 hb
      .show p a c (by lk) h1 x
    .obtain⟨pk,j,l,rfl,Y,g,r,s,p⟩:=C;show⟨pk,j,l,rfl,Y,g,r,by rw[<- g,YS,D];rfl,s,λa c h1 x=>p a c ?_ h1 x⟩
     have R:a<ns.length:=by
      show Nat.lt_of_not_le λN=>?_;have:pc.testBit a=false:=kn (yj G (Y7 (by decide) N));rw[this] at h1;cases h1
     unfold zh;rw[ya];show R
  .have he:b=pc:=by
    simp only[Xu,eqV,YD,Bool.not_eq_false'] at B;have:((b:Int)==(pc:Int))=true:=by simpa using B
    have:=eq_of_beq this;lk
   subst he;apply q b H1 X λc=>⟨d c,λhc=>?_⟩
   induction hc with
   | zero=>show D
   | step _ t ih=>show A _ _ ih t
theorem qdd(ns:LN)(k:Nat):((∃ j,j<k/\Rch ns j k)->qfy ns (k+1)=qfy ns k)/\((¬ ∃ j,j<k/\Rch ns j k)->qfy ns (k+1)=qfy ns k++[k]):=by
 unfold qfy;rw[YB,yZ];constructor
 .rintro ⟨j,a,b⟩
  have e:qdC ns k=false:=by
   rw[kW];intro h;show isRep_iff.mp h j a b
  simp[e]
 .intro h;have e:qdC ns k=true:=isRep_iff.mpr λj a b=>h ⟨j,a,b⟩;simp[e]
theorem ok_pcs(F:Fun K "pieces" "Web.pieces" zy f fd)(T:Txt K mg cc cw)(Y:wq9 1 "has_bit" wqF spBit)(uM:wq9 2 "piece_around" ["near","number"] spPc)
  (X:wqqa 2 cw "names_in" wqV (spNIn cw)):wqqb 3 f fd wq2 (spPcs cw):=by
 show F.ok KM λ_ _ _ _ H vs Q E G h=>?_
 .obtain⟨x,ss,ns,rfl,U,q⟩:=h;obtain⟨dx,d,ol,n,M,hd,ho,hn,hw⟩:=id U;show⟨_,(qc (qk (i:=1) KM.nd rfl (yF rfl) (qz qd))
 (qc (qk (i:=2) KM.nd rfl (yF rfl) qf)
 (qc (qR yW rfl (qT rfl T.b_range (qa (qj (jv (K:=K) rfl) rfl T.b_len Yt (qa (jH (K:=K) rfl (pv 0) rfl) qd)) qd)) (qm (i:=3) KM.nd rfl (yF rfl))
 (qe (qN (qS (qQ (qo Y (hmR G) qy (qa (pv 2) (qa (pv 3) qd))))) (qc (qk (i:=4) KM.nd rfl (yF rfl) (qo uM (hmR G) qy (qa (jH (K:=K) rfl (pv 0) rfl) (qa (pv 3) qd))))
 (qc (qk (i:=2) KM.nd rfl (yF rfl) (qp qdq (pv 2) (pv 4)))
 (qe (qW (qcg (K:=K) rfl yV Yb Yc qG (pv 1) (qa (qX X (hmR G) (pv 0) (qa (pv 4) qd)) qd)))))) qw)))
 (qe (qr (pv 1)))))),?_⟩
  apply⟨by decide,λl hl=>?_⟩;have N:=qC (Sr H) (o:=.lst []) hl;apply .inl ⟨x,cw,dx,_,.ref ol,rfl,N _ _ M,T.wcl,T.wo,qaW,?_⟩;apply j6 (N _ _ ho) ?_;rw[ya];have few:=hw.few;show⟨_,rfl,by lk,by lk,?_⟩;rw[yS];show jL (λk S H'=>k<=ss.length/\∃(sn:Nat) (m:LI) (O R:Option V),S=[some (.ref x),some (.ref l),some (.int sn),O,R]/\L2.Same H H'/\H' l=some (.lst (m.map V.ref))/\All2 (qhx H H' l) m ((qfy ns k).map (qdc ss ns))/\m.length<=k/\∀ b,sn.testBit b=true↔∃ j,j<k/\Rch ns j b)
   ⟨Yx _,0,[],none,none,rfl,N,qb,All2.nil,yh _,λb=>⟨λh=>by simp at h,λ⟨j,h,_⟩=>by lk⟩⟩ (λk S H1 hk s=>?_) λS H1 s=>?_
  .obtain⟨_,sn,m,O,R,rfl,B,r,g,W,t⟩:=s;ext;rw[xi];show⟨_,_,rfl,by lk,?_⟩;rw[zC];apply qL (λhb=>?_) λhb=>?_
   .have D:¬ ∃ j,j<k/\Rch ns j k:=λh=>by
     rw[<- t] at h;rw[h] at hb;cases hb
    apply .inl ⟨x,cw,dx,_,.ref n,rfl,B _ _ M,T.wcl,T.wr,qe4,?_⟩;apply⟨n,ns,k,rfl,B _ _ hn,by rw[hw.len];lk,by rw[hw.len];show few,by rw[hw.len];show hw.lt,λb H2 J C=>?_⟩;have L:=B.trans J;have y:=J _ _ r;ext;rw[qdA];show⟨.inl ⟨rfl,_,SqL.of y⟩,?_⟩;apply⟨x,dx,_,rfl,L _ _ M,qaa (by room),?_⟩;apply⟨x,ss,ns,b,rfl,U.same L,λa I=>?_⟩;ext;have A:l≠a:=qD y I;show⟨l,_,_,rfl,rfl,by rw[qi A];show y,by rw[ya];show qh (by lk),?_⟩;have s4:=qdy (qC L (o:=.lst ((inB ss 0 b).map V.str)) I) (o:=.lst (m.map V.ref++[.ref a])) hl;show⟨by lk,sn ||| b,m++[a],_,_,rfl,s4,by rw[qb,yt];rfl,?_,by rw[yu];show m.length+1<=k+1;lk,λc=>?_⟩
    .rw [(qdd ns k).2 D,yt];show All2.snoc (g.mono λZ ps s=>⟨s.1,s.2.1,?_⟩) ⟨L.free I,A.symm,?_⟩
     .have na:Z≠a:=λe=>by
       have z:=J _ _ s.2.2;rw[e,I] at z;cases z
      rw[qi s.2.1,qi na];show J _ _ s.2.2
     .rw [qi A.symm,qb,comp_of hw.nd C]
    .rw [YS,Y5,t,C];constructor
     .rintro (⟨j,h1,p⟩ | h)
      .show⟨j,by lk,p⟩
      .show⟨k,by lk,h⟩
     .rintro ⟨j,h1,p⟩;by_cases v:j=k
      .subst v;show .inr p
      .show .inl ⟨j,by lk,p⟩
   .have u:∃ j,j<k/\Rch ns j k:=by
     rw[<- t];simpa using hb
    show⟨by lk,sn,m,_,_,rfl,B,r,?_,by lk,λc=>?_⟩
    .rw [(qdd ns k).1 u];show g
    .rw [t];constructor
     .rintro ⟨j,h1,p⟩;show⟨j,by lk,p⟩
     .rintro ⟨j,h1,p⟩;by_cases v:j=k
      .subst v;obtain⟨i,hi,G⟩:=u;show⟨i,hi,G.trans p⟩
      .show⟨j,by lk,p⟩
  .obtain⟨_,sn,m,O,R,rfl,B,r,g,_,_⟩:=s;apply q l m H1 B hl r g
theorem K9:FnScope ["self","ties","one","other"] wq2 (qg qar):=fS
theorem qe5(a:ss.Nodup){b:Nat}(h:s∈inB ss 0 b):s∈ss/\b.testBit (ss.idxOf s)=true:=by
 rw[qaq a] at h;show yp.mp h
def qgj(ss:LS)(ns:LN)(i:Nat):LP:=((inB ss 0 (ns.getD i 0)).filter λo=>decide (i<ss.idxOf o)).map λo=>(ss.getD i "",o)
def j0(ss:LS)(ns:LN)(i:Nat):LP:=(List.range i).flatMap (qgj ss ns)
def PrAt(H H':Hp)(l:Addr)(t:Addr)(ab:Str×Str):Prop:=H t=none/\t≠l/\H' t=some (.tup [.str ab.1,.str ab.2])
theorem PrAt.same(h:PrAt H H1 l t ab)(s:L2.Same H1 H2):PrAt H H2 l t ab:=⟨h.1,h.2.1,s _ _ h.2.2⟩
inductive spTs(cw:Addr)(vs:List V)(H:Hp)(Q:VK)(E:XK):Prop|mk (x:Addr) (ss:LS) (ns:LN) (_:vs=[.ref x]) (_:WebAt cw H x ss ns) (_:∀(l:Addr) (ts:LI) (H':Hp),L2.Same H H'->H l=none->H' l=some (.lst (ts.map V.ref))->ts.length<=196->All2 (PrAt H H' l) ts (j0 ss ns ss.length)->Q (.ref l) H')
theorem ok_ts(F:Fun K "ties" "Web.ties" qar f fd)(T:Txt K mg cc cw)(uX:wqqa 6 cw "beside" wqi (spBs cw)):wqqb 7 f fd wq2 (spTs cw):=by
 show F.ok K9 λ_ _ _ _ H vs Q E hr h=>?_
 .obtain⟨x,ss,ns,rfl,hW,q⟩:=h;have hu:=za hr;obtain⟨dx,d,ol,n,hx,hd,ho,hn,hw⟩:=id hW;have few:=hw.few
  have Y:∀(H1:Hp) (y:Str) (i:Nat),L2.Same H H1->ss[i]?=some y->DGet H1 d (.str y) (some (.int (i:Nat))):=λH1 y i R D=>by
   obtain⟨j,hj,gj,vj⟩:=jZ (i:=0) (ye D);rw[xZ] at vj;have af:j=i:=qA hw.nd gj D;subst af;have:=DGet.k (k:=Sum.inr y) (R _ _ hd);rw[vj] at this;show this
  show⟨_,(qc (qk (i:=1) K9.nd rfl (yF rfl) (qz qd))
 (qc (qR yW rfl (qK (K:=K) rfl (jH (K:=K) rfl (pv 0) rfl)) (qm (i:=2) K9.nd rfl (yF rfl))
 (qe (qR yW rfl (qK (K:=K) rfl (qX uX (hmR hr) (pv 0) (qa (pv 2) qd))) (qm (i:=3) K9.nd rfl (yF rfl))
 (qe (qN (qq qfB (qu (qv (K:=K) rfl hu) (jH (K:=K) rfl (pv 0) rfl) (pv 2) (λ_ _=>rfl)) (qu (qv (K:=K) rfl hu) (jH (K:=K) rfl (pv 0) rfl) (pv 3) (λ_ _=>rfl)) (qB _)) (qe (qW (qcg (K:=K) rfl yV Yb Yc qG (pv 1) (qa (jg (qa (pv 2) (qa (pv 3) qd))) qd)))) qw)))))
 (qe (qr (pv 1))))),?_⟩
  apply⟨by decide,λl hl=>?_⟩;have s0:=qC (Sr H) (o:=.lst []) hl;apply .inl ⟨x,cw,dx,_,.ref ol,rfl,s0 _ _ hx,T.wcl,T.wo,qaW,?_⟩;show .inl ⟨⟨_,SqL.of (s0 _ _ ho)⟩,qO (K:=K) (λi J H'=>∃(ts:LI) (x2 U:Option V),J=[some (.ref x),some (.ref l),x2,U]/\L2.Same H H'/\H' l=some (.lst (ts.map V.ref))/\ts.length<=i*14/\All2 (PrAt H H' l) ts (j0 ss ns i))
   ⟨[],none,none,rfl,s0,qb,by simp,All2.nil⟩ (λi J H' _ B=>by obtain⟨_,_,_,_,z,_⟩:=B;show SqL.of (z _ _ ho)) (λi y J H1 hy B=>?_) λJ H1 B=>?_⟩
  .obtain⟨ts,x2,U,rfl,R,G,s,c⟩:=B;have hi:i<ss.length:=by simpa using(yc.mp hy).1
   have D:ss[i]?=some ss[i]:=yb hi;generalize ss[i]=p at D;have ey:y=.str p:=by rw[yd,D] at hy;cases hy;rfl
   subst ey;have al:=hw.nm p (ye D);apply⟨x,dx,_,rfl,R _ _ hx,qaa (by room),?_⟩;apply⟨x,ss,ns,p,i,rfl,hW.same R,D,λH2 s2 b hb=>?_⟩;have s3:=R.trans s2;have s4:=qC s3 (o:=.lst ((inB ss 0 (ns.getD i 0)).map V.str)) hb;have S:=qC s2 (o:=.lst ((inB ss 0 (ns.getD i 0)).map V.str)) hb;have eb:upd H2 b (.lst ((inB ss 0 (ns.getD i 0)).map V.str)) b=some (.lst ((inB ss 0 (ns.getD i 0)).map V.str)):=qb;have ah:b≠l:=λe=>by rw[e,s2 _ _ G] at hb;cases hb
   have aj:H b=none:=s3.free hb;show .inl ⟨⟨_,SqL.of qb⟩,?_⟩;generalize upd H2 b (.lst ((inB ss 0 (ns.getD i 0)).map V.str))=H3 at s4 S eb ⊢;have L:∀ o,o∈inB ss 0 (ns.getD i 0)->o∈ss:=λo h=>(qe5 hw.nd h).1;have ad:=qcx (ns.getD i 0) ss 0;have r:qgj ss ns i=((inB ss 0 (ns.getD i 0)).filter λo=>decide (i<ss.idxOf o)).map λo=>(ss.getD i "",o):=rfl;have aa:ss.getD i ""=p:=by simp[List.getD,D]
   rw[aa] at r;generalize ak:inB ss 0 (ns.getD i 0)=bs at eb L ad r ⊢;show qO (K:=K) (λk J H'=>∃(us:LI) (U:Option V),J=[some (.ref x),some (.ref l),some (.str p),U]/\L2.Same H H'/\H' b=some (.lst (bs.map V.str))/\H' l=some (.lst (us.map V.ref))/\us.length<=i*14+k/\All2 (PrAt H H' l) us (j0 ss ns i++((bs.take k).filter λo=>decide (i<ss.idxOf o)).map λo=>(p,o)))
    ⟨ts,_,rfl,s4,eb,S _ _ G,s,by simpa using c.mono λ_ _ h=>h.same S⟩ (λk J H' _ B=>by obtain⟨_,_,_,_,z,_⟩:=B;show SqL.of z) (λk u J Z N B=>?_) λJ Z B=>?_
   .obtain⟨us,U,rfl,I,C,g,v,a⟩:=B;have hk:k<bs.length:=by simpa using(yc.mp N).1
    have gk:bs[k]?=some bs[k]:=yb hk;generalize bs[k]=m at gk;have eu:u=.str m:=by rw[yd,gk] at N;cases N;rfl
    subst eu;have ag:=L m (ye gk);have ae:=YN ag;have ac:ss[ss.idxOf m]?=some m:=by rw[yb ae,xP]
    have X:bs.take (k+1)=bs.take k++[m]:=by rw[yO,gk];rfl
    apply .inl ⟨x,cw,dx,_,.ref d,rfl,I _ _ hx,T.wcl,T.wn,jr,?_⟩;apply .inr ⟨d,.int i,rfl,Y Z p i I D,?_⟩;apply .inl ⟨x,cw,dx,_,.ref d,rfl,I _ _ hx,T.wcl,T.wn,jr,?_⟩;apply .inr ⟨d,.int (ss.idxOf m:Nat),rfl,Y Z m _ I ac,?_⟩;apply qL (λM=>?_) λM=>?_
    .have A:i<ss.idxOf m:=by have:=yk M;lk
     apply⟨.inl ⟨rfl,_,SqL.of g⟩,?_⟩;apply⟨wqqe,λt ht=>?_⟩;have O:l≠t:=qD g ht;have ai:b≠t:=qD C ht;have s6:=qC (Sr Z) (o:=.tup [.str p,.str m]) ht;apply⟨l,_,_,rfl,rfl,by rw[qi O];show g,by rw[ya];show qh (by have:i*14<=14*14:=Nat.mul_le_mul_right 14 (by lk);lk),?_⟩;show⟨us++[t],_,rfl,qdy (I.trans s6) hl,by rw[qi ah,qi ai];show C,by rw[qb,yt];rfl,by rw[yu];show us.length+1<=_;lk,?_⟩;rw[X,yZ,yt,<- Xv];have W:([m].filter λo=>decide (i<ss.idxOf o)).map (λo=>(p,o))=[(p,m)]:=by simp[A]
     rw[W];show All2.snoc (a.mono λt' ab h=>⟨h.1,h.2.1,?_⟩) ⟨I.free ht,O.symm,?_⟩
     .rw [qi h.2.1];show s6 _ _ h.2.2
     .rw [qi O.symm,qb]
    .have A:¬ i<ss.idxOf m:=λh=>M (yz (by lk));show⟨us,_,rfl,I,C,g,by lk,?_⟩;have W:([m].filter λo=>decide (i<ss.idxOf o)).map (λo=>(p,o))=[]:=by simp[A]
     rw[X,yZ,yt,W,Yg];show a
   .obtain⟨us,U,rfl,I,C,g,v,a⟩:=B;rw[ya,yT] at a;rw[ya] at v;show⟨us,_,_,rfl,I,g,by lk,?_⟩;unfold j0 at a ⊢;rw[YB,xC];have W:[i].flatMap (qgj ss ns)=(bs.filter λo=>decide (i<ss.idxOf o)).map λo=>(p,o):=by rw[<- r];simp
    rw[W];show a
  .obtain⟨ts,x2,U,rfl,R,G,s,c⟩:=B;rw[ya] at s c;apply q l ts H1 R hl G (by have:ss.length*14<=14*14:=Nat.mul_le_mul_right 14 few;lk) c
def Box(H:Hp)(p:Addr):Prop:=∃ a b c:Int,H p=some (.lst [.int a,.int b,.int c])
def BB(p:Addr)(H H':Hp):Prop:=(∀ b o,b≠p->H b=some o->H' b=some o)/\Box H' p
inductive spTake(vs:List V)(H:Hp)(Q:VK)(E:XK):Prop|mk (p:Addr) (m:Int) (_:vs=[.ref p,.int m]) (_:Box H p) (_:0<m) (_:m<1073741824) (_:∀(r:Int) (H':Hp),0<=r->r<m->BB p H H'->Q (.int r) H')
inductive spCell(K:W.Frag)(vs:List V)(H:Hp)(Q:VK)(E:XK):Prop|mk (a:Addr) (ns:LQ) (k:Int) (_:vs=[.ref a,.int k]) (_:SqL K H a (ns.map V.int)) (_:0<=k) (_:k<1000) (_:∀ i:Int,Q (.int i) H)
inductive spBox(vs:List V)(H:Hp)(Q:VK)(E:XK):Prop|mk (i:Int) (_:vs=[.int i]) (_:∀(p:Addr) (a b c:Int),H p=none->Q (.ref p) (upd H p (.lst [.int a,.int b,.int c])))
def NewH(H H':Hp):Hp:=λa=>match H a with | none=>H' a | some _=>none
theorem qdD(c:Str)(ss:LS):inV (.str c) (ss.map V.str)=decide (c∈ss):=by
 unfold inV;rw[List.any_map,Yu,YV,yJ];constructor
 .rintro ⟨y,a,e⟩;have:y=c:=eq_of_beq e;rw[<- this];show a
 .intro h;show⟨c,h,Xh c⟩
theorem flat_strs(ss:LS):(ss.map V.str).all qae=true:=by rw[kM];show Yr.mpr λ_ _=>rfl
inductive spFresh(vs:List V)(H:Hp)(Q:VK)(E:XK):Prop|mk (l:Addr) (ss:LS) (_:vs=[.ref l]) (_:H l=some (.lst (ss.map V.str))) (_:ss.length<=14) (_:∀(x:Str) (H':Hp),L2.Same H H'->jD x=true->x∉ss->Q (.str x) H')
def signs:LS:=("abcdefghijklmno":Str).cps.toList.map λc=>⟨#[c]⟩
theorem slice_ix(k n:Nat):Builtin.Str.strSliceIndices none (some (k:Int)) 1 n=List.range (min k n):=by
 unfold Builtin.Str.strSliceIndices sliceRange;simp only[show(1:Int)>0 by decide,Xu];rw[yD (show ¬ ((k:Int)<0) by lk)];have a:max 0 (min (k:Int) n)=((min k n:Nat):Int):=by lk
 rw[a];have b:(λ(j:Nat)=>((0:Int)+1*(j:Int)).toNat)=id:=by funext j;show _=j;lk
 rw[b,List.map_id]
 congr 1
 split
 .rw [Int.ediv_one];lk
 .omega
theorem qe6(a:Array Nat):∀ m,m<=a.size->(List.range m).filterMap (a[·]?)=a.toList.take m
 | 0,_=>rfl
 | m+1,h=>by
  rw[YB,List.filterMap_append,qe6 a m (by lk),yO]
  congr 1
  have e:a[m]?=some a[m]:=Array.getElem?_eq_getElem (by lk);have b:a.toList[m]?=some a[m]:=by rw[Array.getElem?_toList];show e
  rw[b,XI,e];rfl
theorem qbf(z:Str)(k:Nat):(Txt.slice z none (some (k:Int))).cps.toList=z.cps.toList.take k:=by
 unfold Txt.slice;rw[slice_ix];have b:z.length=z.cps.toList.length:=by simp[Str.length]
 split
 .rename_i h
  rw[YE] at h;have:min k z.length=z.length:=by simpa using h
  rw[YW (by lk)]
 .show(List.filterMap _ _).toArray.toList=_;rw[qe6 z.cps (min k z.length) (kr _ _)];show z.cps.toList.take (min k z.length)=_;by_cases a:k<=z.length
  .rw [Kq a]
  .rw [Kh (by lk),YW (by lk),YW (by lk)]
theorem qaX(a b:Str):(a++b).cps.toList=a.cps.toList++b.cps.toList:=by
 show(a.cps++b.cps).toList=_;show Array.toList_append
theorem qef:∀{xs:LS},(∀ x∈xs,x.cps.toList.all sg=true)->(Str.join "" xs).cps.toList.all sg=true
 | [],_=>rfl
 | [x],h=>h x (by simp)
 | x::y::r,h=>by
  have e:Str.join "" (x::y::r)=x++""++Str.join "" (y::r):=rfl;rw[e,qaX,qaX,kH,kH,h x (by simp),qef λz a=>h z (yy _ a)]
  room
theorem qgN{c:Nat}(h:97<=c)(b:c<=122):sg c=true:=by
 have a:∀ i,i<26->sg (97+i)=true:=by room
 have:=a (c-97) (by lk)
 rwa[show 97+(c-97)=c by lk] at this
theorem join_len{xs:LS}(h:∀ x∈xs,x.length=1):(Txt.join "" xs).length=xs.length:=by
 have e:Txt.join "" xs=Str.join "" xs:=Ym.mp (join_plain_closes "" xs);rw[e]
 cases xs with
 | nil=>rfl
 | cons a l =>
  rw[len_join_cons]
  have b:∀ l:LS,(∀ x∈l,x.length=1)->(l.map (·.length)).sum=l.length:=by
   intro l
   induction l with
   | nil=>intro _;rfl
   | cons a l ih =>
    intro h;rw[YG,Kc,h a yM,ih λx c=>h x (yy _ c),yx];lk
  have z:("":Str).length=0:=by room
  rw[b _ h,z];lk
theorem sum_ones{xs:LS}(h:∀ x∈xs,x.length=1):(xs.map (·.length)).sum=xs.length:=by
 induction xs with
 | nil=>rfl
 | cons a l ih =>
  rw[YG,Kc,h a yM,ih λx b=>h x (yy _ b),yx];lk
def Signs(p:Addr)(H:Hp)(i:Nat)(a:List V)(H':Hp):Prop:=BB p H H'/\∃ xs:LS,a=xs.map V.str/\xs.length=i/\∀ x∈xs,x.length=1/\x.cps.toList.all sg=true
def L26:Str:="abcdefghijklmnopqrstuvwxyz"
theorem qf4{i:Int}(b:0<=i)(h1:i<26):atI L26.cps.toList i=some (97+i.toNat):=by
 obtain⟨n,rfl⟩:=Int.eq_ofNat_of_zero_le b;have a:∀ n,n<26->L26.cps.toList[n]?=some (97+n):=by room
 rw[yS];show qt (a n (by lk))
theorem qby{x:Str}{l:LN}(e:x.cps.toList=l)(h1:1<=l.length)(a:l.length<=6)(h:l.all sg=true):jD x=true:=by
 have hl:x.length=l.length:=by rw[<- e];simp[Str.length]
 unfold jD;rw[yH ⟨by lk,by lk⟩,e];show h
theorem nodup_key(h:∀(i j:Nat) (s:Str),ss[i]?=some s->ss[j]?=some s->i=j):ss.Nodup:=by
 show xn.mpr λi j a c b e=>?_;have:=h i j ss[j] (by rw[yb a,e]) (yb c);lk
def NL(p:Addr)(H':Hp)(l:Addr)(ss:LS):Prop:=H' l=some (.lst (ss.map V.str))/\l≠p
structure NOk(ss:LS):Prop where
 few:ss.length<=14
 nd:ss.Nodup
 nm:∀ s∈ss,jD s=true
def PrT(p:Addr)(H:Hp)(t:Addr)(ab:Str×Str):Prop:=t≠p/\H t=some (.tup [.str ab.1,.str ab.2])
def TL(p:Addr)(H:Hp)(l:Addr)(ts:LI)(tps:LP):Prop:=H l=some (.lst (ts.map V.ref))/\l≠p/\All2 (PrT p H) ts tps
structure TOk(ss:LS)(tps:LP):Prop where
 few:tps.length<=30
 ok:∀ ab∈tps,∃ j k:Nat,j<k/\ss[j]?=some ab.1/\ss[k]?=some ab.2
 nd:tps.Nodup
inductive spTies(vs:List V)(H:Hp)(Q:VK)(E:XK):Prop|mk (p n:Addr) (ss:LS) (_:vs=[.ref p,.ref n]) (_:Box H p) (_:NL p H n ss) (_:NOk ss) (_:∀(l:Addr) (ts:LI) (tps:LP) (H':Hp),BB p H H'->H l=none->TL p H' l ts tps->TOk ss tps->Q (.ref l) H')
def Shuf(tps d:LP):Prop:=∃ c,d.Perm c/\All2 (λa b=>b=a\/b=(a.2,a.1)) tps c
inductive spShuf(vs:List V)(H:Hp)(Q:VK)(E:XK):Prop|mk (p l:Addr) (ts:LI) (tps:LP) (_:vs=[.ref p,.ref l]) (_:Box H p) (_:TL p H l ts tps) (_:tps.length<=30) (_:∀(l':Addr) (us:LI) (ups:LP) (H':Hp),BB p H H'->H l'=none->TL p H' l' us ups->Shuf tps ups->Q (.ref l') H')
theorem jU{y:V}(a:(ss.map V.str)[i]?=some y):∃ s,ss[i]?=some s/\y=.str s:=by
 rw[yd] at a
 cases h:ss[i]? with
 | none=>rw[h] at a;cases a
 | some s=>rw[h] at a;cases a;show⟨s,rfl,rfl⟩
def Adj(ss:LS)(ns:LN)(tps:LP):Prop:=∀ a b s t,ss[a]?=some s->ss[b]?=some t->((ns.getD a 0).testBit b=true↔((s,t)∈tps\/(t,s)∈tps))
theorem KS:FnScope ["web","thing","paired","tie"] wql (qg zi):=fS
theorem uq:FnScope wqr wqr (qg jP):=fS
def qba(seen:LS):List (Key×V):=seen.map λs=>(.inr s,.bl true)
theorem zj(y:Str):∀ seen:LS,(zG (qba seen) (.inr y:Key)).isSome=decide (y∈seen)
 | []=>rfl
 | s::r=>by
  by_cases e:s=y
  .subst e;show(zG (((.inr s:Key),V.bl true)::qba r) _).isSome=_;rw[yz (by simp)];simp[zG]
  .show(zG (((.inr s:Key),V.bl true)::qba r) _).isSome=_;rw[qV (p:=((.inr s:Key),V.bl true)) (λz=>e (kC z)),zj y r];apply Yo.mpr;simp[YI e]
theorem qaY{seen:LS}(h:y∉seen):qaM (qba seen) (.inr y:Key) (.bl true)=qba (seen++[y]):=by
 have:zG (qba seen) (.inr y:Key)=none:=by
  have:=zj y seen;rw[yl h] at this;show Option.isNone_iff_eq_none.mp (by rw[<- Option.not_isSome,this];rfl)
 rw[qbt _ this];unfold qba;rw[yt];rfl
def qx(qs:LP):LS:=qs.flatMap λq=>[q.1,q.2]
def prK(qs:LP):List (Key×V):=qs.flatMap λq=>[(.inr q.1,.str q.2),(.inr q.2,.str q.1)]
def pt:LP->Str->Option Str
 | [],_=>none
 | q::r,s=>if q.1=s then some q.2 else if q.2=s then some q.1 else pt r s
theorem qah(s:Str):∀ qs,zG (prK qs) (.inr s:Key)=(pt qs s).map V.str
 | []=>rfl
 | q::r=>by
  show zG (((.inr q.1:Key),V.str q.2)::((.inr q.2:Key),V.str q.1)::prK r) _=(pt (q::r) s).map V.str;unfold pt;by_cases h1:q.1=s
  .rw [jd (p:=((.inr q.1:Key),V.str q.2)) (congrArg Sum.inr h1),yH h1];rfl
  .rw [qV (p:=((.inr q.1:Key),V.str q.2)) (λz=>h1 (kC z)),yD h1];by_cases a:q.2=s
   .rw [jd (p:=((.inr q.2:Key),V.str q.1)) (congrArg Sum.inr a),yH a];rfl
   .rw [qV (p:=((.inr q.2:Key),V.str q.1)) (λz=>a (kC z)),yD a,qah s r]
theorem pt_none:∀{qs:LP},pt qs s=none↔s∉qx qs
 | []=>by simp[pt,qx]
 | q::r=>by
  have e:qx (q::r)=q.1::q.2::qx r:=rfl;rw[e];unfold pt;by_cases h1:q.1=s
  .rw [yH h1];simp[h1]
  .rw [yD h1];by_cases a:q.2=s
   .rw [yH a];simp[a]
   .rw [yD a,pt_none];simp only[yv,Ky];show⟨λz=>⟨YI h1,YI a,z⟩,λz=>z.2.2⟩
structure PGo(ss:LS)(tps qs:LP):Prop where
 inn:∀ q∈qs,(q∈tps\/(q.2,q.1)∈tps)/\q.1∈ss/\q.2∈ss/\q.1≠q.2
 nd:(qx qs).Nodup
 few:qs.length<=30
theorem qaC(qs:LP):(qx qs).length=2*qs.length:=by
 induction qs with
 | nil=>rfl
 | cons q r ih=>show(q.1::q.2::qx r).length=_;simp only[yx];lk
theorem zA(qs:LP)(q:Str×Str):qx (qs++[q])=qx qs++[q.1,q.2]:=by
 unfold qx;rw[xC];rfl
theorem PGo.new(g:PGo ss tps qs)(h:qs[i]?=some ab):qs.take (i+1)=qs.take i++[ab]/\(qx (qs.take i++[ab])).Nodup/\ab.1∉qx (qs.take i)/\ab.2∉qx (qs.take i):=by
 have b:qs.take (i+1)=qs.take i++[ab]:=by rw[yO,h];rfl
 have a:(qx (qs.take i++[ab])).Nodup:=by
  rw[<- b];have:qx qs=qx (qs.take (i+1))++qx (qs.drop (i+1)):=by unfold qx;rw[<- xC,xR]
  have e:=g.nd;rw[this] at e;show(Yk.mp e).1
 have c:=a;rw[zA] at c;have d:=(Yk.mp c).2.2;show⟨b,a,λz=>d _ z ab.1 (by simp) rfl,λz=>d _ z ab.2 (by simp) rfl⟩
inductive spHt(cw:Addr)(vs:List V)(H:Hp)(Q:VK)(E:XK):Prop|mk (x t:Addr) (ss:LS) (ns:LN) (tps:LP) (ab:Str×Str) (_:vs=[.ref x,.ref t]) (_:WebAt cw H x ss ns) (_:Adj ss ns tps) (_:H t=some (.tup [.str ab.1,.str ab.2])) (_:(ab∈tps\/(ab.2,ab.1)∈tps)) (_:ab.1∈ss) (_:ab.2∈ss) (_:ab.1≠ab.2) (_:∀ H',L2.Same H H'->Q (.bl true) H')
inductive spAp(cw:Addr)(vs:List V)(H:Hp)(Q:VK)(E:XK):Prop|mk (x l:Addr) (ss:LS) (ns:LN) (us:LI) (tps qs:LP) (_:vs=[.ref x,.ref l]) (_:WebAt cw H x ss ns) (_:Adj ss ns tps) (_:PL H l us qs) (_:PGo ss tps qs) (_:∀ H',L2.Same H H'->Q (.bl true) H')
theorem ok_ht(F:Fun K "has_tie" "Web.has_tie" jP f fd)(T:Txt K mg cc cw)(y:wq9 3 "are_two_places" wqg spTwo)(D:wqqa 6 cw "tied" wqX (spTied cw)):wqqb 7 f fd wqr (spHt cw):=by
 show F.ok uq λ_ _ _ _ H vs Q E g h=>?_
 .obtain⟨x,t,ss,ns,tps,ab,rfl,r,z,n,c,m1,l,e,q⟩:=h;have s:=za g;obtain⟨u,m,ol,G,hb,d,B,A,hw⟩:=id r;show⟨_,(qe (qr (qbi (qo y (hmR g) qy (qa (jH (K:=K) rfl (pv 0) rfl) (qa (pv 1) qd))) (qbh (qX D (hmR g) (pv 0) (qa (qu (qv (K:=K) rfl s) (pv 1) qf (λ_ _=>rfl)) (qa (qu (qv (K:=K) rfl s) (pv 1) qf (λ_ _=>rfl)) qd))))))),?_⟩;apply .inl ⟨x,cw,u,_,.ref m,rfl,hb,T.wcl,T.wn,jr,?_⟩;apply⟨m,t,ss,ab.1,ab.2,rfl,d,n,hw.nm _ m1,hw.nm _ l,m1,l,e,λH1 b=>?_⟩;show⟨true,rfl,zX ?_⟩;have a:=b _ _ n;apply⟨x,u,_,rfl,b _ _ hb,qaa (by room),?_⟩;apply .inl (qax a (v:=.str ab.1) (qt (j:=0) rfl) ?_);apply .inl (qax a (v:=.str ab.2) (qt (j:=1) rfl) ?_);ext;obtain⟨j,p⟩:=yf m1;obtain⟨i,o⟩:=yf l;show⟨x,ss,ns,ab.1,ab.2,j,i,rfl,r.same b,p,o,λH2 C=>?_⟩;rw[(z j i ab.1 ab.2 p o).mpr c];show q H2 (b.trans C)
theorem ok_ap(F:Fun K "are_pairs" "are_pairs" zi f fd)(T:Txt K mg cc cw)(ue:wqqa 7 cw "has_tie" wqr (spHt cw)):wqqb 8 f fd wql (spAp cw):=by
 show F.ok KS λ_ _ _ _ H vs Q E X h=>?_
 .obtain⟨x,l,ss,ns,us,tps,qs,rfl,W,hA,⟨hl,r⟩,g,q⟩:=h;have e:=za X;obtain⟨wx,dd,ol,nn,hb,_⟩:=id W;have few:=g.few;have N:=r.len;show⟨_,(qc (qN (qS (qQ (qj (qay (K:=K) rfl) rfl T.b_isinstance Yz (qa (pv 1) (qa (jB (v:=.ty "list") rfl T.b_list XG rfl) qd))))) (qe (qr ju)) qw)
 (qc (qk (i:=2) KS.nd rfl (yF rfl) j8)
 (qc (qR yW rfl (qK (K:=K) rfl (pv 1)) (qm (i:=3) KS.nd rfl (yF rfl))
 (qc (qN (PW.pt (qaH (qS (qQ (qX ue (hmR X) (pv 0) (qa (pv 3) qd)))) (qaH (qq (qbp (K:=K) rfl e) (qu (qv (K:=K) rfl e) (pv 3) qf (λ_ _=>rfl)) (pv 2) (by with_unfolding_all rfl)) (qac (qq (qbp (K:=K) rfl e) (qu (qv (K:=K) rfl e) (pv 3) qf (λ_ _=>rfl)) (pv 2) (by with_unfolding_all rfl)))))) (qe (qr ju)) qw)
 (qc (jK ju (jJ (pv 2) (qu (qv (K:=K) rfl e) (pv 3) qf (λ_ _=>rfl)) (jN e)))
 (qe (jK ju (jJ (pv 2) (qu (qv (K:=K) rfl e) (pv 3) qf (λ_ _=>rfl)) (jN e)))))))
 (qe (qr ju))))),?_⟩
  apply qbq (.inl (.lst hl)) rfl (zf K "list" (by simp) "list" (by simp)) ?_;apply yq ?_;ext;intro d C;have O:=qC (Sr H) (o:=.dK []) C;have U:upd H d (.dK []) d=some (.dK (qba [])):=qb;generalize upd H d (.dK [])=H1 at O U;apply .inl ⟨⟨_,.of (O _ _ hl)⟩,qO (xs:=us.map V.ref) (λi G J=>L2.Same H J/\∃ R,G=[some (.ref x),some (.ref l),some (.ref d),R]/\J d=some (.dK (qba (qx (qs.take i))))) ⟨O,_,rfl,U⟩ (λi G J _ u=>.of (u.1 _ _ hl)) (λi y G J Y u=>?_) λG J u=>?_⟩
  .obtain⟨n,R,rfl,c⟩:=u;rw[yd] at Y;obtain⟨b,s,rfl⟩:=yn.mp Y;have hi:i<us.length:=(yc.mp s).1;obtain⟨ab,m⟩:∃ ab,qs[i]?=some ab:=⟨_,yb (by rw[<- N];show hi)⟩;have B:=r.at_ i b ab s m;obtain⟨ht,m1,m2,t⟩:=g.inn ab (ye m);obtain⟨M,aa,Z,n2⟩:=g.new m;have ac:(qx (qs.take i)).length<=60:=by rw[qaC,yK];lk
   have L:b≠d:=λz=>by rw[z,C] at B;cases B
   apply⟨x,wx,_,rfl,n _ _ hb,qaa (by room),?_⟩;apply⟨x,b,ss,ns,tps,ab,rfl,W.same n,hA,n _ _ B,ht,m1,m2,t,λI D=>?_⟩;have A:=n.trans D;have a:=A _ _ B;apply yq ?_;apply .inl (qax a (v:=.str ab.1) (qt (j:=0) rfl) ?_);apply .inr (.inl ⟨d,_,rfl,DGet.k (k:=Sum.inr ab.1) (D _ _ c),?_⟩);rw[yD (by decide),zj,yl Z];apply yq ?_;apply .inl (qax a (v:=.str ab.2) (qt (j:=1) rfl) ?_);apply .inr (.inl ⟨d,_,rfl,DGet.k (k:=Sum.inr ab.2) (D _ _ c),?_⟩);rw[yD (by decide),zj,yl n2];apply yq ?_;apply .inl (qax a (v:=.str ab.1) (qt (j:=0) rfl) ?_);apply .inr ⟨d,_,rfl,DPut.k (k:=Sum.inr ab.1) (D _ _ c) (by unfold qba;rw[ya,xt];lk),?_⟩;rw[qaY Z];have s3:=qdy A (o:=.dK (qba (qx (qs.take i)++[ab.1]))) C;have S:upd I d (.dK (qba (qx (qs.take i)++[ab.1]))) d=some (.dK (qba (qx (qs.take i)++[ab.1]))):=qb;have p:upd I d (.dK (qba (qx (qs.take i)++[ab.1]))) b=some (.tup [.str ab.1,.str ab.2]):=by rw[qi L];show a
   generalize upd I d (.dK (qba (qx (qs.take i)++[ab.1])))=J3 at s3 S p;apply .inl (qax p (v:=.str ab.2) (qt (j:=1) rfl) ?_);apply .inr ⟨d,_,rfl,DPut.k (k:=Sum.inr ab.2) S (by unfold qba;rw[ya,yu,xt];simp only[yx,Yv];lk),?_⟩;rw[qaY (λz=>by rcases yG.mp z with z | z;show n2 z;show t (yC.mp z).symm)];show⟨qdy s3 C,_,rfl,by rw[qb,M,zA,Xv];rfl⟩
  .obtain⟨n,R,rfl,c⟩:=u;apply q J n
theorem KJ:FnScope ["web","pairs","partners","pair"] wqG (qg jQ):=fS
theorem qe7(qs:LP):(prK qs).length=2*qs.length:=by
 induction qs with
 | nil=>rfl
 | cons q r ih=>show(_::_::prK r).length=_;simp only[yx];rw[ih];lk
theorem prK_snoc(qs:LP)(q:Str×Str):prK (qs++[q])=prK qs++[(.inr q.1,.str q.2),(.inr q.2,.str q.1)]:=by
 unfold prK;rw[xC];rfl
theorem qe8{q:Str×Str}(h:(qx (qs++[q])).Nodup):qaM (qaM (prK qs) (.inr q.1:Key) (.str q.2)) (.inr q.2:Key) (.str q.1)=prK (qs++[q]):=by
 rw[zA] at h;obtain⟨h1,b,c⟩:=Yk.mp h;have e:q.1∉qx qs:=λz=>c _ z _ (by simp) rfl;have f:q.2∉qx qs:=λz=>c _ z q.2 (by simp) rfl;have g:q.1≠q.2:=by simp at b;show b
 have i:zG (prK qs) (.inr q.1:Key)=none:=by rw[qah,pt_none.mpr e];rfl
 rw[qbt _ i]
 have a:zG (prK qs++[((.inr q.1:Key),V.str q.2)]) (.inr q.2:Key)=none:=by
  have a:zG (prK qs) (.inr q.2:Key)=none:=by rw[qah,pt_none.mpr f];rfl
  unfold zG at a ⊢;rw[List.find?_append];have:(prK qs).find? (λd=>decide (d.1=(.inr q.2:Key)))=none:=by simpa using a
  rw[this];simp[g]
 rw[qbt _ a,prK_snoc];simp
inductive spPn(cw:Addr)(vs:List V)(H:Hp)(Q:VK)(E:XK):Prop|mk (x l:Addr) (ss:LS) (ns:LN) (us:LI) (tps qs:LP) (_:vs=[.ref x,.ref l]) (_:WebAt cw H x ss ns) (_:Adj ss ns tps) (_:PL H l us qs) (_:PGo ss tps qs) (_:∀(d:Addr) (H':Hp),L2.Same H H'->H d=none->H' d=some (.dK (prK qs))->Q (.ref d) H')
theorem qgO(F:Fun K "partners_in" "partners_in" jQ f fd)(T:Txt K mg cc cw)(Y:wq9 8 "are_pairs" wql (spAp cw)):wqqb 9 f fd wqG (spPn cw):=by
 show F.ok KJ λ_ _ _ _ H vs Q E S h=>?_
 .obtain⟨x,l,ss,ns,us,tps,qs,rfl,hW,Z,⟨hl,n⟩,g,q⟩:=h;have p:=za S;have few:=g.few;have u:=n.len;show⟨_,(qc (qN (qS (qQ (qo Y (hmR S) qy (qa (pv 0) (qa (pv 1) qd))))) (qe jl) qw)
 (qc (qk (i:=2) KJ.nd rfl (yF rfl) j8)
 (qc (qR yW rfl (qK (K:=K) rfl (pv 1)) (qm (i:=3) KJ.nd rfl (yF rfl))
 (qc (jK (qu (qv (K:=K) rfl p) (pv 3) qf (λ_ _=>rfl)) (jJ (pv 2) (qu (qv (K:=K) rfl p) (pv 3) qf (λ_ _=>rfl)) (jN p)))
 (qe (jK (qu (qv (K:=K) rfl p) (pv 3) qf (λ_ _=>rfl)) (jJ (pv 2) (qu (qv (K:=K) rfl p) (pv 3) qf (λ_ _=>rfl)) (jN p))))))
 (qe (qr (pv 2)))))),?_⟩
  apply⟨x,l,ss,ns,us,tps,qs,rfl,hW,Z,⟨hl,n⟩,g,λH1 W=>?_⟩;apply yq ?_;ext;intro d R;have c:=W.free R;have L:=qC W (o:=.dK []) R;have O:upd H1 d (.dK []) d=some (.dK (prK [])):=qb;generalize upd H1 d (.dK [])=H2 at L O;apply .inl ⟨⟨_,.of (L _ _ hl)⟩,qO (xs:=us.map V.ref) (λi B J=>L2.Same H J/\∃ M,B=[some (.ref x),some (.ref l),some (.ref d),M]/\J d=some (.dK (prK (qs.take i)))) ⟨L,_,rfl,O⟩ (λi B J _ t=>.of (t.1 _ _ hl)) (λi y B J U t=>?_) λB J t=>?_⟩
  .obtain⟨A,M,rfl,a⟩:=t;rw[yd] at U;obtain⟨b,s,rfl⟩:=yn.mp U;have hi:i<us.length:=(yc.mp s).1;obtain⟨ab,r⟩:∃ ab,qs[i]?=some ab:=⟨_,yb (by rw[<- u];show hi)⟩;have C:=n.at_ i b ab s r;obtain⟨I,G,n1,n2⟩:=g.new r;have D:b≠d:=λz=>by rw[z,c] at C;cases C
   have m:=A _ _ C;have aa:(prK (qs.take i)).length<=2000:=by rw[qe7,yK];lk
   apply .inl (qax m (v:=.str ab.2) (qt (j:=1) rfl) ?_);apply .inl (qax m (v:=.str ab.1) (qt (j:=0) rfl) ?_);apply .inr ⟨d,_,rfl,DPut.k (k:=Sum.inr ab.1) a (by rw[xt];lk),?_⟩;have X:=qdy A (o:=.dK (qaM (prK (qs.take i)) (Sum.inr ab.1) (.str ab.2))) c;have N:upd J d (.dK (qaM (prK (qs.take i)) (Sum.inr ab.1) (.str ab.2))) d=some (.dK (qaM (prK (qs.take i)) (Sum.inr ab.1) (.str ab.2))):=qb;have e:upd J d (.dK (qaM (prK (qs.take i)) (Sum.inr ab.1) (.str ab.2))) b=some (.tup [.str ab.1,.str ab.2]):=by rw[qi D];show m
   generalize upd J d (.dK (qaM (prK (qs.take i)) (Sum.inr ab.1) (.str ab.2)))=J3 at X N e;apply .inl (qax e (v:=.str ab.1) (qt (j:=0) rfl) ?_);apply .inl (qax e (v:=.str ab.2) (qt (j:=1) rfl) ?_);apply .inr ⟨d,_,rfl,DPut.k (k:=Sum.inr ab.2) N ?_,?_⟩
   .have:=ze (prK (qs.take i)) (Sum.inr ab.1:Key) (.str ab.2);rw[xt];lk
   .show⟨qdy X c,_,rfl,by rw[qb,qe8 G,I]⟩
  .obtain⟨A,M,rfl,a⟩:=t;rw[ya,u,yT] at a;apply q d J A c a
structure Gr(A:Str->Str->Prop)(f:Str->Option Str):Prop where
 as:∀{a b},A a b->A b a
 ir:∀{a b},A a b->a≠b
 fs:∀{a b},f a=some b->f b=some a
 fa:∀{a b},f a=some b->A a b
structure FS where
 rows:Str->Option (LS)
 par:Str->Option Str
 bas:Str->Str
def Turns(A:Str->Str->Prop)(f:Str->Option Str)(r:LS):Prop:=∀(j:Nat) a b,r[j]?=some a->r[j+1]?=some b->A a b/\(f a=some b↔j % 2=1)
structure Alt(A:Str->Str->Prop)(f:Str->Option Str)(r:LS)(v:Str):Prop where
 nd:r.Nodup
 odd:r.length % 2=1
 hd:∀ s,r[0]?=some s->f s=none
 tl:∃ r0,r=r0++[v]
 st:Turns A f r
structure FI(A:Str->Str->Prop)(f:Str->Option Str)(S:FS):Prop where
 alt:∀ v r,S.rows v=some r->Alt A f r v
 bse:∀ v r,S.rows v=some r->∃ rb t,S.rows (S.bas v)=some rb/\r=rb++t/\∀ u∈t,S.bas u=S.bas v
 idm:∀ v r,S.rows v=some r->S.bas (S.bas v)=S.bas v
 dwn:∀ b r q,S.rows b=some r->S.bas b=b->f b=some q->S.rows q=none/\∃ z rz,S.par q=some z/\S.rows z=some rz/\r=rz++[q,b]
 mat:∀ v,S.bas v≠v->(∃ r,S.rows v=some r)/\∃ u,f v=some u/\S.bas u=S.bas v
 odd:∀ x z,S.par x=some z->A z x/\(∃ r,S.rows z=some r)/\∃ y r,f x=some y/\S.rows y=some r
section
variable{A:Str->Str->Prop}{f:Str->Option Str}{S:FS}
theorem FI.own(I:FI A f S){v:Str}(h:S.rows v=none):S.bas v=v:=yX λz=>by
 obtain⟨⟨r,e⟩,_⟩:=I.mat v z;rw[h] at e;cases e
theorem FI.evb(I:FI A f S){v:Str}{r:LS}(h:S.rows v=some r):∃ a,S.rows (S.bas v)=some a:=(I.bse v r h).elim λa z=>⟨a,z.elim λ_ y=>y.1⟩
theorem FI.pair(I:FI A f S){v w:Str}{r s:LS}(hv:S.rows v=some r)(hw:S.rows w=some s)(h:f v=some w):S.bas v=S.bas w:=by
 by_cases z:S.bas v=v
 .have:=(I.dwn v r w hv z h).1;rw[hw] at this;cases this
 .obtain⟨_,u,a,e⟩:=I.mat v z;rw[h] at a;cases a;show e.symm
inductive Ch(f:Str->Option Str)(S:FS):Str->LS->Prop
 | root {b:Str}:f b=none->Ch f S b [b]
 | step {b q z:Str} {l:LS}:f b=some q->S.par q=some z->Ch f S (S.bas z) l->Ch f S b (b::l)
theorem Ch.one{l:LS}(h:Ch f S b l):∀{m},Ch f S b m->m=l:=by
 induction h with
 | root e=>intro m g;cases g with
  | root _=>rfl
  | step e' _ _=>rw[e] at e';cases e'
 | step e p _ ih=>intro m g;cases g with
  | root e'=>rw[e] at e';cases e'
  | step e' p' g'=>rw[e] at e';cases e';rw[p] at p';cases p';rw[ih g']
theorem Ch.ne{l:LS}(h:Ch f S b l):∃ t,l=b::t:=by cases h<;>show⟨_,rfl⟩
theorem FI.chain(I:FI A f S):∀(n:Nat) {b:Str} {r:LS},r.length<=n->S.rows b=some r->S.bas b=b->∃ l,Ch f S b l
 | n,b,r,hn,hb,hbb=>by
  cases e:f b with
  | none=>show⟨_,.root e⟩
  | some q =>
   obtain⟨_,z,d,p,a,h⟩:=I.dwn b r q hb hbb e;obtain⟨c,t,h1,i,_⟩:=I.bse z d a;have hl:c.length<n:=by rw[h,i] at hn;simp at hn;lk
   match n,hl with
   | n+1,hl =>
    obtain⟨l,g⟩:=I.chain n (b:=S.bas z) (r:=c) (by lk) h1 (I.idm z d a);show⟨_,.step e p g⟩
theorem FI.chainOf(I:FI A f S){v:Str}{r:LS}(h:S.rows v=some r):∃ l,Ch f S (S.bas v) l:=by
 obtain⟨a,e⟩:=I.evb h;show I.chain _ (yh _) e (I.idm v r h)
def Cov(f:Str->Option Str)(S:FS)(l:LS)(u:Str):Prop:=∃ d∈l,S.bas u=d\/f d=some u
theorem Cov.mono{l m:LS}(h:Cov f S l u)(a:∀ d∈l,d∈m):Cov f S m u:=h.elim λd z=>⟨d,a d z.1,z.2⟩
theorem Ch.up(I:FI A f S){l:LS}(h:Ch f S b l):∀{v:Str} {r:LS},S.rows v=some r->S.bas v=b->∀{l1 l2:LS} {c:Str},l=l1++c::l2->∃ o t,S.rows c=some o/\S.bas c=c/\Ch f S c (c::l2)/\r=o++t/\∀ u∈t,S.bas u=c\/Cov f S l1 u:=by
 induction h with
 | root e =>
  intro v r hv hb l1 l2 c j
  cases l1 with
  | cons x y=>show absurd (congrArg List.length j) (by simp)
  | nil =>
   cases j;obtain⟨n,t,h1,m,i⟩:=I.bse v r hv;rw[hb] at h1 i;show⟨n,t,h1,by rw[<- hb];show I.idm v r hv,.root e,m,λu hu=>.inl (i u hu)⟩
 | @step b q z l e p g ih =>
  intro v r hv hb l1 l2 c j;obtain⟨n,t,h1,m,i⟩:=I.bse v r hv;rw[hb] at h1 i;have a:S.bas b=b:=by rw[<- hb];show I.idm v r hv
  cases l1 with
  | nil =>
   cases j;show⟨n,t,h1,a,.step e p g,m,λu hu=>.inl (i u hu)⟩
  | cons x y =>
   cases j;obtain⟨J,L,K,s,C,w⟩:=I.dwn b n q h1 a e;rw[p] at s;cases s;obtain⟨o,t',D,E,F,G,H⟩:=ih C rfl rfl;show⟨o,t'++[q,b]++t,D,E,F,by rw[m,w,G];simp,λu hu=>?_⟩;rcases yG.mp hu with hu | hu
   .rcases yG.mp hu with hu | hu
    .show(H u hu).imp id λz=>z.mono λd B=>yy _ B
    .simp only[yv,yQ,Yw] at hu;rcases hu with rfl | rfl
     .show .inr ⟨b,yM,.inr e⟩
     .show .inr ⟨_,yM,.inl a⟩
   .show .inr ⟨b,yM,.inl (i u hu)⟩
theorem Ch.bs0(I:FI A f S){v:Str}{r l:LS}(hv:S.rows v=some r)(h:Ch f S (S.bas v) l)(hc:c∈l):∃ a,S.rows c=some a/\S.bas c=c:=by
 obtain⟨l1,l2,e⟩:=Yp hc;obtain⟨a,_,h1,b,_⟩:=h.up I hv rfl e;show⟨a,h1,b⟩
theorem Ch.cov(G:Gr A f)(I:FI A f S){v:Str}{r l:LS}(hv:S.rows v=some r)(h:Ch f S (S.bas v) l)(hu:u∈r):Cov f S l u:=by
 have hl:l≠[]:=by obtain⟨t,e⟩:=h.ne;rw[e];show List.cons_ne_nil _ _
 obtain⟨o,t,h1,s,w,x,y⟩:=h.up I hv rfl (List.dropLast_concat_getLast hl).symm;have b:l.getLast hl∈l:=List.getLast_mem hl;rw[x] at hu;rcases yG.mp hu with hu | hu
 .have C:f (l.getLast hl)=none:=by
   cases w with
   | root e=>show e
   | step _ _ g=>obtain⟨_,e⟩:=g.ne;cases e
  have c:=I.alt _ _ h1;obtain⟨q,i⟩:=c.tl
  have m:q=[]:=by
   cases j:q.length with
   | zero=>show List.eq_nil_of_length_eq_zero j
   | succ n =>
    exfalso;have p:o.length=n+2:=by rw[i];simp[j]
    obtain⟨a,B⟩:∃ a,o[n]?=some a:=⟨_,yb (by lk)⟩;have hb:o[n+1]?=some (l.getLast hl):=by rw[i,yY (by lk),j];simp
    have:=G.fs ((c.st n a _ B hb).2.mpr (by have:=c.odd;lk));rw[C] at this;cases this
  rw[i,m] at hu;have e:u=l.getLast hl:=by simpa using hu
  show⟨_,b,.inl (by rw[e];show s)⟩
 .rcases y u hu with z | ⟨d,hd,z⟩
  .show⟨_,b,.inl z⟩
  .show⟨d,List.dropLast_subset l hd,z⟩
theorem Cov.apart(G:Gr A f)(I:FI A f S){l m:LS}(hl:∀ d∈l,∃ r,S.rows d=some r/\S.bas d=d)(n:∀ d∈m,∃ r,S.rows d=some r/\S.bas d=d)(t:∀ d∈l,d∉m)(h1:Cov f S l u)(p:Cov f S m u):False:=by
 have i:∀{d e:Str},(∃ r,S.rows d=some r/\S.bas d=d)->(∃ r,S.rows e=some r/\S.bas e=e)->S.bas u=d->f e=some u->False:=λ⟨r,b,q⟩ ⟨s,g,j⟩ h h'=>by
  have o:=(I.dwn _ _ _ g j h').1;have:=I.own o;rw[h] at this;rw[this,o] at b;cases b
 obtain⟨d,b,z⟩:=h1;obtain⟨e,g,y⟩:=p;have c:d≠e:=λw=>t d b (by rw[w];show g);rcases z with z | z<;>rcases y with y | y
 .show c (z.symm.trans y)
 .show i (hl d b) (n e g) z y
 .show i (n e g) (hl d b) y z
 .have a:=G.fs z;rw[G.fs y] at a;show c (ym a).symm
theorem Turns.app{r s:LS}(h:Turns A f r)(g:∀(j:Nat) a b,s[j]?=some a->s[j+1]?=some b->A a b/\(f a=some b↔(r.length+j) % 2=1))(w:∀ a b,r[r.length-1]?=some a->s[0]?=some b->0<r.length->A a b/\(f a=some b↔(r.length-1) % 2=1)):Turns A f (r++s):=λj a b c hb=>by
 by_cases h1:j+1<r.length
 .rw [Yi (by lk)] at c;rw[Yi h1] at hb;show h j a b c hb
 .by_cases d:j+1=r.length
  .rw [Yi (by lk),show j=r.length-1 by lk] at c;rw[yY (by lk),show j+1-r.length=0 by lk] at hb;rw[show j=r.length-1 by lk];show w a b c hb (by lk)
  .rw [yY (by lk)] at c;rw[yY (by lk),show j+1-r.length=j-r.length+1 by lk] at hb;have:=g _ a b c hb
   rwa[show r.length+(j-r.length)=j by lk] at this
theorem Alt.back(G:Gr A f){r s d t:LS}{v w q:Str}(hw:Alt A f s w)(hv:Alt A f r v)(l:r=d++q::c::t)(L:d.length % 2=1)(H:A w v)(I:f w≠some v)(C:∀ u∈s,u∉q::c::t):Alt A f (s++(q::c::t).reverse) q:=by
 obtain⟨N,B⟩:=hw.tl;obtain⟨M,m⟩:=hv.tl;have p:0<s.length:=by rw[B];simp
 have J:=hv.odd;have o:r.length=d.length+(t.length+2):=by rw[l];simp
 have at_:∀{j:Nat} {a:Str},(q::c::t).reverse[j]?=some a->j<t.length+2/\r[r.length-1-j]?=some a:=λ{j a} h=>by
  have hl:=(yc.mp h).1;rw[xk] at hl;simp only[yx] at hl;rw[List.getElem?_reverse (by simp only[yx];lk)] at h;simp only[yx] at h;show⟨by lk,?_⟩;rw[o]
  conv=>lhs;rw[l]
  rw[yY (by lk),show d.length+(t.length+2)-1-j-d.length=t.length+1+1-1-j by lk];show h
 show⟨Yk.mpr ⟨hw.nd,?_,λx K y i e=>C x K (by rw[e];show kx.mp i)⟩,?_,λy i=>?_,⟨s++(c::t).reverse,by simp⟩,hw.st.app (λj a b h1 n=>?_) λa b h1 n _=>?_⟩
 .show(kZ _).nodup_iff.mpr ((Yk.mp (l ▸ hv.nd)).2.1)
 .rw [yu,xk];simp only[yx];have:=hw.odd;lk
 .rw [Yi p] at i;show hw.hd y i
 .obtain⟨l1,D⟩:=at_ h1;obtain⟨l2,g⟩:=at_ n;have:=hv.st (r.length-1-(j+1)) b a g (by rw[show r.length-1-(j+1)+1=r.length-1-j by lk];show D);show⟨G.as this.1,⟨λz=>?_,λz=>?_⟩⟩
  .have:=this.2.mp (G.fs z);have:=hw.odd;lk
  .show G.fs (this.2.mpr (by have:=hw.odd;lk))
 .have E:a=w:=by
   rw[B,yu,yY (by simp)] at h1;simpa using h1.symm
  have F:b=v:=by
   obtain⟨_,g⟩:=at_ n;rw[Kx,m,yu,yY (by simp)] at g;simpa using g.symm
  subst E;subst F;show⟨H,⟨λz=>absurd z I,λz=>by have:=hw.odd;lk⟩⟩
end
section
variable{A:Str->Str->Prop}{f:Str->Option Str}{S S':FS}
theorem Ch.nd(I:FI A f S){l:LS}(h:Ch f S b l):∀{v:Str} {r:LS},S.rows v=some r->S.bas v=b->l.Nodup:=by
 induction h with
 | root e=>intro _ _ _ _;simp
 | @step b q z l e p g ih =>
  intro v r hv hb;have a:S.bas b=b:=by rw[<- hb];show I.idm v r hv
  obtain⟨n,h1⟩:=I.evb hv;rw[hb] at h1;obtain⟨_,s,o,i,d,_⟩:=I.dwn b n q h1 a e;rw[p] at i;cases i;show yo.mpr ⟨λj=>?_,ih d rfl⟩;obtain⟨x,y,c⟩:=Yp j;obtain⟨_,_,_,_,m,_⟩:=g.up I d rfl c;have:=m.one (.step e p g);rw[c] at this;have:=congrArg List.length this;simp at this;lk
theorem Ch.suf(I:FI A f S){v:Str}{r l:LS}(hv:S.rows v=some r)(h:Ch f S (S.bas v) l){q:Str}(g:l=l1++c::l2)(e:f c=some q):∃ a t,r=a++q::c::t/\a.length % 2=1/\S.rows q=none/\∀ u∈q::c::t,Cov f S (l1++[c]) u:=by
 obtain⟨s,t,h1,b,_,i,j⟩:=h.up I hv rfl g;obtain⟨n,z,a,_,o,p⟩:=I.dwn c s q h1 b e;show⟨a,t,by rw[i,p];simp,(I.alt z a o).odd,n,λu hu=>?_⟩;rcases yv.mp hu with rfl | hu
 .show⟨c,by simp,.inr e⟩
 .rcases yv.mp hu with rfl | hu
  .show⟨u,by simp,.inl b⟩
  .rcases j u hu with z | z
   .show⟨c,by simp,.inl z⟩
   .show z.mono λd m=>Yd _ m
theorem Ch.meet(I:FI A f S){v w:Str}{r s l:LS}(hv:S.rows v=some r)(hw:S.rows w=some s)(h:Ch f S (S.bas v) l)(h':Ch f S (S.bas w) l'){n:LS}{m:Str}(o:l=l1++m::l2)(i:l'=m1++m::n)(K:∀ d∈l1,d∉l'):n=l2/\∀ d∈m1,d∉l:=by
 obtain⟨_,_,_,_,k,_⟩:=h.up I hv rfl o;obtain⟨_,_,_,_,k',_⟩:=h'.up I hw rfl i;have F:n=l2:=(xH (k.one k')).2;show⟨F,λd L hl=>?_⟩;obtain⟨a,b,D⟩:=Yp L;obtain⟨x,y,j⟩:=Yp hl;obtain⟨_,_,_,_,g,_⟩:=h.up I hv rfl j;obtain⟨_,_,_,_,g',_⟩:=h'.up I hw rfl (l1:=a) (c:=d) (l2:=b++m::n) (by rw[i,D];simp);have B:y=b++m::n:=(xH (g'.one g)).2;have e:=h.nd I hv rfl;have p:d∈l':=by rw[i,D];simp
 have t:d∉l1:=λz=>K d z p;have q:d∈m::l2:=by rw[o] at hl;show(yG.mp hl).resolve_left t
 rcases yv.mp q with z | z
 .rw [z] at j;rw[j,B] at e;have:=(Yk.mp e).2.1;show(yo.mp this).1 (by simp)
 .have u:m∈x:=by
   obtain⟨M,E,G⟩:=Yp z;have C:l=(l1++m::M)++d::E:=by rw[o,G];simp
   obtain⟨_,_,_,_,J,_⟩:=h.up I hv rfl C;have H:E=y:=(xH (g.one J)).2;rw[C,H] at j;rw[<- List.append_cancel_right j];simp
  rw[j,B] at e;show(Yk.mp e).2.2 m u m (by simp) rfl
def NewRow(S:FS)(v w u:Str)(r:LS):Prop:=∃ rv rw a t,S.rows v=some rv/\S.rows w=some rw/\rv=a++u::t/\r=rw++(u::t).reverse
def InR(f:Str->Option Str)(m:Str)(a:LS)(u:Str):Prop:=u=m\/∃ c∈a,u=c\/f c=some u
structure Mg(f:Str->Option Str)(S S':FS)(v w m:Str)(l1 m1:LS):Prop where
 par:S'.par=S.par
 old:∀ u r,S.rows u=some r->S'.rows u=some r
 new:∀ u r,S'.rows u=some r->S.rows u=some r\/(∃ c∈l1,f c=some u/\NewRow S v w u r)\/(∃ c∈m1,f c=some u/\NewRow S w v u r)
 all:∀ c∈l1++m1,∀ q,f c=some q->∃ r,S'.rows q=some r
 inn:∀ u,InR f m (l1++m1) (S.bas u)->S'.bas u=m
 out:∀ u,¬ InR f m (l1++m1) (S.bas u)->S'.bas u=S.bas u
theorem cut_one{a b c d:LS}{x:Str}(h:(a++x::b).Nodup)(e:a++x::b=c++x::d):a=c/\b=d:=by
 induction a generalizing c with
 | nil =>
  cases c with
  | nil=>show⟨rfl,(xH e).2⟩
  | cons y c =>
   obtain⟨f,g⟩:=xH e;show absurd (show x∈b by rw[g];simp) (yo.mp h).1
 | cons y a ih =>
  cases c with
  | nil =>
   obtain⟨f,g⟩:=xH e;show absurd (show y∈a++x::b by rw[f];simp) (yo.mp h).1
  | cons z c =>
   obtain⟨f,g⟩:=xH e;obtain⟨h1,i⟩:=ih (yo.mp h).2 g;show⟨by rw[f,h1],i⟩
theorem NewRow.ok(G:Gr A f)(I:FI A f S){v w:Str}{r l:LS}(hv:S.rows v=some rv)(hw:S.rows w=some rw)(h:Ch f S (S.bas v) l)(h':Ch f S (S.bas w) l')(p:l=l1++l2)(J:∀ d∈l1,d∉l')(H:A w v)(hb:S.bas w≠S.bas v)(hc:c∈l1)(L:f c=some u)(K:NewRow S v w u r) :
  Alt A f r u/\S.rows u=none/\∃ t,r=rw++t/\∀ x∈t,Cov f S l1 x:=by
 obtain⟨M,N,P,t,q,s,y,B⟩:=K;rw[hv] at q;cases q;rw[hw] at s;cases s;obtain⟨a,b,o⟩:=Yp hc;obtain⟨O,t',m,C,D,n⟩:=h.suf I hv (l1:=a) (c:=c) (l2:=b++l2) (by rw[p,o];simp) L;have g:=(I.alt v rv hv).nd;obtain⟨E,F⟩:=cut_one (by rw[<- y];show g) (y.symm.trans m);subst E;subst F;have e:∀ d∈a++[c],d∈l1:=λd z=>by rw[o];rcases yG.mp z with z | z;show Yd _ z;rw[yC.mp z];simp
 have inl:∀ d∈l1,d∈l:=λd z=>by rw[p];show Yd _ z
 show⟨?_,D,_,B,λx i=>(n x (kx.mp i)).mono e⟩;rw[B];show Alt.back G (I.alt w rw hw) (I.alt v rv hv) m C H (λz=>hb (I.pair hw hv z)) λx i j=>?_;show Cov.apart G I (λd z=>h.bs0 I hv (inl d (e d z))) (λd z=>h'.bs0 I hw z) (λd z=>J d (e d z)) (n x j) (h'.cov G I hw i)
theorem FI.merge(G:Gr A f)(I:FI A f S){v w m:Str}(hv:S.rows v=some rv)(hw:S.rows w=some rw)(h:Ch f S (S.bas v) (l1++m::l2))(h':Ch f S (S.bas w) (m1++m::l2))(hd:∀ d∈l1,d∉m1++m::l2)(T:∀ d∈m1,d∉l1++m::l2)(ha:A v w)(hb:S.bas v≠S.bas w)(M:Mg f S S' v w m l1 m1):FI A f S':=by
 have hm:∃ r,S.rows m=some r/\S.bas m=m:=h.bs0 I hv (by simp);obtain⟨O,H,U⟩:=hm
 have B:∀ c∈l1++m1,(∃ r,S.rows c=some r/\S.bas c=c)/\c≠m/\∃ q,f c=some q/\S.rows q=none:=λc hc=>by
  rcases yG.mp hc with z | z
  .show⟨h.bs0 I hv (Yd _ z),λe=>hd c z (by rw[e];simp),?_⟩;obtain⟨a,b,E⟩:=Yp z;obtain⟨rc,_,D,o,p,_⟩:=h.up I hv rfl (l1:=a) (c:=c) (l2:=b++m::l2) (by rw[E];simp);generalize l:b++m::l2=x at p
   cases p with
   | root _=>show absurd (congrArg List.length l) (by simp)
   | step e _ _=>show⟨_,e,(I.dwn _ _ _ D o e).1⟩
  .show⟨h'.bs0 I hw (Yd _ z),λe=>T c z (by rw[e];simp),?_⟩;obtain⟨a,b,E⟩:=Yp z;obtain⟨rc,_,D,o,p,_⟩:=h'.up I hw rfl (l1:=a) (c:=c) (l2:=b++m::l2) (by rw[E];simp);generalize l:b++m::l2=x at p
   cases p with
   | root _=>show absurd (congrArg List.length l) (by simp)
   | step e _ _=>show⟨_,e,(I.dwn _ _ _ D o e).1⟩
 have cov:∀ u,Cov f S (l1++m1) u->S'.bas u=m:=λu ⟨d,hd,z⟩=>by
  show M.inn u ?_;rcases z with z | z
  .show .inr ⟨d,hd,.inl z⟩
  .have hn:=(B d hd).2.2;obtain⟨q,e,F⟩:=hn;rw[z] at e;cases e;rw[I.own F];show .inr ⟨d,hd,.inr z⟩
 have J:∀ u,Cov f S l1 u->S'.bas u=m:=λu z=>cov u (z.mono λd y=>Yd _ y);have K:∀ u,Cov f S m1 u->S'.bas u=m:=λu z=>cov u (z.mono λd y=>yR _ y);have bm:∀ u,S.bas u=m->S'.bas u=m:=λu z=>M.inn u (.inl z);have m0:S'.bas m=m:=bm m U;have Y:=M.old m O H
 have pre:∀{x:Str} {rx a b:LS},S.rows x=some rx->Ch f S (S.bas x) (a++m::b)->(∀ d∈a,d∈l1++m1)->∃ t,rx=O++t/\∀ u∈t,S'.bas u=m:=λ{x rx a b} l hc hs=>by
  obtain⟨rc,t,D,_,_,P,g5⟩:=hc.up I l rfl rfl;rw[H] at D;cases D;show⟨t,P,λu j=>(g5 u j).elim (bm u) λz=>cov u (z.mono hs)⟩
 have nw:∀ u r,(∃ c∈l1,f c=some u/\NewRow S v w u r)\/(∃ c∈m1,f c=some u/\NewRow S w v u r)->Alt A f r u/\S.rows u=none/\S'.bas u=m/\∃ t,r=O++t/\∀ x∈t,S'.bas x=m:=λu r z=>by
  rcases z with⟨c,hc,j,C⟩ | ⟨c,hc,j,C⟩
  .obtain⟨D,o,t,p,P⟩:=NewRow.ok G I hv hw h h' rfl hd (G.as ha) (YI hb) hc j C;obtain⟨t0,p1,p2⟩:=pre hw h' λd y=>yR _ y;show⟨D,o,J u ⟨c,hc,.inr j⟩,t0++t,by rw[p,p1];simp,λx l=>(yG.mp l).elim (p2 x) λy=>J x (P x y)⟩
  .obtain⟨D,o,t,p,P⟩:=NewRow.ok G I hw hv h' h rfl T ha hb hc j C;obtain⟨t0,p1,p2⟩:=pre hv h λd y=>Yd _ y;show⟨D,o,K u ⟨c,hc,.inr j⟩,t0++t,by rw[p,p1];simp,λx l=>(yG.mp l).elim (p2 x) λy=>K x (P x y)⟩
 have af:∀ u r,S.rows u=some r->InR f m (l1++m1) (S.bas u)->S.bas u=m\/S.bas u∈l1++m1:=λu r j z=>by
  rcases z with z | ⟨c,hc,z | z⟩
  .show .inl z
  .show .inr (by rw[z];show hc)
  .obtain⟨q,e,F⟩:=(B c hc).2.2;rw[z] at e;cases e;obtain⟨rb,n⟩:=I.evb j;rw[F] at n;cases n
 show⟨λu r j=>?_,λu r j=>?_,λu r j=>?_,λb r q aa N F=>?_,λu j=>?_,λx z l=>?_⟩
 .rcases M.new u r j with z | z
  .show I.alt u r z
  .show(nw u r z).1
 .rcases M.new u r j with z | z
  .by_cases i:InR f m (l1++m1) (S.bas u)
   .rw [M.inn u i];show⟨O,?_⟩
    have:∃ t,r=O++t/\∀ x∈t,S'.bas x=m:=by
     rcases af u r z i with y | y
     .obtain⟨rb,t,L,n,Z⟩:=I.bse u r z;rw[y,H] at L;cases L;show⟨t,n,λx l=>bm x ((Z x l).trans y)⟩
     .rcases yG.mp y with y | y
      .obtain⟨a,b,E⟩:=Yp y;obtain⟨_,_,_,_,g,_⟩:=h.up I hv rfl (l1:=a) (c:=S.bas u) (l2:=b++m::l2) (by rw[E];simp);show pre z (a:=S.bas u::b) (by simpa using g) λd hd=>by rw[E];rcases yv.mp hd with rfl | hd<;>simp[*]
      .obtain⟨a,b,E⟩:=Yp y;obtain⟨_,_,_,_,g,_⟩:=h'.up I hw rfl (l1:=a) (c:=S.bas u) (l2:=b++m::l2) (by rw[E];simp);show pre z (a:=S.bas u::b) (by simpa using g) λd hd=>by rw[E];rcases yv.mp hd with rfl | hd<;>simp[*]
    obtain⟨t,L,n⟩:=this;show⟨t,Y,L,n⟩
   .rw [M.out u i];obtain⟨rb,t,L,n,Z⟩:=I.bse u r z;show⟨rb,t,M.old _ _ L,n,λx l=>by rw[M.out x (by rw[Z x l];show i)];show Z x l⟩
  .obtain⟨_,_,e,t,L,n⟩:=nw u r z;rw[e];show⟨O,t,Y,L,n⟩
 .by_cases i:InR f m (l1++m1) (S.bas u)
  .rw [M.inn u i];show m0
  .rw [M.out u i];rcases M.new u r j with z | z
   .have e:=I.idm u r z;rw[M.out _ (by rw[e];show i)];show e
   .obtain⟨_,o,_⟩:=nw u r z;have e:=I.own o;rw[e,M.out u (by rw[e] at i ⊢;show i)];show e
 .have ac:S.bas b=b/\(b=m\/¬ InR f m (l1++m1) (S.bas b)):=by
   by_cases i:InR f m (l1++m1) (S.bas b)
   .have:=M.inn b i;rw[N] at this;rw[this];show⟨U,.inl rfl⟩
   .have:=M.out b i;rw[N] at this;show⟨this.symm,.inr i⟩
  obtain⟨R,ad⟩:=ac
  have C:S.rows b=some r:=by
   rcases M.new b r aa with z | z
   .show z
   .exfalso;obtain⟨_,o,p,_⟩:=nw b r z;rw[N] at p;rw[p,H] at o;cases o
  obtain⟨k1,z,rz,k2,k3,k4⟩:=I.dwn b r q C R F;show⟨?_,z,rz,by rw[M.par];show k2,M.old _ _ k3,k4⟩
  cases e:S'.rows q with
  | none=>rfl
  | some s =>
   exfalso
   have X:∀ c∈l1++m1,f c=some q->False:=λc hc ae=>by
    have:=G.fs ae;rw[G.fs F] at this;have n:=ym this;subst n;rcases ad with y | y
    .show(B b hc).2.1 y
    .show y (.inr ⟨b,hc,.inl R⟩)
   rcases M.new q s e with y | ⟨c,hc,y,_⟩ | ⟨c,hc,y,_⟩
   .rw [k1] at y;cases y
   .show X c (Yd _ hc) y
   .show X c (yR _ hc) y
 .by_cases i:InR f m (l1++m1) (S.bas u)
  .rw [M.inn u i] at j ⊢;by_cases W:S.bas u=u
   .rw [W] at i;rcases i with z | ⟨c,hc,z | z⟩
    .show absurd z.symm j
    .subst z;obtain⟨⟨r,C,_⟩,_,q,F,_⟩:=B u hc;show⟨⟨r,M.old _ _ C⟩,q,F,cov q ⟨u,hc,.inr F⟩⟩
    .show⟨M.all c hc u z,c,G.fs z,cov c ⟨c,hc,.inl (B c hc).1.choose_spec.2⟩⟩
   .obtain⟨⟨r,C⟩,y,hy,e⟩:=I.mat u W;show⟨⟨r,M.old _ _ C⟩,y,hy,M.inn y (by rw[e];show i)⟩
  .rw [M.out u i] at j ⊢;obtain⟨⟨r,C⟩,y,hy,e⟩:=I.mat u j;show⟨⟨r,M.old _ _ C⟩,y,hy,by rw[M.out y (by rw[e];show i)];show e⟩
 .rw [M.par] at l;obtain⟨k1,⟨r,k2⟩,y,s,k3,k4⟩:=I.odd x z l;show⟨k1,⟨r,M.old _ _ k2⟩,y,s,k3,M.old _ _ k4⟩
end
structure Aug(A:Str->Str->Prop)(f:Str->Option Str)(r:LS):Prop where
 nd:r.Nodup
 two:2<=r.length
 ev:r.length % 2=0
 st:Turns A f r
 hd:∀ s,r[0]?=some s->f s=none
 tl:∀ s,r[r.length-1]?=some s->f s=none
section
variable{A:Str->Str->Prop}{f:Str->Option Str}{S S':FS}
theorem FI.aug(G:Gr A f)(I:FI A f S){v w:Str}{l:LS}(hv:S.rows v=some rv)(hw:S.rows w=some rw)(h:Ch f S (S.bas v) l)(h':Ch f S (S.bas w) l')(hl:l.getLast?≠l'.getLast?)(E:A v w):Aug A f (rv++rw.reverse):=by
 have n:∀ d∈l,d∉l':=λd F p=>by
  obtain⟨a,b,e⟩:=Yp F;obtain⟨x,y,q⟩:=Yp p;obtain⟨_,_,_,_,k,_⟩:=h.up I hv rfl e;obtain⟨_,_,_,_,k',_⟩:=h'.up I hw rfl q;have:=k.one k';show hl (by rw[e,q,this,Xz,Xz];rfl)
 have c:=I.alt v rv hv;have g:=I.alt w rw hw;obtain⟨O,r⟩:=c.tl;obtain⟨P,t⟩:=g.tl;have K:0<rv.length:=by rw[r];simp
 have L:0<rw.length:=by rw[t];simp
 have M:=c.odd;have N:=g.odd
 have H:f v≠some w:=λz=>by
  have e:=I.pair hv hw z;have:=h.one (e ▸ h');rw[this] at hl;show hl rfl
 have at_:∀{j:Nat} {a:Str},rw.reverse[j]?=some a->j<rw.length/\rw[rw.length-1-j]?=some a:=λ{j a} e=>by
  have hl:=(yc.mp e).1;rw[xk] at hl;rw[List.getElem?_reverse hl] at e;show⟨hl,e⟩
 show⟨Yk.mpr ⟨c.nd,(kZ _).nodup_iff.mpr g.nd,λx J y u e=>?_⟩,by rw[yu,xk];lk,by rw[yu,xk];lk,c.st.app (λj a b h1 o=>?_) λa b h1 o _=>?_,λs i=>?_,λs i=>?_⟩
 .rw [<- e] at u;show Cov.apart G I (λd z=>h.bs0 I hv z) (λd z=>h'.bs0 I hw z) n (h.cov G I hv J) (h'.cov G I hw (kx.mp u))
 .obtain⟨l1,B⟩:=at_ h1;obtain⟨l2,m⟩:=at_ o;have:=g.st (rw.length-1-(j+1)) b a m (by rw[show rw.length-1-(j+1)+1=rw.length-1-j by lk];show B);show⟨G.as this.1,⟨λz=>?_,λz=>?_⟩⟩
  .have:=this.2.mp (G.fs z);lk
  .show G.fs (this.2.mpr (by lk))
 .have C:a=v:=by
   rw[r,yu,yY (by simp)] at h1;simpa using h1.symm
  have D:b=w:=by
   obtain⟨_,m⟩:=at_ o;rw[Kx,t,yu,yY (by simp)] at m;simpa using m.symm
  subst C;subst D;show⟨E,⟨λz=>absurd z H,λz=>by lk⟩⟩
 .rw [Yi K] at i;show c.hd s i
 .rw [yu,xk,yY (by lk),show rv.length+rw.length-1-rv.length=rw.length-1 by lk] at i;obtain⟨_,e⟩:=at_ i;rw[Nat.sub_self] at e;show g.hd s e
structure Gw(S S':FS)(p u y:Str)(r:LS):Prop where
 ry:S'.rows y=some (r++[u,y])
 ro:∀ s,s≠y->S'.rows s=S.rows s
 pu:S'.par u=some p
 po:∀ s,s≠u->S'.par s=S.par s
 ba:S'.bas=S.bas
theorem FI.fresh(G:Gr A f)(I:FI A f S)(a:S.rows u=none)(g:S.par u=none)(c:f u=some y):S.rows y=none:=by
 cases e:S.rows y with
 | none=>rfl
 | some s =>
  exfalso;by_cases z:S.bas y=y
  .obtain⟨_,_,_,k,_⟩:=I.dwn y s u e z (G.fs c);rw[g] at k;cases k
  .obtain⟨_,x,b,k⟩:=I.mat y z;rw[G.fs c] at b;cases b;rw[I.own a] at k;obtain⟨h,d⟩:=I.evb e;rw[<- k,a] at d;cases d
theorem FI.grow(G:Gr A f)(I:FI A f S){p:Str}{r:LS}(o:S.rows p=some r)(O:A p u)(w:S.rows u=none)(K:S.par u=none)(n:f u=some y)(W:Gw S S' p u y r):FI A f S':=by
 have c:=I.fresh G w K n;have T:u≠y:=G.ir (G.fa n);have py:p≠y:=λz=>by rw[z,c] at o;cases o
 have g:∀ s t,S.rows s=some t->S'.rows s=some t:=λs t e=>by rw[W.ro s (λz=>by rw[z,c] at e;cases e)];show e
 have new:∀ s t,S'.rows s=some t->(s=y/\t=r++[u,y])\/(s≠y/\S.rows s=some t):=λs t e=>by
  by_cases z:s=y
  .subst z;rw[W.ry] at e;show .inl ⟨rfl,(ym e).symm⟩
  .rw [W.ro s z] at e;show .inr ⟨z,e⟩
 obtain⟨l,hl⟩:=I.chainOf o
 have C:∀ x∈r,x≠u/\x≠y:=λx D=>by
  obtain⟨d,X,z⟩:=hl.cov G I o D;obtain⟨rd,i,m⟩:=hl.bs0 I o X;show⟨λe=>?_,λe=>?_⟩
  .rw [e] at z;rcases z with z | z
   .rw [I.own w] at z;rw[z,i] at w;cases w
   .obtain⟨_,_,_,k,_⟩:=I.dwn d rd u i m z;rw[K] at k;cases k
  .rw [e] at z;rcases z with z | z
   .rw [I.own c] at z;rw[z,i] at c;cases c
   .have:=G.fs z;rw[G.fs n] at this;rw[ym this,i] at w;cases w
 have B:=I.alt p r o;obtain⟨r0,N⟩:=B.tl;have L:0<r.length:=by rw[N];simp
 show⟨λv t e=>?_,λv t e=>?_,λv t e=>?_,λb t q e hb F=>?_,λv e=>?_,λx z e=>?_⟩
 .rcases new v t e with⟨rfl,rfl⟩ | ⟨_,e⟩
  .show⟨Yk.mpr ⟨B.nd,by simp[T],λx D z R E=>?_⟩,by rw[yu];have:=B.odd;simp only[yx,Yv];lk,λs P=>?_,⟨r++[u],by simp⟩,B.st.app (λj a b h1 J=>?_) λa b h1 J _=>?_⟩
   .obtain⟨Z,n2⟩:=C x D;simp only[yv,yQ,Yw] at R;rcases R with rfl | rfl
    .show Z E
    .show n2 E
   .rw [Yi L] at P;show B.hd s P
   .have Y:j=0:=by have:=(yc.mp J).1;simp at this;lk
    subst Y;cases h1;cases J;show⟨G.fa n,⟨λ_=>by have:=B.odd;lk,λ_=>n⟩⟩
   .cases J
    have U:a=p:=by
     rw[N,yu,yY (by simp)] at h1;simpa using h1.symm
    subst U;show⟨O,⟨λz=>?_,λz=>by have:=B.odd;lk⟩⟩;have:=G.fs z;rw[n] at this;show absurd (ym this).symm py
  .show I.alt v t e
 .rw [W.ba];rcases new v t e with⟨rfl,rfl⟩ | ⟨_,e⟩
  .rw [I.own c];show⟨_,[],W.ry,by simp,(λx h=>by cases h)⟩
  .obtain⟨rb,s,i,m,H⟩:=I.bse v t e;show⟨rb,s,g _ _ i,m,H⟩
 .rw [W.ba];rcases new v t e with⟨rfl,rfl⟩ | ⟨_,e⟩
  .rw [I.own c,I.own c]
  .show I.idm v t e
 .rw [W.ba] at hb;rcases new b t e with⟨rfl,rfl⟩ | ⟨_,e⟩
  .rw [G.fs n] at F;cases F;show⟨by rw[W.ro u T];show w,p,r,W.pu,g _ _ o,rfl⟩
  .obtain⟨i,z,rz,m,H,M⟩:=I.dwn b t q e hb F;show⟨?_,z,rz,?_,g _ _ H,M⟩
   .rw [W.ro q λz=>?_]
    .show i
    .rw [z] at F;have:=G.fs F;rw[G.fs n] at this;rw[<- ym this,w] at e;cases e
   .rw [W.po q λz=>?_]
    .show m
    .rw [z,K] at m;cases m
 .rw [W.ba] at e ⊢;obtain⟨⟨t,i⟩,m⟩:=I.mat v e;show⟨⟨t,g _ _ i⟩,m⟩
 .by_cases D:x=u
  .subst D;rw[W.pu] at e;cases e;show⟨O,⟨r,g _ _ o⟩,y,_,n,W.ry⟩
  .rw [W.po x D] at e;obtain⟨i,⟨t,m⟩,y',s,H,M⟩:=I.odd x z e;show⟨i,⟨t,g _ _ m⟩,y',s,H,g _ _ M⟩
theorem FI.start(h1:∀ v r,S.rows v=some r->f v=none/\r=[v])(d:∀ x,S.par x=none)(c:∀ v,S.bas v=v):FI A f S:=by
 show⟨λv r e=>?_,λv r e=>?_,λv r e=>by rw[c,c],λb r q e _ g=>?_,λv e=>absurd (c v) e,λx z e=>by rw[d] at e;cases e⟩
 .obtain⟨k,rfl⟩:=h1 v r e;show⟨by simp,rfl,λs i=>by cases i;show k,⟨[],rfl⟩,λj a b h1 d=>?_⟩;simp at d
 .show⟨r,[],by rw[c];show e,by simp,(λx h=>by cases h)⟩
 .rw [(h1 b r e).1] at g;cases g
end
structure CI(A:Str->Str->Prop)(S:FS)(Pd:Str->Prop):Prop where
 cl:∀ v u,Pd v->A v u->S.bas u=S.bas v\/(S.par u≠none/\¬ Pd u)
 pe:∀ v,Pd v->S.rows v≠none
theorem qb7:∀{l m:LS},l.Nodup->(∀ x∈l,x∈m)->l.length<=m.length
 | [],_,_,_=>Yx _
 | x::r,m,hn,hs=>by
  obtain⟨h1,c⟩:=yo.mp hn;have a:=hs x yM;have:=qb7 (l:=r) (m:=m.erase x) c λy b=>(XA (λe=>h1 (by rw[<- e];show b))).mpr (hs y (yy _ b));rw[Y4 a] at this;have:0<m.length:=xj a;simp only[yx];lk
theorem qfJ:∀(n:Nat) {X:LS},X.length<=n->X.Nodup->(∀ x∈X,∃ y∈X,g x=some y/\y≠x/\g y=some x)->X.length % 2=0
 | _,[],_,_,_=>rfl
 | 0,x::r,h,_,_=>by simp at h
 | n+1,x::r,h,hn,hp=>by
  obtain⟨h1,d⟩:=yo.mp hn;obtain⟨y,p,j,i,l⟩:=hp x yM;have c:y∈r:=(yv.mp p).resolve_left i;have hl:=Y4 c;have v:0<r.length:=xj c
  have:=qfJ n (X:=r.erase y) (by simp at h;lk) (d.erase y) λz q=>by
   have a:=(d.mem_erase_iff.mp q);obtain⟨u,o,m,f,b⟩:=hp z (yy _ a.2);have s:u≠x:=λe=>by rw[e,j] at b;show a.1 (ym b).symm
   have t:u≠y:=λe=>by rw[e,l] at b;show h1 (by rw[ym b];show a.2)
   show⟨u,d.mem_erase_iff.mpr ⟨t,(yv.mp o).resolve_left s⟩,m,f,b⟩
  simp only[yx];lk
structure Fn(A:Str->Str->Prop)(f:Str->Option Str)(S:FS)(ss:LS):Prop where
 fi:FI A f S
 gr:Gr A f
 inn:∀ a b,A a b->a∈ss
 nd:ss.Nodup
 cl:∀ v u,S.rows v≠none->A v u->S.bas u=S.bas v\/(S.par u≠none/\S.rows u=none)
 sng:∀ z∈ss,f z=none->S.rows z≠none
 es:∀ v,S.rows v≠none->v∈ss
def qdE(S:FS)(ss:LS)(b:Str):LS:=ss.filter λu=>(S.rows u).isSome&&decide (S.bas u=b)
def qaD(S:FS)(ss:LS):LS:=ss.filter λu=>(S.rows u).isSome&&decide (S.bas u=u)
def qdF(S:FS)(ss:LS):LS:=ss.filter λu=>(S.par u).isSome&&!(S.rows u).isSome
def snL(g:Str->Option Str)(ss:LS):LS:=ss.filter λu=>!(g u).isSome
section
variable{A:Str->Str->Prop}{f g:Str->Option Str}{S:FS}{ss:LS}
theorem isS{o:Option α}:o.isSome=true↔o≠none:=by cases o<;>simp
theorem mem_cls:u∈qdE S ss b↔u∈ss/\S.rows u≠none/\S.bas u=b:=by
 unfold qdE;rw[yp,yL,isS,yJ]
theorem mem_bas:u∈qaD S ss↔u∈ss/\S.rows u≠none/\S.bas u=u:=by
 unfold qaD;rw[yp,yL,isS,yJ]
theorem mem_bar:u∈qdF S ss↔u∈ss/\S.par u≠none/\S.rows u=none:=by
 unfold qdF;rw[yp,yL,isS];cases S.rows u<;>simp
theorem mem_sn:u∈snL g ss↔u∈ss/\g u=none:=by
 unfold snL;rw[yp];cases g u<;>simp
theorem some_of{o:Option α}(h:o≠none):∃ r,o=some r:=by cases o with | none=>show absurd rfl h | some r=>show⟨r,rfl⟩
theorem FI.evE(I:FI A f S){v:Str}(hv:S.rows v≠none)(e:S.bas u=S.bas v):S.rows u≠none:=λa=>by
 obtain⟨r,b⟩:=some_of hv;obtain⟨c,hb⟩:=I.evb b;rw[I.own a] at e;rw[<- e,a] at hb;cases hb
theorem Fn.cls_odd(F:Fn A f S ss)(hb:b∈qaD S ss):(qdE S ss b).length % 2=1:=by
 obtain⟨p,l,m⟩:=mem_bas.mp hb;have c:b∈qdE S ss b:=mem_cls.mpr ⟨p,l,m⟩;have a:(qdE S ss b).Nodup:=F.nd.filter _
 have:=qfJ (g:=f) _ (X:=(qdE S ss b).erase b) (yh _) (a.erase b) λz j=>by
  obtain⟨s,j⟩:=a.mem_erase_iff.mp j;obtain⟨t,n,o⟩:=mem_cls.mp j;obtain⟨_,u,d,h⟩:=F.fi.mat z (λe=>s (e.symm.trans o));have i:=F.fi.evE n h;show⟨u,a.mem_erase_iff.mpr ⟨λe=>?_,mem_cls.mpr ⟨F.es u i,i,h.trans o⟩⟩,d,YI (F.gr.ir (F.gr.fa d)),F.gr.fs d⟩;obtain⟨r,q⟩:=some_of l;rw[e] at d;show n (F.fi.dwn b r z q m (F.gr.fs d)).1
 rw[Y4 c] at this;have:=xj c;lk
theorem Fn.count(F:Fn A f S ss):(qaD S ss).length=(snL f ss).length+(qdF S ss).length:=by
 have hb:(qaD S ss).Nodup:=F.nd.filter _
 have e:(qaD S ss).length=((qaD S ss).filter λb=>!(f b).isSome).length+((qaD S ss).filter λb=>(f b).isSome).length:=by
  generalize qaD S ss=l
  induction l with
  | nil=>rfl
  | cons x r ih =>
   rw[yP,yP,yx,ih];cases (f x).isSome
   .rw [yH (show(!false)=true from rfl),yD Yn,yx];lk
   .rw [yD (show ¬ (!true)=true by decide),yH (show true=true from rfl),yx];lk
 rw[e];have C:((qaD S ss).filter λb=>!(f b).isSome).length=(snL f ss).length:=xV
  (qb7 (hb.filter _) λx c=>by
   obtain⟨h1,d⟩:=yp.mp c;show mem_sn.mpr ⟨(mem_bas.mp h1).1,?_⟩
   cases e:f x with
   | none=>rfl
   | some y=>rw[e] at d;cases d)
  (qb7 (F.nd.filter _) λx c=>by
   obtain⟨h1,d⟩:=mem_sn.mp c;show yp.mpr ⟨mem_bas.mpr ⟨h1,F.sng x h1 d,yX λz=>?_⟩,by rw[d];rfl⟩;obtain⟨_,u,i,_⟩:=F.fi.mat x z;rw[d] at i;cases i)
 have D:((qaD S ss).filter λb=>(f b).isSome).length=(qdF S ss).length:=by
  have inj:(((qaD S ss).filter λb=>(f b).isSome).map λb=>(f b).getD "").Nodup:=by
   show YM.mpr (xr (λ{a b} E g o e=>?_) (hb.filter _));obtain⟨x,c⟩:=YX.mp (yp.mp E).2;obtain⟨y,v⟩:=YX.mp (yp.mp g).2;rw[c,v] at e;have n:x=y:=e;have k:=F.gr.fs c;rw[n,F.gr.fs v] at k;show o (ym k).symm
  show xV ?_ ?_
  .have:=qb7 inj (m:=qdF S ss) λq p=>?_
   rwa[ya] at this
   obtain⟨b,g,rfl⟩:=yB.mp p;obtain⟨h1,d⟩:=yp.mp g;obtain⟨x,c⟩:=YX.mp d;obtain⟨L,w,B⟩:=mem_bas.mp h1;obtain⟨r,G⟩:=some_of w;obtain⟨j,z,N,t,_⟩:=F.fi.dwn b r x G B c;rw[c];have I:S.par x≠none:=by rw[t];show λe=>by cases e
   show x∈qdF S ss;show mem_bar.mpr ⟨F.inn _ _ (F.gr.as (F.gr.fa c)),I,j⟩
  .have:(qdF S ss).length<=(((qaD S ss).filter λb=>(f b).isSome).map λb=>(f b).getD "").length:=qb7 (F.nd.filter _) λq p=>?_
   rwa[ya] at this
   obtain⟨M,J,K⟩:=mem_bar.mp p;obtain⟨z,H⟩:=some_of J;obtain⟨_,_,y,r,j,t⟩:=F.fi.odd q z H;have h:S.rows y≠none:=by rw[t];show λe=>by cases e
   show yB.mpr ⟨y,yp.mpr ⟨mem_bas.mpr ⟨F.es y h,h,yX λe=>?_⟩,by rw[F.gr.fs j];rfl⟩,by rw[F.gr.fs j];rfl⟩;obtain⟨_,u,i,s⟩:=F.fi.mat y e;rw[F.gr.fs j] at i;cases i;show F.fi.evE h s K
 rw[C,D]
theorem Fn.most(F:Fn A f S ss)(l:Gr A g):(snL f ss).length<=(ss.filter λu=>!(g u).isSome&&(S.rows u).isSome).length:=by
 have m:∀ b∈qaD S ss,∃ v∈qdE S ss b,g v=none\/∃ w,g v=some w/\w∈qdF S ss:=λb hb=>yX λq=>by
  have C:=F.cls_odd hb
  have:=qfJ (g:=g) _ (X:=qdE S ss b) (yh _) (F.nd.filter _) λv hv=>by
   obtain⟨D,s,E⟩:=mem_cls.mp hv
   cases e:g v with
   | none=>show absurd ⟨v,hv,.inl e⟩ q
   | some w =>
    have hw:=l.as (l.fa e);rcases F.cl v w s (l.fa e) with z | ⟨z1,z2⟩
    .have r:=F.fi.evE s z;show⟨w,mem_cls.mpr ⟨F.es w r,r,z.trans E⟩,rfl,YI (l.ir (l.fa e)),l.fs e⟩
    .show absurd ⟨v,hv,.inr ⟨w,e,mem_bar.mpr ⟨F.inn _ _ hw,z1,z2⟩⟩⟩ q
  lk
 obtain⟨j,i⟩:∃ j:Str->Str,∀ b∈qaD S ss,j b∈qdE S ss b/\(g (j b)=none\/∃ w,g (j b)=some w/\w∈qdF S ss):=
  ⟨λb=>@dite _ (b∈qaD S ss) (Classical.propDecidable _) (λh=>(m b h).choose) λ_=>b,λb hb=>by
   dsimp only;rw[dif_pos hb];show⟨(m b hb).choose_spec.1,(m b hb).choose_spec.2⟩⟩
 have inj:∀ a∈qaD S ss,∀ b∈qaD S ss,j a=j b->a=b:=λa n b hb e=>by
  have h1:=(mem_cls.mp (i a n).1).2.2;have G:=(mem_cls.mp (i b hb).1).2.2;rw[<- h1,<- G,e]
 have hb:(qaD S ss).Nodup:=F.nd.filter _
 have t:(qaD S ss).length<=((ss.filter λu=>!(g u).isSome&&(S.rows u).isSome)++qdF S ss).length:=by
  rw[<- ya (f:=λb=>(g (j b)).getD (j b))];show qb7 (YM.mpr (xr (λ{a b} n d p e=>?_) hb)) λx H=>?_
  .have B:∀ c∈qaD S ss,S.rows (j c)≠none:=λc hc=>(mem_cls.mp (i c hc).1).2.1;rcases(i a n).2 with z | ⟨w,z,hw⟩<;>rcases(i b d).2 with y | ⟨u,y,hu⟩
   .rw [z,y] at e;show p (inj a n b d e)
   .rw [z,y] at e;have o:j a=u:=e;show B a n (by rw[o];show(mem_bar.mp hu).2.2)
   .rw [z,y] at e;have o:w=j b:=e;show B b d (by rw[<- o];show(mem_bar.mp hw).2.2)
   .rw [z,y] at e;have o:w=u:=e;have k:=l.fs z;rw[o,l.fs y] at k;show p (inj a n b d (ym k).symm)
  .obtain⟨b,d,rfl⟩:=yB.mp H;obtain⟨D,s,E⟩:=mem_cls.mp (i b d).1;rcases(i b d).2 with z | ⟨w,z,hw⟩
   .rw [z];show Yd _ (yp.mpr ⟨D,by show(!(g (j b)).isSome&&(S.rows (j b)).isSome)=true;rw[z,isS.mpr s];rfl⟩)
   .rw [z];show yR _ hw
 rw[F.count,yu] at t;lk
end
section
variable{A:Str->Str->Prop}{f:Str->Option Str}{S S':FS}{ss:LS}
def msF(S:FS)(ss:LS):Nat:=2*(ss.filter λu=>!(S.rows u).isSome).length+(qaD S ss).length
theorem qf5{p q:Str->Bool}{l:LS}(h:∀ u∈l,p u=true->q u=true)(hc:c∈l)(h1:p c=false)(d:q c=true):(l.filter p).length<(l.filter q).length:=by
 induction l with
 | nil=>cases hc
 | cons x r ih =>
  have f:(r.filter p).length<=(r.filter q).length:=by
   rw[<- xy,<- xy];show List.countP_mono_left λu a=>h u (yy _ a)
  rcases yv.mp hc with rfl | hc
  .rw [ke (by rw[h1];decide),Xk d,yx];lk
  .have:=ih (λu a=>h u (yy _ a)) hc;by_cases e:p x=true
   .rw [Xk e,Xk (h x yM e),yx,yx];lk
   .rw [ke e];by_cases b:q x=true
    .rw [Xk b,yx];lk
    .rw [ke b];show this
theorem len_le{p q:Str->Bool}{l:LS}(h:∀ u∈l,p u=true->q u=true):(l.filter p).length<=(l.filter q).length:=by
 rw[<- xy,<- xy];show List.countP_mono_left h
theorem qeg:∀{l:LS},(∃ d∈l,d∈l')->∃ l1 m l2,l=l1++m::l2/\m∈l'/\∀ d∈l1,d∉l'
 | [],h=>by obtain⟨_,h,_⟩:=h;cases h
 | x::r,h=>by
  by_cases e:x∈l'
  .show⟨[],x,r,rfl,e,λd h=>by cases h⟩
  .obtain⟨d,hd,a⟩:=h;rcases yv.mp hd with rfl | hd
   .show absurd a e
   .obtain⟨l1,m,l2,b,c,f⟩:=qeg ⟨d,hd,a⟩;show⟨x::l1,m,l2,by rw[b];rfl,c,λd hd=>?_⟩;rcases yv.mp hd with rfl | hd
    .show e
    .show f d hd
theorem Ch.pre(I:FI A f S){v:Str}{r:LS}{m:Str}(hv:S.rows v=some r)(h:Ch f S (S.bas v) (l1++m::l2))(hc:c∈l1):∃ q,f c=some q/\S.rows q=none/\∃ d t,r=d++q::t:=by
 obtain⟨a,b,g⟩:=Yp hc;obtain⟨s,_,o,p,i,_⟩:=h.up I hv rfl (l1:=a) (c:=c) (l2:=b++m::l2) (by rw[g];simp);generalize n:b++m::l2=x at i
 cases i with
 | root _=>show absurd (congrArg List.length n) (by simp)
 | step e _ _ =>
  obtain⟨d,t,j,_,l,_⟩:=h.suf I hv (l1:=a) (c:=c) (l2:=b++m::l2) (by rw[g];simp) e;show⟨_,e,l,d,c::t,j⟩
theorem mg_ex(I:FI A f S){v w m:Str}{a:LS}(hv:S.rows v=some rv)(hw:S.rows w=some a)(h:Ch f S (S.bas v) (l1++m::l2))(h':Ch f S (S.bas w) (m1++m::l2)):∃ S',Mg f S S' v w m l1 m1:=by
 classical
 have d:∀ u,(∃ c∈l1,f c=some u)->∃ r,NewRow S v w u r:=λu ⟨c,hc,e⟩=>by
  obtain⟨q,b,_,l,t,i⟩:=Ch.pre I hv h hc;rw[e] at b;cases b;show⟨_,rv,a,l,t,hv,hw,i,rfl⟩
 have g:∀ u,(∃ c∈m1,f c=some u)->∃ r,NewRow S w v u r:=λu ⟨c,hc,e⟩=>by
  obtain⟨q,b,_,l,t,i⟩:=Ch.pre I hw h' hc;rw[e] at b;cases b;show⟨_,a,rv,l,t,hw,hv,i,rfl⟩
 show⟨⟨λu=>if S.rows u≠none then S.rows u else if z:∃ c∈l1,f c=some u then some (d u z).choose else if z:∃ c∈m1,f c=some u then some (g u z).choose else none,S.par,λu=>if InR f m (l1++m1) (S.bas u) then m else S.bas u⟩,rfl,λu r e=>?_,λu r e=>?_,λc hc q e=>?_,λu z=>yH z,λu z=>yD z⟩
 .show(if S.rows u≠none then S.rows u else _)=_;rw[yH (by rw[e];show λz=>by cases z)];show e
 .replace e:(if S.rows u≠none then S.rows u else if z:∃ c∈l1,f c=some u then some (d u z).choose else if z:∃ c∈m1,f c=some u then some (g u z).choose else none)=some r:=e;split at e
  .show .inl e
  .split at e
   .rename_i _ z
    cases e;obtain⟨c,hc,j⟩:=id z;show .inr (.inl ⟨c,hc,j,(d u z).choose_spec⟩)
   .split at e
    .rename_i _ _ z
     cases e;obtain⟨c,hc,j⟩:=id z;show .inr (.inr ⟨c,hc,j,(g u z).choose_spec⟩)
    .cases e
 .show ∃ r,(if S.rows q≠none then S.rows q else if z:∃ c∈l1,f c=some q then some (d q z).choose else if z:∃ c∈m1,f c=some q then some (g q z).choose else none)=some r;split
  .show some_of (by assumption)
  .split
   .show⟨_,rfl⟩
   .rename_i _ z1
    rw[dif_pos ⟨c,(yG.mp hc).resolve_left λh=>z1 ⟨c,h,e⟩,e⟩];show⟨_,rfl⟩
theorem qgk(G:Gr A f)(inn:∀ a b,A a b->a∈ss)(nd:ss.Nodup)(no:∀ r,¬ Aug A f r):∀(n:Nat) (S:FS),msF S ss<=n->FI A f S->(∀ z∈ss,f z=none->S.rows z≠none)->(∀ v,S.rows v≠none->v∈ss)->∃ S,Fn A f S ss
 | n,S,hm,I,sg,ev=>by
  by_cases F:∀ v u,S.rows v≠none->A v u->S.bas u=S.bas v\/(S.par u≠none/\S.rows u=none)
  .show⟨S,I,G,inn,nd,F,sg,ev⟩
  .obtain⟨v,u,hv,O,hb,hp⟩:∃ v u,S.rows v≠none/\A v u/\S.bas u≠S.bas v/\¬ (S.par u≠none/\S.rows u=none):=yX λad=>F λv u h1 X=>yX λh3=>ad ⟨v,u,h1,X,λz=>h3 (.inl z),λz=>h3 (.inr z)⟩;obtain⟨rv,hv⟩:=some_of hv;have ag:u∈ss:=inn u v (G.as O)
   cases g:S.rows u with
   | none =>
    have R:S.par u=none:=yX λz=>hp ⟨z,g⟩
    cases T:f u with
    | none=>show absurd g (sg u ag T)
    | some y =>
     have ah:=I.fresh G g R T;have J:y∈ss:=inn y u (G.as (G.fa T));have W:Gw S ⟨λs=>if s=y then some (rv++[u,y]) else S.rows s,λs=>if s=u then some v else S.par s,S.bas⟩ v u y rv:=⟨yH rfl,λs h=>yD h,yH rfl,λs h=>yD h,rfl⟩;generalize (⟨λs=>if s=y then some (rv++[u,y]) else S.rows s,λs=>if s=u then some v else S.par s,S.bas⟩:FS)=S' at W
     have i:∀ s,S.rows s≠none->S'.rows s≠none:=λs h=>by
      by_cases e:s=y
      .rw [e,W.ry];show λz=>by cases z
      .rw [W.ro s e];show h
     have lt:msF S' ss<msF S ss:=by
      have h1:=qf5 (l:=ss) (p:=λu=>!(S'.rows u).isSome) (q:=λu=>!(S.rows u).isSome) (λs _ h=>by
       have h':S'.rows s=none:=by simpa using h
       have:S.rows s=none:=yX λz=>i s z h';rw[this];rfl) J (by rw[W.ry];rfl) (by rw[ah];rfl)
      have X:(qaD S' ss).length<=(qaD S ss).length+1:=by
       have:∀ x∈qaD S' ss,x∈y::qaD S ss:=λx H=>by
        obtain⟨a,b,c⟩:=mem_bas.mp H;by_cases e:x=y
        .rw [e];show yM
        .show yy _ (mem_bas.mpr ⟨a,by rw[<- W.ro x e];show b,by rw[<- W.ba];show c⟩)
       have:=qb7 (nd.filter _) this
       rwa[yx] at this
      unfold msF;lk
     have w:∀ z,S'.rows z≠none->z∈ss:=λz o=>by
      by_cases e:z=y
      .rw [e];show J
      .rw [W.ro z e] at o;show ev z o
     match n,hm with
     | 0,hm=>lk
     | n+1,hm=>show qgk G inn nd no n S' (by lk) (I.grow G hv O g R T W) (λz o e=>i z (sg z o e)) w
   | some ru =>
    obtain⟨l,h⟩:=I.chainOf hv;obtain⟨l',h'⟩:=I.chainOf g;by_cases hl:l.getLast?=l'.getLast?
    .obtain⟨x,H⟩:∃ x,l.getLast?=some x:=by
      obtain⟨t,e⟩:=h.ne
      cases hg:l.getLast? with
      | none=>rw[e] at hg;simp at hg
      | some x=>show⟨x,rfl⟩
     obtain⟨l1,m,l2,el,aa,P⟩:=qeg (l:=l) (l':=l') ⟨x,List.mem_of_getLast? H,List.mem_of_getLast? (hl ▸ H)⟩;obtain⟨m1,m2,C⟩:=Yp aa;obtain⟨U,B⟩:=Ch.meet I hv g h h' el C P;subst U;rw[el] at h B;rw[C] at h' P;obtain⟨S',M⟩:=mg_ex I hv g h h';have I':=FI.merge G I hv g h h' P B O (λe=>hb e.symm) M
     have Z:∀ c∈l1++m1,(∃ r,S.rows c=some r/\S.bas c=c)/\c≠m/\∃ q,f c=some q:=λc hc=>by
      rcases yG.mp hc with z | z
      .obtain⟨q,e,_⟩:=Ch.pre I hv h z;show⟨h.bs0 I hv (Yd _ z),λe=>P c z (by rw[e];simp),q,e⟩
      .obtain⟨q,e,_⟩:=Ch.pre I g h' z;show⟨h'.bs0 I g (Yd _ z),λe=>B c z (by rw[e];simp),q,e⟩
     obtain⟨c,hc⟩:∃ c,c∈l1++m1:=by
      cases e:l1++m1 with
      | nil =>
       obtain⟨e1,U⟩:=List.append_eq_nil_iff.mp e;rw[e1] at h;rw[U] at h';obtain⟨_,K⟩:=h.ne;obtain⟨_,L⟩:=h'.ne;show absurd ((xH L).1.symm.trans (xH K).1) hb
      | cons c r=>show⟨c,yM⟩
     obtain⟨rm,af,ac⟩:=h.bs0 I hv (c:=m) (by simp)
     have i:∀ s,S.rows s≠none->S'.rows s≠none:=λs h=>by
      obtain⟨r,e⟩:=some_of h;rw[M.old s r e];show λz=>by cases z
     have lt:msF S' ss<msF S ss:=by
      have h1:=len_le (l:=ss) (p:=λu=>!(S'.rows u).isSome) (q:=λu=>!(S.rows u).isSome) λs _ h=>by
       have h':S'.rows s=none:=by simpa using h
       have:S.rows s=none:=yX λz=>i s z h';rw[this];rfl
      obtain⟨⟨rc,ae,E⟩,Y,q,R⟩:=Z c hc
      have X:(qaD S' ss).length<(qaD S ss).length:=by
       unfold qaD;show qf5 (c:=c) (λx H D=>?_) (inn c q (G.fa R)) ?_ ?_
       .rw [yL,isS,yJ] at D ⊢;obtain⟨b1,N⟩:=D;by_cases j:InR f m (l1++m1) (S.bas x)
        .rw [M.inn x j] at N;rw[<- N];show⟨by rw[af];show λz=>(by cases z),ac⟩
        .rw [M.out x j] at N;show⟨λz=>?_,N⟩;obtain⟨r,e⟩:=some_of b1;rcases M.new x r e with k | ⟨d,K,L,_⟩ | ⟨d,K,L,_⟩
         .rw [z] at k;cases k
         .show j (by rw[I.own z];show .inr ⟨d,Yd _ K,.inr L⟩)
         .show j (by rw[I.own z];show .inr ⟨d,yR _ K,.inr L⟩)
       .rw [M.inn c (by rw[E];show .inr ⟨c,hc,.inl rfl⟩),yl Y.symm,Bool.and_false]
       .rw [ae,yz E];rfl
      unfold msF;lk
     have w:∀ z,S'.rows z≠none->z∈ss:=λz o=>by
      obtain⟨r,e⟩:=some_of o;rcases M.new z r e with k | ⟨d,_,k,_⟩ | ⟨d,_,k,_⟩
      .show ev z (by rw[k];show λz=>(by cases z))
      .show inn z d (G.as (G.fa k))
      .show inn z d (G.as (G.fa k))
     match n,hm with
     | 0,hm=>lk
     | n+1,hm=>show qgk G inn nd no n S' (by lk) I' (λz o e=>i z (sg z o e)) w
    .show absurd (I.aug G hv g h h' hl O) (no _)
theorem fn_ex(G:Gr A f)(inn:∀ a b,A a b->a∈ss)(nd:ss.Nodup)(d:∀ r,¬ Aug A f r):∃ S,Fn A f S ss:=by
 classical
 show qgk G inn nd d _ ⟨λu=>if u∈ss/\f u=none then some [u] else none,λ_=>none,λu=>u⟩ (yh _) (FI.start (λv r e=>?_) (λ_=>rfl) λ_=>rfl) (λz c e=>?_) λz c=>?_
 .replace e:(if v∈ss/\f v=none then some [v] else none)=some r:=e;split at e
  .rename_i z;cases e;show⟨z.2,rfl⟩
  .cases e
 .show(if z∈ss/\f z=none then some [z] else none)≠none;rw[yH ⟨c,e⟩];show λz=>(by cases z)
 .replace c:(if z∈ss/\f z=none then some [z] else none)≠none:=c;split at c
  .rename_i k;show k.1
  .show absurd rfl c
end
theorem qeh{t:Str}:∀{qs:LP},pt qs s=some t->(s,t)∈qs\/(t,s)∈qs
 | [],h=>by cases h
 | q::r,h=>by
  unfold pt at h;split at h
  .rename_i e;cases h;show .inl (by rw[<- e];simp)
  .split at h
   .rename_i e;cases h;show .inr (by rw[<- e];simp)
   .rcases qeh h with z | z
    .show .inl (yy _ z)
    .show .inr (yy _ z)
theorem qgP:∀{qs:LP},(qx qs).Nodup->∀{a b:Str},(a,b)∈qs\/(b,a)∈qs->pt qs a=some b
 | [],_,a,b,m=>by rcases m with z | z<;>cases z
 | q::r,h,a,b,m=>by
  have d:(q.1::q.2::qx r).Nodup:=h;obtain⟨g,l⟩:=yo.mp d;obtain⟨n,o⟩:=yo.mp l;have inr:∀{x y:Str},(x,y)∈r->x∈qx r/\y∈qx r:=λc=>⟨xI.mpr ⟨_,c,by simp⟩,xI.mpr ⟨_,c,by simp⟩⟩;unfold pt
  have later:(a,b)∈r\/(b,a)∈r->(if q.1=a then some q.2 else if q.2=a then some q.1 else pt r a)=some b:=λj=>by
   have i:a∈qx r:=j.elim (λz=>(inr z).1) λz=>(inr z).2;rw[yD (λz=>g (by rw[z];show yy _ i)),yD (λz=>n (by rw[z];show i))];show qgP o j
  rcases m with z | z
  .rcases yv.mp z with z | z
   .subst z;rw[yH rfl]
   .show later (.inl z)
  .rcases yv.mp z with z | z
   .subst z;have f:b≠a:=λe=>g (by show b∈a::_;rw[e];show yM);rw[yD f,yH rfl]
   .show later (.inr z)
theorem qe9(h:(qx qs).Nodup){a:Str}:pt qs a=some b↔(a,b)∈qs\/(b,a)∈qs:=⟨qeh,qgP h⟩
theorem pt_sym(h:(qx qs).Nodup){a:Str}:pt qs a=some b↔pt qs b=some a:=by
 rw[qe9 h,qe9 h,Or.comm]
theorem qfa{x y:Option Str}(h:∀ b,x=some b↔y=some b):x=y:=by
 cases x with
 | none=>cases y with
  | none=>rfl
  | some b=>show absurd ((h b).mpr rfl) (λz=>by cases z)
 | some a=>show((h a).mp rfl).symm
def tpsOf(a qs:LP):LP:=a.filter λq=>decide (pt qs q.1=some q.2)
inductive spTp(cw:Addr)(vs:List V)(H:Hp)(Q:VK)(E:XK):Prop|mk (x l:Addr) (ss:LS) (ns:LN) (us:LI) (tps qs:LP) (_:vs=[.ref x,.ref l]) (_:WebAt cw H x ss ns) (_:Adj ss ns tps) (_:PL H l us qs) (_:PGo ss tps qs) (_:∀(l:Addr) (ls:LI) (H':Hp),L2.Same H H'->H l=none->H' l=some (.lst (ls.map V.ref))->ls.length<=196->All2 (PrAt H H' l) ls (tpsOf (j0 ss ns ss.length) qs)->Q (.ref l) H')
def stp(rs:LS):LP:=rs.zip rs.tail
def prB(qs:LP)(ab:Str×Str):Bool:=decide (pt qs ab.1=some ab.2)
theorem stp_at:(stp rs)[j]?=some ab↔rs[j]?=some ab.1/\rs[j+1]?=some ab.2:=by
 unfold stp;rw[List.getElem?_zip_eq_some,List.getElem?_tail]
structure RowG(ss:LS)(tps qs:LP)(rs:LS):Prop where
 nd:rs.Nodup
 two:2<=rs.length
 few:rs.length<=1000
 inn:∀ r∈rs,r∈ss
 tie:∀(j:Nat) ab,(stp rs)[j]?=some ab->(ab∈tps\/(ab.2,ab.1)∈tps)/\prB qs ab=decide (j % 2=1)
 hd:∀ s,rs[0]?=some s->pt qs s=none
 tl:∀ s,rs[rs.length-1]?=some s->pt qs s=none
structure Rw(cw:Addr)(H:Hp)(x l a:Addr)(ss:LS)(ns:LN)(us:LI)(tps qs:LP)(rs:LS):Prop where
 web:WebAt cw H x ss ns
 adj:Adj ss ns tps
 prs:PL H l us qs
 pgo:PGo ss tps qs
 row:H a=some (.lst (rs.map V.str))
 rok:RowG ss tps qs rs
inductive spGt(cw:Addr)(vs:List V)(H:Hp)(Q:VK)(E:XK):Prop|mk (x l d a:Addr) (ss:LS) (ns:LN) (us:LI) (tps qs:LP) (rs:LS) (_:vs=[.ref x,.ref d,.ref a]) (_:Rw cw H x l a ss ns us tps qs rs) (_:H d=some (.dK (prK qs))) (_:∀ H',L2.Same H H'->Q (.bl true) H')
def qgQ(rs:LS):LP:=stp rs++(stp rs).map λq=>(q.2,q.1)
def flT(a qs:LP)(rs:LS):LP:=a.filter λq=>decide (pt qs q.1=some q.2) != decide (q∈qgQ rs)
inductive spTu(cw:Addr)(vs:List V)(H:Hp)(Q:VK)(E:XK):Prop|mk (x l a:Addr) (ss:LS) (ns:LN) (us:LI) (tps qs:LP) (rs:LS) (_:vs=[.ref x,.ref l,.ref a]) (_:Rw cw H x l a ss ns us tps qs rs) (_:∀(l:Addr) (ls:LI) (H':Hp),L2.Same H H'->H l=none->H' l=some (.lst (ls.map V.ref))->ls.length<=196->All2 (PrAt H H' l) ls (flT (j0 ss ns ss.length) qs rs)->Q (.ref l) H')
def adjR(rs:LS)(a b:Str):Prop:=∃ j:Nat,(rs[j]?=some a/\rs[j+1]?=some b)\/(rs[j]?=some b/\rs[j+1]?=some a)
theorem adjR.symm{a:Str}(h:adjR rs a b):adjR rs b a:=h.elim λj z=>⟨j,z.symm⟩
theorem adjR.mem{a:Str}(h:adjR rs a b):a∈rs/\b∈rs:=h.elim λj z=>z.elim (λy=>⟨ye y.1,ye y.2⟩) λy=>⟨ye y.2,ye y.1⟩
structure TurnR(f:Str->Option Str)(rs:LS):Prop where
 nd:rs.Nodup
 two:2<=rs.length
 sym:∀ a b,f a=some b->f b=some a
 alt:∀(j:Nat) r s t,rs[j]?=some r->rs[j+1]?=some s->rs[j+2]?=some t->(f s=some r↔¬ f s=some t)
 fst:∀ s t,rs[0]?=some s->rs[1]?=some t->f s=none\/f s=some t
 lst:∀ s t,rs[rs.length-1]?=some s->rs[rs.length-2]?=some t->f s=none\/f s=some t
theorem TurnR.near{f:Str->Option Str}(h:TurnR f rs){a:Str}(n:a∈rs)(c:f a=some b):adjR rs a b:=by
 obtain⟨i,d⟩:=yf n;have o:i<rs.length:=(yc.mp d).1;have p:=h.two;by_cases m:i=0
 .subst m;obtain⟨t,e⟩:∃ t,rs[1]?=some t:=⟨_,yb (by lk)⟩;rcases h.fst a t d e with z | z
  .rw [z] at c;cases c
  .rw [c] at z;cases z;show⟨0,.inl ⟨d,e⟩⟩
 .by_cases hl:i=rs.length-1
  .obtain⟨t,e⟩:∃ t,rs[rs.length-2]?=some t:=⟨_,yb (by lk)⟩;rcases h.lst a t (by rw[<- hl];show d) e with z | z
   .rw [z] at c;cases c
   .rw [c] at z;cases z;show⟨rs.length-2,.inr ⟨e,by rw[show rs.length-2+1=i by lk];show d⟩⟩
  .obtain⟨r,l⟩:∃ r,rs[i-1]?=some r:=⟨_,yb (by lk)⟩;obtain⟨t,e⟩:∃ t,rs[i+1]?=some t:=⟨_,yb (by lk)⟩;have g:i-1+1=i:=by lk
   have j:i-1+2=i+1:=by lk
   have:=h.alt (i-1) r a t l (by rw[g];show d) (by rw[j];show e);by_cases z:f a=some t
   .rw [c] at z;cases z;show⟨i,.inl ⟨d,e⟩⟩
   .have z:=this.mpr z;rw[c] at z;cases z;show⟨i-1,.inr ⟨l,by rw[g];show d⟩⟩
def flipR(f:Str->Option Str)(rs:LS)(a b:Str):Prop:=(a∉rs/\f a=some b)\/(adjR rs a b/\f a≠some b)
theorem TurnR.xor{f:Str->Option Str}(h:TurnR f rs){a:Str}:flipR f rs a b↔¬ (f a=some b↔adjR rs a b):=by
 unfold flipR;constructor
 .rintro (⟨h1,c⟩ | ⟨h1,c⟩) e
  .show h1 (e.mp c).mem.1
  .show c (e.mpr h1)
 .intro e;by_cases h1:f a=some b
  .show .inl ⟨λd=>e ⟨λ_=>h.near d h1,λ_=>h1⟩,h1⟩
  .by_cases c:adjR rs a b
   .show .inr ⟨c,h1⟩
   .show absurd ⟨λz=>absurd z h1,λz=>absurd z c⟩ e
theorem flipR.symm{f:Str->Option Str}(h:TurnR f rs){a:Str}(e:flipR f rs a b):flipR f rs b a:=by
 rcases e with⟨h1,c⟩ | ⟨h1,c⟩
 .show .inl ⟨λd=>?_,h.sym _ _ c⟩;show h1 (h.near d (h.sym _ _ c)).mem.2
 .show .inr ⟨h1.symm,λz=>c (h.sym _ _ z)⟩
theorem adjR.at_(nd:rs.Nodup){a:Str}(d:rs[i]?=some a)(h:adjR rs a b):rs[i+1]?=some b\/(1<=i/\rs[i-1]?=some b):=by
 obtain⟨j,⟨h1,c⟩ | ⟨h1,c⟩⟩:=h
 .have:=qA nd d h1;subst this;show .inl c
 .have:=qA nd d c;subst this;show .inr ⟨by lk,by simpa using h1⟩
theorem flipR.one{f:Str->Option Str}(h:TurnR f rs){a:Str}(p:flipR f rs a b)(o:flipR f rs a c):b=c:=by
 rcases p with⟨h1,j⟩ | ⟨h1,j⟩
 .rcases o with⟨e,d⟩ | ⟨e,d⟩
  .rw [j] at d;show ym d
  .show absurd e.mem.1 h1
 .rcases o with⟨e,d⟩ | ⟨e,d⟩
  .show absurd h1.mem.1 e
  .obtain⟨i,l⟩:=yf h1.mem.1
   have g:∀{b c:Str},rs[i+1]?=some b->1<=i->rs[i-1]?=some c->f a≠some b->f a≠some c->False:=λhb q hc r s=>by
    have m:i-1+1=i:=by lk
    have n:i-1+2=i+1:=by lk
    show s ((h.alt (i-1) _ a _ hc (by rw[m];show l) (by rw[n];show hb)).mpr r)
   rcases h1.at_ h.nd l with z1 | ⟨l1,z1⟩<;>rcases e.at_ h.nd l with z2 | ⟨l2,z2⟩
   .rw [z1] at z2;show ym z2
   .show(g z1 l2 z2 j d).elim
   .show(g z2 l1 z1 d j).elim
   .rw [z1] at z2;show ym z2
theorem TurnR.again{f:Str->Option Str}(h:TurnR f rs)(l:∀ a b,g a=some b↔flipR f rs a b):TurnR g rs:=by
 have n:∀{a b:Str},adjR rs a b->(g a=some b↔¬ f a=some b):=λi=>by
  rw[l,h.xor];constructor
  .show λe z=>e ⟨λ_=>i,λ_=>z⟩
  .show λe z=>e (z.mpr i)
 have only:∀{a b:Str},a∈rs->g a=some b->adjR rs a b:=λq e=>by
  rcases(l _ _).mp e with⟨h1,_⟩ | ⟨h1,_⟩
  .show absurd q h1
  .show h1
 show⟨h.nd,h.two,λa b e=>(l _ _).mpr (((l _ _).mp e).symm h),λj r s t m c d=>?_,λs t c d=>?_,λs t c d=>?_⟩
 .have o:adjR rs s r:=⟨j,.inr ⟨m,c⟩⟩;have p:adjR rs s t:=⟨j+1,.inl ⟨c,d⟩⟩;rw[n o,n p,h.alt j r s t m c d]
 .cases e:g s with
  | none=>show .inl rfl
  | some b =>
   have:=(only (ye c) e).at_ h.nd c;rcases this with z | ⟨z,_⟩
   .rw [d] at z;show .inr (by rw[<- e,e];show z.symm ▸ rfl)
   .omega
 .cases e:g s with
  | none=>show .inl rfl
  | some b =>
   have u:=h.two;have:=(only (ye c) e).at_ h.nd c;rcases this with z | ⟨_,z⟩
   .have:=(yc.mp z).1;lk
   .rw [show rs.length-1-1=rs.length-2 by lk,d] at z;show .inr (by rw[<- z])
theorem TurnR.inner{f:Str->Option Str}(h:TurnR f rs)(d:0<i)(h1:i+1<rs.length)(b:rs[i]?=some s):(f s).isSome=true:=by
 obtain⟨r,a⟩:∃ r,rs[i-1]?=some r:=⟨_,yb (by lk)⟩;obtain⟨t,c⟩:∃ t,rs[i+1]?=some t:=⟨_,yb h1⟩;have:=h.alt (i-1) r s t a (by rw[show i-1+1=i by lk];show b) (by rw[show i-1+2=i+1 by lk];show c)
 cases e:f s with
 | some _=>rfl
 | none =>
  rw[e] at this;have:=this.mpr (λz=>by cases z);cases this
theorem qei{f:Str->Option Str}(h:TurnR f rs)(e:∀ a b,g a=some b↔flipR f rs a b){a t:Str}(c:adjR rs a t)(i:f a=none\/f a=some t)(d:g a=none\/g a=some t):(g a).isSome=!(f a).isSome:=by
 rcases i with z | z
 .rw [(e a t).mpr (.inr ⟨c,by rw[z];show λy=>by cases y⟩),z];rfl
 .rcases d with y | y
  .rw [y,z];rfl
  .show absurd ⟨λ_=>c,λ_=>z⟩ (h.xor.mp ((e a t).mp y))
theorem qfb{f:Str->Option Str}(h:TurnR f rs){a:Str}(g:rs[0]?=some a)(hb:rs[rs.length-1]?=some b):(rs.filter λs=>(f s).isSome).length+2=rs.length+(if (f a).isSome then 1 else 0)+(if (f b).isSome then 1 else 0):=by
 have d:=h.two
 obtain⟨m,l⟩:∃ m,rs=a::(m++[b]):=by
  match rs,g,hb,d with
  | x::r,g,hb,d =>
   have t:x=a:=ym g;have p:r≠[]:=λz=>by rw[z] at d;simp at d
   show⟨r.dropLast,?_⟩
   have e:r.getLast p=b:=by
    have hl:0<r.length:=List.length_pos_iff.mpr p;rw[show(x::r).length-1=r.length-1+1 by simp;lk,List.getElem?_cons_succ] at hb;rw[List.getLast_eq_getElem];show(yc.mp hb).2
   rw[t,<- e,List.dropLast_concat_getLast]
 have n:rs.length=m.length+2:=by rw[l];simp
 have c:(m.filter λs=>(f s).isSome)=m:=kL.mpr λs q=>by
  obtain⟨i,o⟩:=yf q;have j:=(yc.mp o).1;show h.inner (i:=i+1) (by lk) (by lk) ?_;rw[l,List.getElem?_cons_succ,Yi j];show o
 rw[n,l,yP,yZ,c,yP,YA];cases (f a).isSome<;>cases (f b).isSome<;>simp<;>lk
theorem qde(f:ss.Nodup)(i:rs.Nodup)(c:∀ s∈rs,s∈ss)(p:Str->Bool):(ss.filter p).length=(rs.filter p).length+(ss.filter λs=>p s&&!decide (s∈rs)).length:=by
 have e:(rs.filter p).length=(ss.filter λs=>p s&&decide (s∈rs)).length:=xV
  (qb7 (i.filter _) λs d=>by
   obtain⟨a,b⟩:=yp.mp d;show yp.mpr ⟨c s a,by rw[b,yz a];rfl⟩)
  (qb7 (f.filter _) λs d=>by
   obtain⟨a,b⟩:=yp.mp d;obtain⟨g,h⟩:=(yL _ _).mp b;show yp.mpr ⟨yk h,g⟩)
 rw[e];clear e f c
 induction ss with
 | nil=>rfl
 | cons x r ih =>
  rw[yP,yP,yP];cases p x<;>cases decide (x∈rs)<;>simp<;>lk
theorem qcj:∀{qs:LP},(∀ q∈qs,q.1≠q.2)->qs.Pairwise (λq r=>q.1≠r.1/\q.1≠r.2/\q.2≠r.1/\q.2≠r.2)->(qx qs).Nodup
 | [],_,_=>List.nodup_nil
 | q::r,h,hp=>by
  obtain⟨l,m⟩:=List.pairwise_cons.mp hp;have j:=qcj (λx g=>h x (yy _ g)) m;show(q.1::q.2::qx r).Nodup
  have f:∀ n∈qx r,q.1≠n/\q.2≠n:=λn i=>by
   obtain⟨x,g,e⟩:=xI.mp i;obtain⟨a,b,c,d⟩:=l x g;simp only[yv,yQ,Yw] at e;rcases e with rfl | rfl
   .show⟨a,c⟩
   .show⟨b,d⟩
  show yo.mpr ⟨λz=>?_,yo.mpr ⟨λz=>(f _ z).2 rfl,j⟩⟩;rcases yv.mp z with z | z
  .show h q yM z
  .show(f _ z).1 rfl
theorem stpB_adj{a:Str}:(a,b)∈qgQ rs↔adjR rs a b:=by
 unfold qgQ adjR;rw[yG,yB];constructor
 .rintro (h | ⟨q,h,e⟩)
  .obtain⟨j,d⟩:=yf h;show⟨j,.inl (stp_at.mp d)⟩
  .obtain⟨j,d⟩:=yf h;cases e;show⟨j,.inr (stp_at.mp d)⟩
 .rintro ⟨j,⟨h1,c⟩ | ⟨h1,c⟩⟩
  .show .inl (ye (stp_at.mpr ⟨h1,c⟩))
  .show .inr ⟨(b,a),ye (stp_at.mpr ⟨h1,c⟩),rfl⟩
theorem flT_flip{d:LP}(h:TurnR (pt qs) rs){a:Str}:(a,b)∈flT d qs rs↔(a,b)∈d/\flipR (pt qs) rs a b:=by
 unfold flT;rw[yp,h.xor];show and_congr_right λ_=>?_;show(decide (pt qs a=some b) != decide ((a,b)∈qgQ rs))=true↔_;by_cases h1:pt qs a=some b<;>by_cases c:(a,b)∈qgQ rs
 .rw [yz h1,yz c];show⟨(λz=>by cases z),λz=>absurd ⟨λ_=>stpB_adj.mp c,λ_=>h1⟩ z⟩
 .rw [yz h1,yl c];show⟨λ_ z=>c (stpB_adj.mpr (z.mp h1)),λ_=>rfl⟩
 .rw [yl h1,yz c];show⟨λ_ z=>h1 (z.mpr (stpB_adj.mp c)),λ_=>rfl⟩
 .rw [yl h1,yl c];show⟨(λz=>by cases z),λz=>absurd ⟨λy=>absurd y h1,λy=>absurd (stpB_adj.mpr y) c⟩ z⟩
def tA(tps:LP)(a b:Str):Prop:=(a,b)∈tps\/(b,a)∈tps
theorem pt_some:s∈qx qs↔(pt qs s).isSome=true:=by
 cases e:pt qs s with
 | none=>show⟨λz=>absurd z (pt_none.mp e),(λz=>by cases z)⟩
 | some b=>show⟨λ_=>rfl,λ_=>yX λz=>by rw[pt_none.mpr z] at e;cases e⟩
structure PFn(ss:LS)(tps:LP)(f:Str->Option Str):Prop where
 sym:∀ a b,f a=some b->f b=some a
 tie:∀ a b,f a=some b->tA tps a b
def qbk(f:Str->Option Str)(ss:LS):Nat:=(ss.filter λs=>(f s).isSome).length
section
variable{ss:LS}{ns:LN}{tps qs:LP}{f g:Str->Option Str}
theorem PGo.fn(h:PGo ss tps qs):PFn ss tps (pt qs):=⟨λa b e=>(pt_sym h.nd).mp e,λa b e=>by
 rcases qeh e with z | z
 .show(h.inn _ z).1
 .show(h.inn _ z).1.symm⟩
theorem PGo.cnt(h:PGo ss tps qs)(c:ss.Nodup):2*qs.length=qbk (pt qs) ss:=by
 rw[<- qaC];show xV (qb7 h.nd λs a=>yp.mpr ⟨?_,pt_some.mp a⟩) (qb7 (c.filter _) λs a=>pt_some.mpr (yp.mp a).2);obtain⟨q,b,a⟩:=xI.mp a;simp only[yv,yQ,Yw] at a;rcases a with rfl | rfl
 .show(h.inn q b).2.1
 .show(h.inn q b).2.2.1
theorem qbl:(snL f ss).length+qbk f ss=ss.length:=by
 unfold snL qbk
 induction ss with
 | nil=>rfl
 | cons x r ih =>
  rw[yP,yP];cases (f x).isSome
  .rw [yH (show(!false)=true from rfl),yD Yn,yx,yx];lk
  .rw [yD (show ¬ (!true)=true by decide),yH (show true=true from rfl),yx,yx];lk
theorem zk(hw:WOk ss ns)(p:Adj ss ns tps){a:Str}:(a,b)∈j0 ss ns ss.length↔tA tps a b/\∃ i j:Nat,i<j/\ss[i]?=some a/\ss[j]?=some b:=by
 unfold j0;rw[xI];constructor
 .rintro ⟨i,f,h⟩;have f:=Yh.mp f;obtain⟨s,l⟩:∃ s,ss[i]?=some s:=⟨_,yb f⟩;have d:ss.getD i ""=s:=by rw[Yq,l];rfl
  unfold qgj at h;rw[d] at h;obtain⟨o,t,e⟩:=yB.mp h;cases e;obtain⟨h1,c⟩:=yp.mp t;obtain⟨q,r⟩:=qe5 hw.nd h1;have n:ss[ss.idxOf b]?=some b:=by rw[yb (YN q),xP]
  show⟨(p i _ _ _ l n).mp r,i,_,yk c,l,n⟩
 .rintro ⟨h,i,j,g,h1,c⟩;show⟨i,Yh.mpr (yc.mp h1).1,?_⟩;have d:ss.getD i ""=a:=by rw[Yq,h1];rfl
  have m:ss.idxOf b=j:=by
   have hb:=ye c;show qA hw.nd (by rw[yb (YN hb),xP]) c
  unfold qgj;rw[d];show yB.mpr ⟨b,yp.mpr ⟨?_,yz (by rw[m];show g)⟩,rfl⟩;rw[qaq hw.nd];show yp.mpr ⟨ye c,by rw[m];show(p i j a b h1 c).mpr h⟩
theorem qfc(hw:WOk ss ns):(j0 ss ns ss.length).Nodup:=by
 show List.pairwise_flatMap.mpr ⟨λi _=>?_,?_⟩
 .unfold qgj;show YM.mpr ?_;have nd:((inB ss 0 (ns.getD i 0)).filter λo=>decide (i<ss.idxOf o)).Nodup:=by rw[qaq hw.nd];show(hw.nd.filter _).filter _
  show nd.imp λc e=>c (Prod.mk.inj e).2
 .show xr (λ{i j} a b g q d r f e=>?_) (List.pairwise_lt_range (n:=ss.length));have a:=Yh.mp a;have b:=Yh.mp b;unfold qgj at d f;obtain⟨_,_,rfl⟩:=yB.mp d;obtain⟨_,_,rfl⟩:=yB.mp f;have e:=(Prod.mk.inj e).1;rw[Yq,Yq,yb a,yb b] at e;have:=qA hw.nd (yb a) (by rw[yb b];show congrArg some e.symm);lk
theorem fil_ok(hw:WOk ss ns)(A:Adj ss ns tps)(t:∀ ab∈tps,ab.1∈ss/\ab.2∈ss/\ab.1≠ab.2)(h:PFn ss tps g){L:LP}(f:∀ a b,(a,b)∈L↔(a,b)∈j0 ss ns ss.length/\g a=some b)(H:L.Sublist (j0 ss ns ss.length)):PGo ss tps L/\pt L=g:=by
 have mem:∀ q∈L,g q.1=some q.2/\tA tps q.1 q.2/\∃ i j:Nat,i<j/\ss[i]?=some q.1/\ss[j]?=some q.2:=λq c=>by
  obtain⟨h1,G⟩:=(f q.1 q.2).mp c;show⟨G,(zk hw A).mp h1⟩
 have inn:∀{a b:Str},tA tps a b->a∈ss/\b∈ss/\a≠b:=λz=>z.elim (λy=>t _ y) λy=>⟨(t _ y).2.1,(t _ y).1,(t _ y).2.2.symm⟩
 have nd:(qx L).Nodup:=by
  show qcj (λq c=>(inn (mem q c).2.1).2.2) (xr (λ{q r} c I n=>?_) (H.nodup (qfc hw)));obtain⟨d,_,i,j,l1,o,p⟩:=mem q c;obtain⟨x,_,K,M,l2,D,E⟩:=mem r I;have w:=h.sym _ _ d;have F:=h.sym _ _ x;show⟨λz=>?_,λz=>?_,λz=>?_,λz=>?_⟩
  .rw [z,x] at d;show n (Xf z (ym d).symm)
  .rw [z,F] at d;have e:=ym d;rw[z] at o;rw[<- e] at p;have:=qA hw.nd o E;have:=qA hw.nd p D;lk
  .rw [z,x] at w;have e:=ym w;rw[z] at p;rw[<- e] at o;have:=qA hw.nd o E;have:=qA hw.nd p D;lk
  .rw [z,F] at w;show n (Xf (ym w).symm z)
 have C:∀ q∈L,(q∈tps\/(q.2,q.1)∈tps)/\q.1∈ss/\q.2∈ss/\q.1≠q.2:=λq c=>⟨(mem q c).2.1,inn (mem q c).2.1⟩
 have hl:L.length<=30:=by
  have:=qb7 (l:=qx L) (m:=ss) nd λs v=>by
   obtain⟨q,c,v⟩:=xI.mp v;simp only[yv,yQ,Yw] at v;rcases v with rfl | rfl
   .show(C q c).2.1
   .show(C q c).2.2.1
  rw[qaC] at this;have:=hw.few;lk
 show⟨⟨C,nd,hl⟩,funext λa=>qfa λb=>?_⟩;rw[qe9 nd];constructor
 .rintro (z | z)
  .show((f _ _).mp z).2
  .show h.sym _ _ ((f _ _).mp z).2
 .intro e;obtain⟨m1,J,ne⟩:=inn (h.tie _ _ e);obtain⟨i,B⟩:=yf m1;obtain⟨j,u⟩:=yf J;rcases x0 i j with l | l | l
  .show .inl ((f _ _).mpr ⟨(zk hw A).mpr ⟨h.tie _ _ e,i,j,l,B,u⟩,e⟩)
  .subst l;rw[B] at u;show absurd (ym u) ne
  .show .inr ((f _ _).mpr ⟨(zk hw A).mpr ⟨(h.tie _ _ e).symm,j,i,l,u,B⟩,h.sym _ _ e⟩)
end
theorem qfd{f:Str->Option Str}(h:TurnR f rs):∃ g:Str->Option Str,∀ a b,g a=some b↔flipR f rs a b:=
 ⟨λa=>@dite _ (∃ b,flipR f rs a b) (Classical.propDecidable _) (λz=>some z.choose) λ_=>none,λa b=>by
  dsimp only;split
  .rename_i z
   show⟨λe=>by rw[<- ym e];show z.choose_spec,λe=>congrArg some (z.choose_spec.one h e)⟩
  .rename_i z
   show⟨(λe=>by cases e),λe=>absurd ⟨b,e⟩ z⟩⟩
section
variable{ss:LS}{tps qs:LP}{f g:Str->Option Str}{rs:LS}
theorem qfe(h:TurnR f rs)(i:PFn ss tps f)(d:∀ a b,adjR rs a b->tA tps a b)(c:∀ a b,g a=some b↔flipR f rs a b):PFn ss tps g:=
 ⟨λa b e=>(c _ _).mpr (((c _ _).mp e).symm h),λa b e=>((c _ _).mp e).elim (λz=>i.tie _ _ z.2) λz=>d _ _ z.1⟩
theorem qej(h:TurnR f rs)(e:∀ a b,g a=some b↔flipR f rs a b)(o:ss.Nodup)(d:∀ s∈rs,s∈ss){a:Str}(c:rs[0]?=some a)(hb:rs[rs.length-1]?=some b):qbk g ss+2=qbk f ss+(if (f a).isSome then 0 else 2)+(if (f b).isSome then 0 else 2):=by
 have B:=h.two;have j:=h.again e;unfold qbk;rw[qde o h.nd d,qde (p:=λs=>(f s).isSome) o h.nd d];have n:=qfb h c hb;have i:=qfb j c hb
 have A:(ss.filter λs=>(g s).isSome&&!decide (s∈rs))=ss.filter λs=>(f s).isSome&&!decide (s∈rs):=YL λs _=>by
  by_cases z:s∈rs
  .rw [yz z];simp
  .have:g s=f s:=qfa λb=>by
    rw[e];show⟨λy=>y.elim (λx=>x.2) λx=>absurd x.1.mem.1 z,λy=>.inl ⟨z,y⟩⟩
   rw[this]
 rw[A];obtain⟨t,l⟩:∃ t,rs[1]?=some t:=⟨_,yb (by lk)⟩;obtain⟨u,m⟩:∃ u,rs[rs.length-2]?=some u:=⟨_,yb (by lk)⟩;have q:=qei h e ⟨0,.inl ⟨c,l⟩⟩ (h.fst a t c l) (j.fst a t c l);have r:=qei h e (a:=b) (t:=u) ⟨rs.length-2,.inr ⟨m,by rw[show rs.length-2+1=rs.length-1 by lk];show hb⟩⟩ (h.lst b u hb m) (j.lst b u hb m);rw[q,r] at i;generalize (rs.filter λs=>(g s).isSome).length=C at i ⊢;generalize (rs.filter λs=>(f s).isSome).length=D at n ⊢;cases v:(f a).isSome<;>cases w:(f b).isSome<;>rw[v,w] at n i<;>simp at n i ⊢<;>lk
theorem qck{A:Str->Str->Prop}(c:∀ a b,f a=some b->f b=some a)(nd:rs.Nodup)(d:2<=rs.length)(st:Turns A f rs)(h:∀ s,rs[0]?=some s->f s=none)(tl:∀ s t,rs[rs.length-1]?=some s->rs[rs.length-2]?=some t->f s=none\/f s=some t):TurnR f rs:=by
 show⟨nd,d,c,λj r s t i h1 l=>?_,λs t h1 _=>.inl (h s h1),tl⟩;have e:=(st j r s i h1).2;have g:=(st (j+1) s t h1 l).2;have:f s=some r↔f r=some s:=⟨λz=>c _ _ z,λz=>c _ _ z⟩;rw[this,e,g];lk
theorem qdf(st:Turns (tA tps) f rs):∀ a b,adjR rs a b->tA tps a b:=λa b h=>by
 obtain⟨j,⟨h1,c⟩ | ⟨h1,c⟩⟩:=h
 .show(st j _ _ h1 c).1
 .show(st j _ _ h1 c).1.symm
theorem Aug.row(h:Aug (tA tps) (pt qs) rs)(hl:rs.length<=1000)(c:∀ ab∈tps,ab.1∈ss/\ab.2∈ss/\ab.1≠ab.2):RowG ss tps qs rs:=by
 show⟨h.nd,h.two,hl,λr n=>?_,λj ab e=>?_,h.hd,h.tl⟩
 .obtain⟨i,d⟩:=yf n;have m:=(yc.mp d).1;have q:=h.two;have inn:∀{a b:Str},tA tps a b->a∈ss/\b∈ss:=λz=>z.elim (λy=>⟨(c _ y).1,(c _ y).2.1⟩) λy=>⟨(c _ y).2.1,(c _ y).1⟩;by_cases l:i+1<rs.length
  .show(inn (h.st i r _ d (yb l)).1).1
  .show(inn (h.st (i-1) _ r (yb (by lk)) (by rw[show i-1+1=i by lk];show d)).1).2
 .obtain⟨f,g⟩:=stp_at.mp e;obtain⟨o,p⟩:=h.st j _ _ f g;show⟨o,Yo.mpr p⟩
theorem Aug.turn(h:Aug (tA tps) (pt qs) rs)(c:∀ a b,pt qs a=some b->pt qs b=some a):TurnR (pt qs) rs:=
 qck c h.nd h.two h.st h.hd λs t e _=>.inl (h.tl s e)
theorem turn_ok(hw:WOk ss ns)(m:Adj ss ns tps)(f:∀ ab∈tps,ab.1∈ss/\ab.2∈ss/\ab.1≠ab.2)(e:PGo ss tps qs)(h:Aug (tA tps) (pt qs) rs)(hl:rs.length<=1000):PGo ss tps (flT (j0 ss ns ss.length) qs rs)/\(flT (j0 ss ns ss.length) qs rs).length=qs.length+1:=by
 have c:=h.turn e.fn.sym;obtain⟨g,d⟩:=qfd c;obtain⟨j,n⟩:=fil_ok hw m f (qfe c e.fn (qdf h.st) d) (L:=flT (j0 ss ns ss.length) qs rs) (λa b=>by rw[flT_flip c,d]) List.filter_sublist;show⟨j,?_⟩;have o:=e.cnt hw.nd;have l:=j.cnt hw.nd;rw[n] at l;have p:=h.two;obtain⟨a,i⟩:∃ t,rs[0]?=some t:=⟨_,yb (by lk)⟩;obtain⟨b,hb⟩:∃ t,rs[rs.length-1]?=some t:=⟨_,yb (by lk)⟩;have:=qej c d hw.nd (h.row hl f).inn i hb;rw[h.hd a i,h.tl b hb] at this;simp at this;lk
end
def MxF(ss:LS)(tps qs:LP):Prop:=∃ S:FS,Fn (tA tps) (pt qs) S ss
structure Wt(cw:Addr)(H:Hp)(x:Addr)(ss:LS)(ns:LN)(tps:LP):Prop where
 web:WebAt cw H x ss ns
 adj:Adj ss ns tps
 ok:∀ ab∈tps,ab.1∈ss/\ab.2∈ss/\ab.1≠ab.2
theorem Wt.same(h:Wt cw H x ss ns tps)(s:L2.Same H H'):Wt cw H' x ss ns tps:=⟨h.web.same s,h.adj,h.ok⟩
theorem Wt.wok(h:Wt cw H x ss ns tps):WOk ss ns:=by obtain⟨_,_,_,_,_,_,_,_,z⟩:=h.web;show z
def tB(tps:LP)(a b:Str):Bool:=decide ((a,b)∈tps)||decide ((b,a)∈tps)
theorem tB_iff{a:Str}:tB tps a b=true↔tA tps a b:=by
 unfold tB tA;rw[Y5,yJ,yJ]
def del(l:LS)(y:Str):LS:=l.filter λa=>!decide (a=y)
def mo(tps:LP):Nat->LS->Nat
 | 0,_=>0
 | _,[]=>0
 | n+1,x::r=>(r.filter (tB tps x)).foldl (λm y=>max m (1+mo tps n (del r y))) (mo tps n r)
theorem qbz(h:α->Nat):∀(L:List α) (i:Nat),i<=L.foldl (λm y=>max m (h y)) i/\(∀ y∈L,h y<=L.foldl (λm y=>max m (h y)) i)/\(L.foldl (λm y=>max m (h y)) i=i\/∃ y∈L,L.foldl (λm y=>max m (h y)) i=h y)
 | [],i=>⟨yh _,(λy hy=>by cases hy),.inl rfl⟩
 | a::r,i=>by
  obtain⟨h1,b,c⟩:=qbz h r (max i (h a));rw[List.foldl_cons];show⟨yi (Kr _ _) h1,λy hy=>?_,?_⟩
  .rcases yv.mp hy with rfl | hy
   .show yi (Nat.le_max_right _ _) h1
   .show b y hy
  .rcases c with z | ⟨y,hy,z⟩
   .rw [z];rcases Nat.le_total i (h a) with k | k
    .show .inr ⟨a,yM,Nat.max_eq_right k⟩
    .show .inl (Nat.max_eq_left k)
   .show .inr ⟨y,yy _ hy,z⟩
structure Mt(tps:LP)(l:LS)(f:Str->Option Str):Prop where
 sym:∀ a b,f a=some b->f b=some a
 tie:∀ a b,f a=some b->tA tps a b
 inn:∀ a b,f a=some b->a∈l
theorem qas{f:Str->Option Str}{x:Str}{r:LS}:qbk f (x::r)=qbk f r+(if (f x).isSome=true then 1 else 0):=by
 unfold qbk;rw[yP];split
 .rw [yx]
 .rfl
theorem qb1{f:Str->Option Str}{l:LS}(h:∀ s∈l,(f s).isSome=(g s).isSome):qbk f l=qbk g l:=by
 unfold qbk;rw[YL h]
theorem mem_del{l:LS}{a:Str}:a∈del l y↔a∈l/\a≠y:=by
 unfold del;rw[yp,YD,Y8]
theorem zS{f:Str->Option Str}:∀{r:LS},r.Nodup->y∈r->qbk f r=qbk f (del r y)+(if (f y).isSome=true then 1 else 0)
 | [],_,h=>by cases h
 | x::r,hn,h=>by
  obtain⟨d,g⟩:=yo.mp hn;by_cases e:x=y
  .subst e
   have:del (x::r) x=r:=by
    unfold del;rw[yP,yD (by rw[yz rfl];decide)];show kL.mpr λa b=>by rw[yl (λz=>d (by rw[<- z];show b))];rfl
   rw[this,qas]
  .have c:=(yv.mp h).resolve_left (YI e);have:del (x::r) y=x::del r y:=by unfold del;rw[yP,yH (by rw[yl e];rfl)]
   rw[this,qas,qas,zS g c];lk
theorem qb2(l:LS)(y:Str):(del l y).length<=l.length:=yI _ _
section
variable{tps:LP}
theorem qb3(i:∀ a b,tA tps a b->a≠b):∀(n:Nat) {l:LS} {f:Str->Option Str},l.length<=n->l.Nodup->Mt tps l f->qbk f l<=2*mo tps n l
 | n,[],f,_,_,_=>Yx _
 | 0,x::r,f,h,_,_=>by simp at h
 | n+1,x::r,f,h,hn,hf=>by
  obtain⟨A,o⟩:=yo.mp hn;have hl:r.length<=n:=by simpa using h
  obtain⟨B,v,_⟩:=qbz (λy=>1+mo tps n (del r y)) (r.filter (tB tps x)) (mo tps n r);rw[qas];show _<=2*(r.filter (tB tps x)).foldl (λm y=>max m (1+mo tps n (del r y))) (mo tps n r)
  cases e:f x with
  | none =>
   have:=qb3 i n hl o (f:=f) ⟨hf.sym,hf.tie,λa b z=>(yv.mp (hf.inn a b z)).resolve_left λy=>by rw[y,e] at z;cases z⟩;simp only[kQ,xN,ki];lk
  | some y =>
   have j:=i _ _ (hf.tie _ _ e);have d:=hf.sym _ _ e;have p:=(yv.mp (hf.inn y x d)).resolve_left (YI j);have t:=v y (yp.mpr ⟨p,tB_iff.mpr (hf.tie _ _ e)⟩);have:=qb3 i n (l:=del r y) (f:=λa=>if a=x\/a=y then none else f a) (yi (qb2 r y) hl) (o.filter _) ⟨λa b z=>?_,λa b z=>?_,λa b z=>?_⟩
   .rw [zS o p,d,qb1 (g:=λa=>if a=x\/a=y then none else f a) λs u=>?_]
    .simp only[XV,Xu]
     (try dsimp only at t)
     lk
    .obtain⟨h1,q⟩:=mem_del.mp u;rw[yD (λz=>z.elim (λz=>A (by rw[<- z];show h1)) q)]
   ·(try dsimp only at z ⊢)
    split at z
    .cases z
    .rename_i hne
     have c:=hf.sym _ _ z;rw[yD (λw=>?_)]
     .show c
     .rcases w with w | w
      .rw [w,e] at c;show hne (.inr (ym c).symm)
      .rw [w,d] at c;show hne (.inl (ym c).symm)
   ·(try dsimp only at z)
    split at z
    .cases z
    .show hf.tie _ _ z
   ·(try dsimp only at z)
    split at z
    .cases z
    .rename_i hne
     have:=(yv.mp (hf.inn a b z)).resolve_left λw=>hne (.inl w);show mem_del.mpr ⟨this,λw=>hne (.inr w)⟩
theorem qcy(p:∀ a b,tA tps a b->a≠b):∀(n:Nat) {l:LS},l.length<=n->l.Nodup->∃ f,Mt tps l f/\qbk f l=2*mo tps n l
 | n,[],_,_=>⟨λ_=>none,⟨(λa b z=>by cases z),(λa b z=>by cases z),(λa b z=>by cases z)⟩,by cases n<;>rfl⟩
 | 0,x::r,h,_=>by simp at h
 | n+1,x::r,h,hn=>by
  obtain⟨q,t⟩:=yo.mp hn;have hl:r.length<=n:=by simpa using h
  obtain⟨_,_,C⟩:=qbz (λy=>1+mo tps n (del r y)) (r.filter (tB tps x)) (mo tps n r);show ∃ f,_/\_=2*(r.filter (tB tps x)).foldl (λm y=>max m (1+mo tps n (del r y))) (mo tps n r);rcases C with z | ⟨y,j,z⟩
  .obtain⟨f,d,c⟩:=qcy p n hl t;show⟨f,⟨d.sym,d.tie,λa b e=>yy _ (d.inn a b e)⟩,?_⟩
   have B:f x=none:=by
    cases e:f x with
    | none=>rfl
    | some b=>show absurd (d.inn _ _ e) q
   rw[qas,B,z,c];rfl
  .obtain⟨j,ty⟩:=yp.mp j;have ty:=tB_iff.mp ty;have i:=p _ _ ty;obtain⟨f,d,c⟩:=qcy p n (l:=del r y) (yi (qb2 r y) hl) (t.filter _)
   have u:∀{a b:Str},f a=some b->a≠x/\a≠y:=λe=>by
    obtain⟨h1,o⟩:=mem_del.mp (d.inn _ _ e);show⟨λw=>q (by rw[<- w];show h1),o⟩
   show⟨λa=>if a=x then some y else if a=y then some x else f a,⟨λa b e=>?_,λa b e=>?_,λa b e=>?_⟩,?_⟩
   ·(try dsimp only at e ⊢)
    split at e
    .cases e;rename_i w;rw[yD (YI i),yH rfl,w]
    .split at e
     .cases e;rename_i w;rw[yH rfl,w]
     .have v:=d.sym _ _ e;obtain⟨D,E⟩:=u v;rw[yD D,yD E];show v
   ·(try dsimp only at e)
    split at e
    .cases e;rename_i w;rw[w];show ty
    .split at e
     .cases e;rename_i w;rw[w];show Or.symm ty
     .show d.tie _ _ e
   ·(try dsimp only at e)
    split at e
    .rename_i w;rw[w];show yM
    .split at e
     .rename_i w;rw[w];show yy _ j
     .show yy _ (mem_del.mp (d.inn _ _ e)).1
   .rw [qas,zS t j,yH rfl,yD (YI i),yH rfl,qb1 (g:=f) λs A=>?_]
    .simp only[XV,Xu];rw[c,z];lk
    .obtain⟨h1,o⟩:=mem_del.mp A;rw[yD (λw=>q (by rw[<- w];show h1)),yD o]
theorem qgl(e:∀ a b,tA tps a b->a≠b){l:LS}(h1:l.length<=n)(i:l.length<=m)(h:l.Nodup):mo tps n l=mo tps m l:=by
 obtain⟨f,j,c⟩:=qcy e n h1 h;obtain⟨g,o,d⟩:=qcy e m i h;have:=qb3 e m i h j;have:=qb3 e n h1 h o;lk
variable{ss:LS}{qs:LP}{S:FS}
theorem Mt.gr{f:Str->Option Str}(c:∀ a b,tA tps a b->a≠b)(h:Mt tps ss f):Gr (tA tps) f:=⟨λz=>Or.symm z,λz=>c _ _ z,λ{a b} e=>h.sym a b e,λ{a b} e=>h.tie a b e⟩
theorem PGo.mt(g:PGo ss tps qs):Mt tps ss (pt qs):=⟨g.fn.sym,g.fn.tie,λa b e=>by
 rcases qeh e with z | z
 .show(g.inn _ z).2.1
 .show(g.inn _ z).2.2.1⟩
theorem mx_mo(h:∀ a b,tA tps a b->a≠b)(e:ss.Nodup)(g:PGo ss tps qs)(m:MxF ss tps qs):qs.length=mo tps ss.length ss:=by
 obtain⟨S,F⟩:=m;have c:=g.cnt e;have:=qb3 h _ (yh _) e g.mt;obtain⟨f,j,d⟩:=qcy h _ (yh _) e;have k:=F.most (j.gr h)
 have p:(ss.filter λu=>!(f u).isSome&&(S.rows u).isSome).length<=(snL f ss).length:=qb7 (e.filter _) λu l=>by
  obtain⟨h1,i⟩:=yp.mp l;show yp.mpr ⟨h1,((yL _ _).mp i).1⟩
 have n:=qbl (f:=f) (ss:=ss);have o:=qbl (f:=pt qs) (ss:=ss);lk
theorem mo_del_le(i:∀ a b,tA tps a b->a≠b)(j:ss.Nodup){v:Str}(hv:v∈ss):mo tps (del ss v).length (del ss v)<=mo tps ss.length ss/\mo tps ss.length ss<=mo tps (del ss v).length (del ss v)+1:=by
 constructor
 .obtain⟨f,d,c⟩:=qcy i _ (yh _) (j.filter (λa=>!decide (a=v)))
  have n:f v=none:=by
   cases e:f v with
   | none=>rfl
   | some b=>show absurd rfl (mem_del.mp (d.inn _ _ e)).2
  have:=qb3 i _ (yh _) j (f:=f) ⟨d.sym,d.tie,λa b e=>(mem_del.mp (d.inn a b e)).1⟩;rw[zS j hv,n] at this;simp only[kQ,xN,ki] at this;have t:qbk f (del ss v)=2*mo tps (del ss v).length (del ss v):=c;lk
 .obtain⟨f,d,c⟩:=qcy i _ (yh _) j;have h:(del ss v).Nodup:=j.filter _;rw[zS j hv] at c
  cases e:f v with
  | none =>
   have:=qb3 i _ (yh _) h (f:=f) ⟨d.sym,d.tie,λa b z=>mem_del.mpr ⟨d.inn a b z,λw=>by rw[w,e] at z;cases z⟩⟩;rw[e] at c;simp at c;lk
  | some y =>
   have m:=d.sym _ _ e;have o:=i _ _ (d.tie _ _ e);have p:y∈del ss v:=mem_del.mpr ⟨d.inn _ _ m,YI o⟩;have:=qb3 i _ (yh _) h (f:=λa=>if a=v\/a=y then none else f a) ⟨λa b z=>?_,λa b z=>?_,λa b z=>?_⟩
   .rw [zS h p,yH (show y=v\/y=y from .inr rfl)] at this;rw[zS h p,e,m,qb1 (g:=λa=>if a=v\/a=y then none else f a) λs r=>?_] at c
    .simp at c this;lk
    .obtain⟨h1,q⟩:=mem_del.mp r;rw[yD (λz=>z.elim (λz=>(mem_del.mp h1).2 z) q)]
   ·(try dsimp only at z ⊢)
    split at z
    .cases z
    .rename_i hne
     have l:=d.sym _ _ z;rw[yD (λw=>?_)]
     .show l
     .rcases w with w | w
      .rw [w,e] at l;show hne (.inr (ym l).symm)
      .rw [w,m] at l;show hne (.inl (ym l).symm)
   ·(try dsimp only at z)
    split at z
    .cases z
    .show d.tie _ _ z
   ·(try dsimp only at z)
    split at z
    .cases z
    .rename_i hne
     show mem_del.mpr ⟨d.inn a b z,λw=>hne (.inl w)⟩
theorem mx_loose(x:∀ a b,tA tps a b->a≠b)(o:ss.Nodup)(g:PGo ss tps qs)(F:Fn (tA tps) (pt qs) S ss){v:Str}(hv:v∈ss):mo tps (del ss v).length (del ss v)=mo tps ss.length ss↔S.rows v≠none:=by
 have cm:=mx_mo x o g ⟨S,F⟩;have c:=g.cnt o;have y:(del ss v).Nodup:=o.filter _;constructor
 .intro e J;obtain⟨f,l,d⟩:=qcy x _ (yh _) y
  have q:f v=none:=by
   cases e:f v with
   | none=>rfl
   | some b=>show absurd rfl (mem_del.mp (l.inn _ _ e)).2
  have U:Mt tps ss f:=⟨l.sym,l.tie,λa b e=>(mem_del.mp (l.inn a b e)).1⟩;have k:=F.most (U.gr x);have Z:qbk f ss=qbk f (del ss v):=by rw[zS o hv,q];rfl
  have e1:=qbl (f:=f) (ss:=ss);have e2:=qbl (f:=pt qs) (ss:=ss);have B:v∈snL f ss:=mem_sn.mpr ⟨hv,q⟩
  have W:(ss.filter λu=>!(f u).isSome&&(S.rows u).isSome).length<=((snL f ss).erase v).length:=qb7 (o.filter _) λu I=>by
   obtain⟨h1,D⟩:=yp.mp I;obtain⟨P,L⟩:=(yL _ _).mp D;show(XA (λz=>by rw[z,J] at L;cases L)).mpr (yp.mpr ⟨h1,P⟩)
  rw[Y4 B] at W;have:=xj B;lk
 .intro G;obtain⟨r,G⟩:=some_of G;have m:=F.fi.alt v r G;show xV (mo_del_le x o hv).1 ?_
  suffices h:∃ f,Mt tps ss f/\f v=none/\qbk f ss=qbk (pt qs) ss by
   obtain⟨f,l,C,K⟩:=h;have:=qb3 x _ (yh _) y (f:=f) ⟨l.sym,l.tie,λa b e=>mem_del.mpr ⟨l.inn a b e,λw=>by rw[w,C] at e;cases e⟩⟩;rw[zS o hv,C] at K;simp only[kQ,xN,ki] at K;lk
  obtain⟨r0,N⟩:=m.tl;have j:r[r.length-1]?=some v:=by rw[N,yu];simp
  have ho:=m.odd;by_cases h1:r.length=1
  .rw [h1] at j;show⟨pt qs,g.mt,m.hd v j,rfl⟩
  .have D:2<=r.length:=by lk
   have lst:∀ s t,r[r.length-1]?=some s->r[r.length-2]?=some t->pt qs s=some t:=λs t A H=>by
    have:=(m.st (r.length-2) t s H (by rw[show r.length-2+1=r.length-1 by lk];show A)).2.mpr (by lk);show g.fn.sym _ _ this
   have T:=qck g.fn.sym m.nd D m.st m.hd λs t A H=>.inr (lst s t A H);obtain⟨f,l⟩:=qfd T;have p:=qfe (ss:=ss) T g.fn (qdf m.st) l;have inn:∀{a b:Str},tA tps a b->a∈ss:=λz=>F.inn _ _ z
   have E:∀ s∈r,s∈ss:=λs A=>by
    obtain⟨i,n⟩:=yf A;have R:=(yc.mp n).1;by_cases O:i+1<r.length
    .show inn (m.st i s _ n (yb O)).1
    .rw [show i=r.length-1 by lk,j] at n;rw[<- ym n];show hv
   obtain⟨u,I⟩:∃ u,r[r.length-2]?=some u:=⟨_,yb (by lk)⟩;obtain⟨a,M⟩:∃ a,r[0]?=some a:=⟨_,yb (by lk)⟩
   have C:f v=none:=by
    cases e:f v with
    | none=>rfl
    | some b =>
     rcases(l v b).mp e with⟨z,_⟩ | ⟨X,Y⟩
     .show absurd (ye j) z
     .rcases X.at_ m.nd j with w | ⟨_,w⟩
      .have:=(yc.mp w).1;lk
      .rw [show r.length-1-1=r.length-2 by lk] at w;show absurd (lst v b j w) Y
   show⟨f,⟨p.sym,p.tie,λa b e=>inn (p.tie a b e)⟩,C,?_⟩;have:=qej T l o E M j;rw[m.hd a M,lst v u j I] at this;simp at this;show this
end
theorem Ud:FnScope wqS wqS (qg qbA):=fS
theorem u8:FnScope wq5 wq5 (qg qaZ):=fS
theorem uc:FnScope ["_law_purse_here","_law_many_here","_law_digit","_law_number"] wy (qg qbB):=fS
theorem Ue:FnScope wqI wqI (qg qbC):=fS
inductive spCe(K:W.Frag)(vs:List V)(H:Hp)(Q:VK)(E:XK):Prop|mk (a:Addr) (ns:LQ) (k:Nat) (_:vs=[.ref a,.int (k:Int)]) (_:SqL K H a (ns.map V.int)) (_:k<1000) (_:∀ i:Int,Q (.int i) H)
def Pu(H:Hp)(p:Addr):Prop:=∃ a b c:Int,H p=some (.lst [.int a,.int b,.int c])/\0<=a/\0<=b/\b<2147483629/\0<=c
inductive spPu(vs:List V)(H:Hp)(Q:VK)(E:XK):Prop|mk (c:Int) (_:vs=[.int c]) (_:∀(p:Addr) (H':Hp),L2.Same H H'->H p=none->Pu H' p->Q (.ref p) H')
inductive spTkP(vs:List V)(H:Hp)(Q:VK)(E:XK):Prop|mk (p:Addr) (m:Nat) (_:vs=[.ref p,.int (m:Int)]) (_:Pu H p) (_:0<m) (_:m<1000) (_:∀(d:Nat) (H':Hp),d<m->But p H H'->Pu H' p->Q (.int (d:Int)) H')
inductive spMyP(vs:List V)(H:Hp)(Q:VK)(E:XK):Prop|mk (p:Addr) (m:Nat) (_:vs=[.ref p,.int (m:Int)]) (_:Pu H p) (_:m<=14) (_:∀(d:Nat) (H':Hp),d<=max 8 m->But p H H'->Pu H' p->Q (.int (d:Int)) H')
theorem But.trans7(a:But p H H1)(b:But p H1 H2):But p H H2:=λc o n e=>b c o n (a c o n e)
theorem But.new7(a:But p H H1)(hl:H1 l=none):But p H (upd H1 l o):=λc u n e=>by
 have:=a c u n e;have ne:c≠l:=λz=>by rw[z,hl] at this;cases this
 rw[qi ne];show this
theorem But.free7(a:But p H H1)(b:l≠p)(hl:H1 l=none):H l=none:=by
 cases e:H l with
 | none=>rfl
 | some o=>rw[a l o b e] at hl;cases hl
abbrev iV(k:Nat):V:=.int (k:Int)
theorem ok_ce(F:Fun K "_law_cell" "_law_cell" qbA f fd)(T:Txt K mg cc cw):wqqb 1 f fd wqS (spCe K):=by
 show F.ok Ud λ_ _ _ _ H vs Q E d h=>?_
 .obtain⟨a,ns,k,rfl,b,h1,q⟩:=h;have e:=za d;show⟨_,(qc (qN (qq qfB (pv 1) (qj (jv (K:=K) rfl) rfl T.b_len Yt (qa (pv 0) qd)) (qB _)) (qe (qr (qu (qv (K:=K) rfl e) (pv 0) (pv 1) (λ_ _=>rfl)))) qw)
 (qe (qr (qp (jp (K:=K) rfl) (qp qbo qf (pv 1)) qf)))),?_⟩
  apply vLenLs b ?_;rw[ya];ext;by_cases c:k<ns.length
  .rw [yz (show(k:Int)<(ns.length:Int) by lk)];show zX ?_;apply .inl (vIxLs b (v:=.int ns[k]) (qt (by rw[yd,yb c];rfl)) ?_);show q _
  .rw [yl (show ¬ (k:Int)<(ns.length:Int) by lk)];show yq ?_;apply qbS (.inl ⟨by decide,by decide⟩) ?_;apply q _
theorem ok_pu(F:Fun K "_law_purse" "_law_purse" qaZ f fd)(T:Txt K mg cc cw):wqqb 1 f fd wq5 spPu:=by
 show F.ok u8 λ_ _ _ _ H vs Q E d h=>?_
 .obtain⟨c,rfl,q⟩:=h;show⟨_,(qe (qr (qz (qa (qj (qaK rfl) rfl T.b_max boot_max (qa qf (qa (qp qaI (pv 0) (qp op_pow qf qf)) qd))) (qa (qp zq (pv 0) qf) (qa qf qd)))))),?_⟩;apply vI ⟨by decide,by decide,by decide⟩ ?_;apply⟨_,_,rfl,?_⟩;apply vI (by decide) ?_;apply⟨wqqf,λp a=>?_⟩;have h1:=XT c (show(2147483629:Int)≠0 by decide);have b:=Xp c (show(0:Int)<2147483629 by decide);show q p _ (qC (Sr H) a) a ⟨_,_,_,qb,by split<;>lk,h1,b,by decide⟩
theorem ok_tkp(F:Fun K "_law_take" "_law_take" qbB f fd)(T:Txt K mg cc cw):wqqb 1 f fd wy spTkP:=by
 show F.ok uc λ_ _ _ _ H vs Q E R h=>?_
 .obtain⟨p,m,rfl,⟨a,b,c,I,A,hb,j,hc⟩,U,h1,q⟩:=h;have g:=za R;have l:(0:Int)<(m:Int):=by lk
  show⟨_,(qc (jK (qp (jp (K:=K) rfl) (qu (qv (K:=K) rfl g) (pv 0) qf (λ_ _=>rfl)) qf) (jJ (pv 0) qf (jN g)))
 (qc (qN (qq qge (qu (qv (K:=K) rfl g) (pv 0) qf (λ_ _=>rfl)) qf (qB _)) (qc (qk (i:=2) uc.nd rfl (yF rfl) (qp zq (qu (qv (K:=K) rfl g) (pv 0) qf (λ_ _=>rfl)) (pv 1)))
 (qc (jK (qp qeK (qu (qv (K:=K) rfl g) (pv 0) qf (λ_ _=>rfl)) (pv 1)) (jJ (pv 0) qf (jN g)))
 (qe (qr (pv 2))))) qw)
 (qc (qk (i:=3) uc.nd rfl (yF rfl) (qp zq (qp (jp (K:=K) rfl) (qp (jp (K:=K) rfl) (qp qbo (qu (qv (K:=K) rfl g) (pv 0) qf (λ_ _=>rfl)) qf) (qp qbo qf (qu (qv (K:=K) rfl g) (pv 0) qf (λ_ _=>rfl)))) qf) qf))
 (qc (qk (i:=3) uc.nd rfl (yF rfl) (qp zq (qp qbo (pv 3) (pv 3)) qf))
 (qc (qk (i:=3) uc.nd rfl (yF rfl) (qp zq (qp qbo (qp (jp (K:=K) rfl) (pv 3) (qp qbo qf (qu (qv (K:=K) rfl g) (pv 0) qf (λ_ _=>rfl)))) qf) qf))
 (qe (qr (qp zq (qp qeK (qp zq (qp qbo (pv 3) (pv 3)) qf) qf) (pv 1))))))))),?_⟩
  apply .inl (zo I rfl ?_);apply .inl (qeE I rfl ?_);have y:But p H (upd H p (.lst [.int a,.int b,.int (c+1)])):=λx o n e=>by rw[qi n];show e
  have d:upd H p (.lst [.int a,.int b,.int (c+1)]) p=some (.lst [.int a,.int b,.int (c+1)]):=qb;have M:upd H p (.lst (([V.int a,.int b,.int c]).set (2:Int).toNat (.int (c+1))))=upd H p (.lst [.int a,.int b,.int (c+1)]):=rfl;ext;rw[M];generalize upd H p (.lst [.int a,.int b,.int (c+1)])=H1 at y d;show .inl (zo d rfl ?_);apply qL (λN=>?_) (λN=>?_)
  .ext;show .inl (zo d rfl ?_);apply vI l ?_;apply .inl (zo d rfl ?_);apply vI ⟨l,by lk⟩ ?_;apply .inl (qeE d rfl ?_);ext;have J:=XT a (show(m:Int)≠0 by lk);have L:=Xp a l;have z:a % (m:Int)=(((a % (m:Int)).toNat:Nat):Int):=by lk
   rw[z];show q _ _ (by lk) (λx o n e=>by rw[qi n];show y x o n e) ⟨_,_,_,qb,Int.ediv_nonneg A (by lk),hb,j,by lk⟩
  .ext;show .inl (zo d rfl ?_);apply qbS (.inr ⟨by decide,by decide⟩) ?_;apply .inl (zo d rfl ?_);apply qbS (.inl ⟨by decide,by decide⟩) ?_;apply vI (by decide) ?_;ext;generalize r:(b*48271+7919*(c+1)+11) % 2147483647=t;have B:0<=t:=by rw[<- r];show XT _ (by decide)
   have C:t<2147483647:=by rw[<- r];show Xp _ (by decide)
   show qbS (.inl ⟨by lk,by lk⟩) ?_;apply vI (by decide) ?_;ext;generalize O:t*t % 2147483629=S;show .inl (zo d rfl ?_);apply qbS (.inl ⟨by decide,by decide⟩) ?_;apply qbS (.inr ⟨by decide,by decide⟩) ?_;apply vI (by decide) ?_;ext;generalize s:(S+31*(c+1))*69621 % 2147483587=u;have D:0<=u:=by rw[<- s];show XT _ (by decide)
   have G:u<2147483587:=by rw[<- s];show Xp _ (by decide)
   show qbS (.inl ⟨by lk,by lk⟩) ?_;apply vI (by decide) ?_;apply vI ⟨by decide,by decide⟩ ?_;apply vI l ?_;generalize u*u % 2147483579 / 8=v;have J:=XT v (show(m:Int)≠0 by lk);have L:=Xp v l;have z:v % (m:Int)=(((v % (m:Int)).toNat:Nat):Int):=by lk
   rw[z];show q _ _ (by lk) y ⟨_,_,_,d,A,hb,j,by lk⟩
theorem ok_my(F:Fun K "_law_many" "_law_many" qbC f fd)(T:Txt K mg cc cw)(A:wq9 1 "_law_take" wy spTkP):wqqb 2 f fd wqI spMyP:=by
 show F.ok Ue λ_ _ _ _ H vs Q E s h=>?_
 .obtain⟨p,m,rfl,N,W,q⟩:=h;have R:=za s;show⟨_,(qe (qr (qo A (hmR s) qy (qa (pv 0) (qa (qu (qv (K:=K) rfl R) (qz (qa qf (qa qf (qa qf (qa qf (qa qf (qa qf (qa qf (qa (qp (jp (K:=K) rfl) (pv 1) qf) qd))))))))) (qo A (hmR s) qy (qa (pv 0) (qa qf qd))) (λ_ _=>rfl)) qd))))),?_⟩;ext;obtain⟨a,b,c,G,t⟩:=id N;show⟨by show 8<=sizeLine;decide,λe g=>?_⟩;have j:p≠e:=λz=>by rw[<- z,G] at g;cases g
  obtain⟨xs,i⟩:∃ xs:LN,xs=[3,5,7,8,8,9,9,m+1]:=⟨_,rfl⟩;have B:But p H (upd H e (.lst (xs.map iV))):=But.new7 (λx o _ z=>z) g;have D:upd H e (.lst (xs.map iV)) e=some (.lst (xs.map iV)):=qb;have hB1:Pu (upd H e (.lst (xs.map iV))) p:=⟨a,b,c,by rw[qi j];show G,t⟩;have M:upd H e (.lst [V.int 3,.int 5,.int 7,.int 8,.int 8,.int 9,.int 9,.int ((m:Int)+1)])=upd H e (.lst (xs.map iV)):=by rw[i];rfl
  have u:∀ x∈xs,0<x/\x<=max 8 m+1:=λx l=>by
   rw[i] at l;simp only[yv,yQ,Yw] at l;lk
  have S:xs.length=8:=by rw[i];rfl
  rw[M];generalize upd H e (.lst (xs.map iV))=H1 at B D hB1;apply⟨p,8,rfl,hB1,by decide,by decide,λd H2 U C n=>?_⟩;obtain⟨x,l⟩:∃ x,xs[d]?=some x:=⟨_,yb (by lk)⟩;have y:=u x (ye l);show .inl (zo (C _ _ j.symm D) (v:=iV x) (qt (by rw[yd,l];rfl)) ?_);apply⟨p,x,rfl,n,y.1,by lk,λL I O J r=>q L I (by lk) ((B.trans7 C).trans7 J) r⟩
theorem KH:FnScope wqh wy (qg qai):=fS
theorem qaE{X:L2.Cx}{st:List PySem.Stmt}{t:L2.TS}(t':L2.TS)(h:L2.PSs X st t)(k:∀ D b H,t' D b H->t D b H):L2.PSs X st t':=λa s b H D I q=>h a s b H D I (k D b H q)
def stepsJ:LN:=[1,3,5,7,9,11]
def cJ(first step j:Nat):Nat:=97+(first+step*j) % 26
theorem cJ_sg(first step j:Nat):sg (cJ first step j)=true:=by unfold cJ;show qgN (by lk) (by lk)
theorem qf6{step:Nat}(a:step∈stepsJ){k:Nat}(b:j<14)(c:k<14)(e:cJ first step j=cJ first step k):j=k:=by
 unfold cJ at e;simp only[stepsJ,yv,yQ,Yw] at a;rcases a with rfl | rfl | rfl | rfl | rfl | rfl<;>lk
def NmJ(a first step j:Nat)(s:Str):Prop:=jD s=true/\if a=2 then s.cps.toList.head?=some (cJ first step j) else s.cps.toList.getLast?=some (cJ first step j)
theorem NmJ.inj{a step:Nat}(f:step∈stepsJ){k:Nat}(d:j<14)(e:k<14)(h:NmJ a first step j s)(g:NmJ a first step k s):j=k:=by
 have c:=h.2;have b:=g.2;by_cases hw:a=2
 .rw [yH hw] at c b;rw[c] at b;show qf6 f d e (ym b)
 .rw [yD hw] at c b;rw[c] at b;show qf6 f d e (ym b)
theorem jA(a b:Int):(if false=true then !eqV (V.int a) (V.int b) else eqV (V.int a) (V.int b))=decide (a=b):=by
 rw[yD (by decide)];unfold eqV;by_cases h:a=b<;>simp[h]
inductive spNmJ(vs:List V)(H:Hp)(Q:VK)(E:XK):Prop|mk (p:Addr) (m:Nat) (_:vs=[.ref p,.int (m:Int)]) (_:Pu H p) (_:m<=14) (_:∀(l:Addr) (ss:LS) (H':Hp),But p H H'->Pu H' p->H l=none->l≠p->H' l=some (.lst (ss.map V.str))->NOk ss->ss.length=m->Q (.ref l) H')
theorem Pu.new(h:Pu H p)(hl:H l=none):Pu (upd H l o) p:=by
 obtain⟨a,b,c,e,r⟩:=h;have ne:p≠l:=λz=>by rw[<- z,e] at hl;cases hl
 show⟨a,b,c,by rw[qi ne];show e,r⟩
theorem Pu.apart(h:Pu H p)(hl:H l=none):l≠p:=λz=>by obtain⟨a,b,c,e,r⟩:=h;rw[z,e] at hl;cases hl
theorem ok_nmJ(F:Fun K "_law_names" "_law_names" qai f fd)(T:Txt K mg cc cw)(Kz:wq9 1 "_law_take" wy spTkP):wqqb 2 f fd wy spNmJ:=by
 show F.ok KH λ_ _ _ s H vs Q E hr h=>?_
 .obtain⟨p,m,rfl,hB,hm,q⟩:=h;have hu:=za hr;obtain⟨TC5,U⟩:∃ t:TS,t=λD σ H'=>(∀ u H',Q u H'->D.rt u H')/\∃(x7 W X:Option V) (b first step:Nat) (a:Str),σ=[some (.ref p),some (.int (m:Int)),some (.str L26),some (.int (first:Int)),some (.int (step:Int)),some (.int (b:Int)),some (.str a),x7,W,X]/\But p H H'/\Pu H' p/\step∈stepsJ/\a.length=5/\a.cps.toList.all sg=true:=⟨_,rfl⟩;show⟨_,(qc (qk (i:=2) KH.nd rfl (Xg rfl) qI)
 (qc (qk (i:=3) KH.nd rfl (yF rfl) (qo Kz (hmR hr) qy (qa (pv 0) (qa qf qd))))
 (qc (qk (i:=4) KH.nd rfl (yF rfl) (qu (qv (K:=K) rfl hu) (qz (qa qf (qa qf (qa qf (qa qf (qa qf (qa qf qd))))))) (qo Kz (hmR hr) qy (qa (pv 0) (qa qf qd))) (λ_ _=>rfl)))
 (qc (qk (i:=5) KH.nd rfl (yF rfl) (qo Kz (hmR hr) qy (qa (pv 0) (qa qf qd))))
 (qc (qk (i:=6) KH.nd rfl (yF rfl) (qcg (K:=K) rfl PySem.F.plainAttrs_str PySem.F.slot_str_join PySem.F.type_str_join (k_join (K:=K) rfl) qI (qa (jh (sc:=qg qai) (XN:=wqh) wqZ 1 [2,0] rfl rfl rfl (by room) rfl (by room)
  (qT rfl T.b_range (qa qf qd)) (λ_ _ _ _=>(qm (i:=0) (show(wqZ:LS).Nodup by room) rfl (yF rfl))) qF
  (λ_ _ _ _=>jW)
  (λ_ _ _ _=>(qu (qv (K:=K) rfl hu) (pv 1) (qo Kz (hmR hr) qy (qa (pv 2) (qa qf qd))) (λ_ _=>rfl)))) qd)))
 (qaE TC5 (qc (qk (i:=7) KH.nd rfl (yF rfl) (qz qd))
 (qc (qR yW rfl (qT rfl T.b_range (qa (pv 1) qd)) (qm (i:=8) KH.nd rfl (yF rfl))
 (qc (qk (i:=9) KH.nd rfl (yF rfl) (qu (qv (K:=K) rfl hu) (pv 2) (qp zq (qp (jp (K:=K) rfl) (pv 3) (qp qbo (pv 4) (pv 8))) qf) (λ_ _=>rfl)))
 (qe (qN (qq (jS (K:=K) rfl hu) (pv 5) qf (qB _)) (qe (qW (qcg (K:=K) rfl yV Yb Yc qG (pv 7) (qa (pv 9) qd)))) (qe (qN (qq (jS (K:=K) rfl hu) (pv 5) qf (qB _)) (qe (qW (qcg (K:=K) rfl yV Yb Yc qG (pv 7) (qa (qp (jp (K:=K) rfl) (jo (qeF (K:=K) rfl) (pv 6) jT (jM qf)) (pv 9)) qd)))) (qe (qN (qq (jS (K:=K) rfl hu) (pv 5) qf (qB _)) (qe (qW (qcg (K:=K) rfl yV Yb Yc qG (pv 7) (qa (qp (jp (K:=K) rfl) (pv 9) (jo (qeF (K:=K) rfl) (pv 6) jT (jM (qp zq (pv 8) qf)))) qd)))) (qe (qW (qcg (K:=K) rfl yV Yb Yc qG (pv 7) (qa (qp (jp (K:=K) rfl) (jo (qeF (K:=K) rfl) (pv 6) jT (jM (qp zq (pv 8) qf))) (pv 9)) qd))))))))))))
 (qe (qr (pv 7))))) ?cut5)))))),?_⟩
  case cut5 =>
   intro D σ H1 h;rw[U] at h;obtain⟨hD,x7,W,X,b,first,step,a,rfl,b1,hB1,M,g,y⟩:=h;have lS:a.cps.toList.length=5:=by rw[<- g];simp[Str.length]
   have ac:∀ k,(a.cps.toList.take k).all sg=true:=λk=>Yr.mpr λc hc=>Yr.mp y c (XC hc)
   have af:∀ k:Nat,(Txt.slice a none (some (k:Int))).length=min k 5:=λk=>by
    have:(Txt.slice a none (some (k:Int))).length=(Txt.slice a none (some (k:Int))).cps.toList.length:=by simp[Str.length]
    rw[this,qbf,yK,lS]
   have as:0<step/\step<=11:=by
    have h:=M;simp only[stepsJ,yv,yQ,Yw] at h;lk
   apply⟨wqqc,λl hl=>?_⟩;have ae:=hB1.apart hl;apply⟨(m:Int),rfl,by lk,by lk,?_⟩;rw[yS];show jL (lo:=0) (n:=m) (λi σ H'=>∃(ss:LS) (W X:Option V),σ=[some (.ref p),some (.int (m:Int)),some (.str L26),some (.int (first:Int)),some (.int (step:Int)),some (.int (b:Int)),some (.str a),some (.ref l),W,X]/\H'=upd H1 l (.lst (ss.map V.str))/\ss.length=i/\∀(j:Nat) s,ss[j]?=some s->NmJ b first step j s) ⟨[],_,_,rfl,rfl,rfl,λj s h=>by simp at h⟩ (λi σ H' hi hp=>?_) fun σ H' hp=>?_
   .obtain⟨ss,W,X,rfl,rfl,I,L⟩:=hp;have A:upd H1 l (.lst (ss.map V.str)) l=some (.lst (ss.map V.str)):=qb;rw[xi];apply qbS (.inl ⟨by lk,by lk⟩) ?_;apply vI (by decide) ?_;have ec:((first:Int)+(step:Int)*(i:Int)) % 26=(((first+step*i) % 26:Nat):Int):=by lk
    rw[ec];show .inl (qhs (by room) (qf4 (by lk) (by lk)) ?_);rw[yS];have ak:97+(first+step*i) % 26=cJ first step i:=rfl;rw[ak];have N:=cJ_sg first step i;generalize R:cJ first step i=B at N
    have O:∀(s:Str),NmJ b first step i s->∃(aa:LS) (W X:Option V),[some (V.ref p),some (.int (m:Int)),some (.str L26),some (.int (first:Int)),some (.int (step:Int)),some (.int (b:Int)),some (.str a),some (.ref l),some (.int (i:Int)),some (V.str ⟨#[B]⟩)]=[some (.ref p),some (.int (m:Int)),some (.str L26),some (.int (first:Int)),some (.int (step:Int)),some (.int (b:Int)),some (.str a),some (.ref l),W,X]/\upd (upd H1 l (.lst (ss.map V.str))) l (.lst (ss.map V.str++[.str s]))=upd H1 l (.lst (aa.map V.str))/\aa.length=i+1/\∀(j:Nat) s,aa[j]?=some s->NmJ b first step j s:=λs hs=>by
     show⟨ss++[s],_,_,rfl,?_,by rw[yu,I];rfl,λj s' G=>?_⟩
     .rw [yt];funext c;by_cases hc:c=l
      .subst hc;rw[qb,qb];rfl
      .rw [qi hc,qi hc,qi hc]
     .by_cases al:j<ss.length
      .rw [Yi al] at G;show L j s' G
      .rw [yY (by lk)] at G
       have e0:j-ss.length=0:=by
        have:=(yc.mp G).1;simp only[yx,Yv] at this;lk
       rw[e0] at G;cases G;have:j=i:=by lk
       rw[this];show hs
    have C:(ss.map V.str).length<sizeLine:=by rw[ya];show qh (by lk)
    apply .inl (.inl (.inl ⟨rfl,rfl,?_⟩));rw[jA];apply qL (λh=>?_) (λh=>?_)
    .have hw:(b:Int)=0:=yk h;apply⟨.inl ⟨rfl,_,.of A⟩,?_⟩;apply⟨l,_,_,rfl,rfl,A,C,?_⟩;show O _ ⟨qby rfl (by simp) (by simp) (by simp[N]),?_⟩;rw[yD (by lk),R];rfl
    .have au:(b:Int)≠0:=λe=>h (yz e);apply .inl (.inl (.inl ⟨rfl,rfl,?_⟩));rw[jA];apply qL (λh=>?_) (λh=>?_)
     .have hw:(b:Int)=1:=yk h;apply⟨.inl ⟨rfl,_,.of A⟩,?_⟩;apply qhc (yi (kg g) (by decide)) ?_;have h2:=af 2;have t2:=qbf a 2;rw[show((2:Nat):Int)=2 from rfl] at h2 t2;apply qgh (by rw[h2];show _+1<=sizeLine;show yN (qh (by lk))) ?_;apply⟨l,_,_,rfl,rfl,A,C,?_⟩;have S:(Txt.slice a none (some 2)++(⟨#[B]⟩:Str)).cps.toList=a.cps.toList.take 2++[B]:=by rw[qaX,t2]
      show O _ ⟨qby S (by simp) (by simp[lS]) (by rw[kH,ac];simp[N]),?_⟩;rw[yD (by lk),R,S,Xz];rfl
     .have av:(b:Int)≠1:=λe=>h (yz e);apply .inl (.inl (.inl ⟨rfl,rfl,?_⟩));rw[jA];ext;have e6:(i:Int) % 6=((i % 6:Nat):Int):=by lk
      have h6:=af (i % 6);have t6:=qbf a (i % 6);show qL (λh=>?_) (λh=>?_)
      .have hw:(b:Int)=2:=yk h;apply⟨.inl ⟨rfl,_,.of A⟩,?_⟩;apply vI (by decide) ?_;apply qhc (yi (kg g) (by decide)) ?_;rw[e6];show qgh (by rw[h6];show 1+_<=sizeLine;show yN (qh (by lk))) ?_;apply⟨l,_,_,rfl,rfl,A,C,?_⟩;have S:((⟨#[B]⟩:Str)++Txt.slice a none (some ((i % 6:Nat):Int))).cps.toList=B::a.cps.toList.take (i % 6):=by rw[qaX,t6];rfl
       show O _ ⟨qby S (by simp) (by simp[lS];lk) (by rw[ky,ac,N];rfl),?_⟩;rw[yH (by lk),R,S];rfl
      .have aw:(b:Int)≠2:=λe=>h (yz e);apply⟨.inl ⟨rfl,_,.of A⟩,?_⟩;apply vI (by decide) ?_;apply qhc (yi (kg g) (by decide)) ?_;rw[e6];apply qgh (by rw[h6];show _+1<=sizeLine;show yN (qh (by lk))) ?_;apply⟨l,_,_,rfl,rfl,A,C,?_⟩;have S:(Txt.slice a none (some ((i % 6:Nat):Int))++(⟨#[B]⟩:Str)).cps.toList=a.cps.toList.take (i % 6)++[B]:=by rw[qaX,t6]
       show O _ ⟨qby S (by simp) (by simp[lS];lk) (by rw[kH,ac];simp[N]),?_⟩;rw[yD (by lk),R,S,Xz];rfl
   .obtain⟨ss,W,X,rfl,rfl,I,L⟩:=hp;apply hD _ _ (q l ss _ (b1.new7 hl) (hB1.new hl) (b1.free7 ae hl) ae qb ⟨by lk,nodup_key λj k s G hk=>?_,λs hs=>?_⟩ I)
    .have ap:j<ss.length:=(yc.mp G).1;have aq:k<ss.length:=(yc.mp hk).1;show NmJ.inj M (by lk) (by lk) (L j s G) (L k s hk)
    .obtain⟨j,G⟩:=yf hs;show(L j s G).1
  apply⟨p,26,rfl,hB,by decide,by decide,λfirst H1 hf b1 hB1=>?_⟩;apply⟨by show 6<=sizeLine;decide,λm2 Z=>?_⟩;have am:=hB1.apart Z;have b2:=b1.new7 (o:=.lst (stepsJ.map iV)) Z;have em:upd H1 m2 (.lst (stepsJ.map iV)) m2=some (.lst (stepsJ.map iV)):=qb;have ad:Pu (upd H1 m2 (.lst (stepsJ.map iV))) p:=hB1.new Z;have eu:upd H1 m2 (.lst [V.int 1,V.int 3,V.int 5,V.int 7,V.int 9,V.int 11])=upd H1 m2 (.lst (stepsJ.map iV)):=rfl;rw[eu];generalize upd H1 m2 (.lst (stepsJ.map iV))=H2 at b2 em ad;apply⟨p,6,rfl,ad,by decide,by decide,λd H3 hd b3 ah=>?_⟩;obtain⟨st,M⟩:∃ st,stepsJ[d]?=some st:=⟨_,yb hd⟩;show .inl (zo (b3 _ _ am em) (v:=iV st) (qt (by rw[yd,M];rfl)) ?_);apply⟨p,4,rfl,ah,by decide,by decide,λb H4 hw b4 ai=>?_⟩;have ag:=(b2.trans7 b3).trans7 b4;apply⟨rfl,?_⟩;apply⟨5,rfl,by decide,by decide,jG (lo:=0) (n:=5) (λi ys J=>But p H J/\Pu J p/\∃ xs:LS,ys=xs.map V.str/\xs.length=i/\∀ x∈xs,x.length=1/\x.cps.toList.all sg=true) ⟨ag,ai,[],rfl,rfl,λ_ h=>by cases h⟩ (λi ys J hi hs=>?_) λys J hs=>?_⟩
  .obtain⟨bJ,Y,xs,rfl,ao,an⟩:=hs;apply zX ?_;apply⟨p,26,rfl,Y,by decide,by decide,λr J2 ar b5 aj=>?_⟩;show .inl (qhs (by room) (qf4 (by lk) (by lk)) ?_);show⟨by rw[ya];show qh (by lk),bJ.trans7 b5,aj,xs++[_],by rw[yt];rfl,by rw[yu,ao];rfl,λx hx=>?_⟩;rcases yG.mp hx with z | z
   .show an x z
   .rw [yC.mp z];show⟨rfl,?_⟩;have:=qgN (c:=97+r) (by lk) (by lk);simp[this]
  .obtain⟨bJ,Y,zs,rfl,hn,h1⟩:=hs;show⟨by rw[ya,hn];decide,λl5 h5=>?_⟩;apply⟨_,l5,zs,rfl,rfl,SqL.of qb,by rw[sum_ones λx hx=>(h1 x hx).1,show("":Str).length=0 by room];lk,?_⟩;have g:(Txt.join "" zs).length=5:=by rw[join_len λx hx=>(h1 x hx).1];lk
   have y:(Txt.join "" zs).cps.toList.all sg=true:=by
    have e:Txt.join "" zs=Str.join "" zs:=Ym.mp (join_plain_closes "" zs);rw[e];show qef λx hx=>(h1 x hx).2
   generalize Txt.join "" zs=a at g y ⊢;ext;rw[U];show⟨λ_ _ z=>z,_,_,_,b,first,st,a,rfl,bJ.new7 h5,Y.new h5,ye M,g,y⟩
theorem KW:FnScope ["_law_purse_here","_law_many_here","_law_way","_law_thin","_law_found","_law_d","_law_k","_law_pair"] wy (qg qbD):=fS
abbrev iT(q:Nat×Nat):HO:=.tup [.int (q.1:Int),.int (q.2:Int)]
def IPL(H:Hp)(l:Addr)(ts:LI)(TI:List (Nat×Nat)):Prop:=H l=some (.lst (ts.map V.ref))/\All2 (λt q=>H t=some (iT q)) ts TI
theorem IPL.same{TI:List (Nat×Nat)}(h:IPL H l ts TI)(s:L2.Same H H'):IPL H' l ts TI:=⟨s _ _ h.1,h.2.mono λ_ _ z=>s _ _ z⟩
theorem qgm{a:TA}{b:L2.St}{R:It->Hp->Prop}(h:a b H λvs H1=>∃ i j:Int,vs=[.int i,.int j]/\(-(2 ^ 62)<=i/\i<2 ^ 62/\-(2 ^ 62)<=j/\j<2 ^ 62)/\R (Itr i (j-i).toNat) H1):qgw a b H R:=h
theorem qav{i j:Int}{Q:VK}(q:Q (.bl (decide (i=j))) H):qgZ K (.int i) (.int j) H Q:=.inl (.inl (.inl ⟨rfl,rfl,by rw[jA];show q⟩))
theorem qff(h:some (iT q')=some (iT q)):q'=q:=by
 injection h with h
 injection h with h
 injection h with h1 h2
 injection h1 with h1
 injection h2 with h2 _
 injection h2 with h2
 show Xf (by lk) (by lk)
theorem ipair_eqD{b:Addr}(hb:H b=some (iT q'))(f:H a=some (iT q)):EqD K H 1 (.ref b) (.ref a) (decide (q'=q)):=by
 by_cases e:b=a
 .subst e;rw[hb] at f;have:q'=q:=qff f;rw[yz this];show .self
 .have z:=EqT.tup (K:=K) (H:=H) (n:=0) (e:=λj=>if j=0 then eqV (iV q'.1) (iV q.1) else eqV (iV q'.2) (iV q.2)) (SqT.of hb) (SqT.of f) λj x y c d=>by
   match j,c,d with
   | 0,c,d=>cases c;cases d;show .flat rfl rfl
   | 1,c,d=>cases c;cases d;show .flat rfl rfl
   | n+2,c,d=>simp at c
  have l:((List.range (min [iV q'.1,iV q'.2].length [iV q.1,iV q.2].length)).all (λj=>if j=0 then eqV (iV q'.1) (iV q.1) else eqV (iV q'.2) (iV q.2))&&[iV q'.1,iV q'.2].length==[iV q.1,iV q.2].length)=decide (q'=q):=by
   have g:eqV (iV q'.1) (iV q.1)=decide (q'.1=q.1):=by
    have:=jA (q'.1:Int) (q.1:Int);rw[yD (by decide)] at this;rw[this];show Yo.mpr (by lk)
   have i:eqV (iV q'.2) (iV q.2)=decide (q'.2=q.2):=by
    have:=jA (q'.2:Int) (q.2:Int);rw[yD (by decide)] at this;rw[this];show Yo.mpr (by lk)
   show((if (0:Nat)=0 then eqV (iV q'.1) (iV q.1) else eqV (iV q'.2) (iV q.2))&&((if (1:Nat)=0 then eqV (iV q'.1) (iV q.1) else eqV (iV q'.2) (iV q.2))&&true)&&true)=_;rw[yH rfl,yD (by decide),g,i,Bool.and_true,Bool.and_true];rw[Yu,yL,yJ,yJ,yJ];show⟨λh=>Xf h.1 h.2,λh=>by rw[h];show⟨rfl,rfl⟩⟩
  rw[l] at z;show .deep z e
theorem ipl_nin{TI:List (Nat×Nat)}{c:Nat×Nat}{Q:VK}(h:IPL H l ts TI)(o:H a=some (iT c))(q:Q (.bl (!decide (c∈TI))) H):qf2 K true (.ref a) (.ref l) H Q:=by
 classical
 show .inr (.inr ⟨l,ts.map V.ref,λz=>decide (∃ t,z=.ref t/\H t=some (iT c)),1,rfl,SqL.of h.1,by decide,λz j=>?_,?_⟩)
 .obtain⟨b,hb,rfl⟩:=yB.mp j;obtain⟨q',_,r⟩:=h.2.mem hb;have e:=ipair_eqD (K:=K) r o
  have n:decide (∃ t,V.ref b=.ref t/\H t=some (iT c))=decide (q'=c):=by
   apply Yo.mpr;constructor
   .rintro ⟨t,g,d⟩;cases g;rw[r] at d;show qff d
   .rintro rfl;show⟨b,rfl,r⟩
  show EqD K H 1 (.ref b) (.ref a) (decide (∃ t,V.ref b=.ref t/\H t=some (iT c)));rw[n];show e
 .have e:((ts.map V.ref).any λz=>decide (∃ t,z=.ref t/\H t=some (iT c)))=decide (c∈TI):=by
   rw[Yu,YV,yJ];constructor
   .rintro ⟨z,j,e⟩;obtain⟨t,s,rfl⟩:=yB.mp j;obtain⟨q',i,r⟩:=h.2.mem s;obtain⟨t',g,d⟩:=yk e;cases g;rw[r] at d;have:q'=c:=qff d;rw[<- this];show i
   .intro p;obtain⟨k,m,e⟩:=XJ p;have f:k<ts.length:=by rw[h.2.len];show m
    have r:=h.2.at_ k ts[k] TI[k] (yb f) (yb m);show⟨.ref ts[k],yB.mpr ⟨_,Xj f,rfl⟩,yz ⟨ts[k],rfl,by rw[r,e]⟩⟩
  rw[yH rfl,e];show q
def TJ(m:Nat)(TI:List (Nat×Nat)):Prop:=TI.length<=30/\(∀ q∈TI,q.1<q.2/\q.2<m)/\TI.Nodup
inductive spTsJ(vs:List V)(H:Hp)(Q:VK)(E:XK):Prop|mk (p:Addr) (m:Nat) (_:vs=[.ref p,.int (m:Int)]) (_:Pu H p) (_:m<=14) (_:∀(l:Addr) (ts:LI) (TI:List (Nat×Nat)) (H':Hp),But p H H'->Pu H' p->H l=none->l≠p->IPL H' l ts TI->TJ m TI->Q (.ref l) H')
theorem IPL.butJ{TI:List (Nat×Nat)}(h:IPL H l ts TI)(b:But p H H')(d:Pu H p)(hl:l≠p):IPL H' l ts TI:=
 ⟨b _ _ hl h.1,h.2.mono λt q z=>b _ _ (λe=>by obtain⟨x,y,c,a,_⟩:=d;rw[e,a] at z;cases z) z⟩
theorem ok_tsJ(F:Fun K "_law_ties" "_law_ties" qbD f fd)(T:Txt K mg cc cw)(Kz:wq9 1 "_law_take" wy spTkP):wqqb 2 f fd wy spTsJ:=by
 show F.ok KW λ_ _ _ _ H vs Q E hr h=>?_
 .obtain⟨p,m,rfl,hB,hm,q⟩:=h;have hu:=za hr;obtain⟨TC102,hTC102⟩:∃ t0:TS,t0=λD X J=>∃(l t:Addr) (B j:Nat) (vd vk:Int) (ts:LI) (TI:List (Nat×Nat)) (M:Nat×Nat),X=[some (.ref p),some (.int (m:Int)),some (.int (B:Int)),some (.int (j:Int)),some (.ref l),some (.int vd),some (.int vk),some (.ref t)]/\But p H J/\Pu J p/\H l=none/\l≠p/\IPL J l ts TI/\TJ m TI/\J t=some (iT M)/\M.2<m/\0<j/\j<=4 /\
   ∀(J':Hp) (W:LI) (L:List (Nat×Nat)),But p H J'->Pu J' p->IPL J' l W L->TJ m L->D.nx [some (.ref p),some (.int (m:Int)),some (.int (B:Int)),some (.int (j:Int)),some (.ref l),some (.int vd),some (.int vk),some (.ref t)] J':=⟨_,rfl⟩
  show⟨_,(qc (qk (i:=2) KW.nd rfl (yF rfl) (qo Kz (hmR hr) qy (qa (pv 0) (qa qf qd))))
 (qc (qk (i:=3) KW.nd rfl (yF rfl) (qu (qv (K:=K) rfl hu) (qz (qa qf (qa qf (qa qf (qa qf (qa qf (qa qf qd))))))) (qo Kz (hmR hr) qy (qa (pv 0) (qa qf qd))) (λ_ _=>rfl)))
 (qc (qk (i:=4) KW.nd rfl (yF rfl) (qz qd))
 (qc (qR yW rfl (qbK rfl T.b_range (qa qf (qa (pv 1) qd))) (qm (i:=5) KW.nd rfl (yF rfl))
 (qe (qR yW rfl (qT rfl T.b_range (qa (qp qaI (pv 1) (pv 5)) qd)) (qm (i:=6) KW.nd rfl (yF rfl))
 (qc (qk (i:=7) KW.nd rfl (yF rfl) (qu (qv (K:=K) rfl hu) (qz (qa (jg (qa (pv 6) (qa (qp (jp (K:=K) rfl) (pv 6) (pv 5)) qd))) (qa (jg (qa (qp qaI (pv 5) qf) (qa (qp (jp (K:=K) rfl) (pv 5) (pv 6)) qd))) (qa (jg (qa (qp zq (pv 5) qf) (qa (qp (jp (K:=K) rfl) (pv 6) (pv 5)) qd))) (qa (jg (qa (pv 6) (qa (qp (jp (K:=K) rfl) (pv 6) (pv 5)) qd))) qd))))) (pv 2) (λ_ _=>rfl)))
 (qc (qN (qq (jS (K:=K) rfl hu) (pv 2) qf (qB _)) (qe (qk (i:=7) KW.nd rfl (yF rfl) (jg (qa (qo Kz (hmR hr) qy (qa (pv 0) (qa (pv 5) qd))) (qa (pv 5) qd))))) qw)
 (qaE TC102 (qe (qN (PW.pt (qb9 (qq qfB (qu (qv (K:=K) rfl hu) (pv 7) qf (λ_ _=>rfl)) (qu (qv (K:=K) rfl hu) (pv 7) qf (λ_ _=>rfl)) (qB _)) (qb9 (qq (zQ (K:=K) rfl hu) (pv 7) (pv 4) (by with_unfolding_all rfl)) (qb9 (qq qfB (qj (jv (K:=K) rfl) rfl T.b_len Yt (qa (pv 4) qd)) qf (qB _)) (qco (qq (jS (K:=K) rfl hu) (qo Kz (hmR hr) qy (qa (pv 0) (qa (pv 3) qd))) qf (qB _))))))) (qe (qW (qcg (K:=K) rfl yV Yb Yc qG (pv 4) (qa (pv 7) qd)))) qw)) ?cut102))))))
 (qe (qr (pv 4))))))),?_⟩
  case cut102 =>
   intro D X J h;rw[hTC102] at h;obtain⟨l,t,B,j,vd,vk,ts,TI,M,rfl,N,A,U,C,G,s,ht,hq,bj,bo,nx⟩:=h;apply .inl (.inr (.inl ⟨t,_,_,_,rfl,rfl,SqT.of ht,rfl,?_⟩));apply .inl (.inr (.inl ⟨t,_,_,_,rfl,rfl,SqT.of ht,rfl,?_⟩));apply qL (λh1=>?_) (λh1=>?_)
   .have aw:M.1<M.2:=by have:=yk h1;lk
    apply ipl_nin G ht ?_;apply qL (λh2=>?_) (λh2=>?_)
    .have ax:M∉TI:=by simpa using h2
     apply j6 G.1 ?_;rw[ya,G.2.len];apply qL (λh3=>?_) (λh3=>?_)
     .have bm:TI.length<30:=by have:=yk h3;lk
      apply⟨p,j,rfl,A,bj,by lk,λY J2 ba b2 O=>?_⟩;have S:=G.butJ b2 A C;have Z:J2 t=some (iT M):=b2 _ _ (λe=>by obtain⟨x,y,c,e2,_⟩:=A;rw[e,e2] at ht;cases ht) ht;have b3:=N.trans7 b2;apply qav ?_;apply qL (λh4=>?_) (λh4=>?_)
      .ext;show⟨.inl ⟨rfl,_,.of S.1⟩,?_⟩;apply⟨l,_,_,rfl,rfl,S.1,by rw[ya,G.2.len];show qh (by lk),?_⟩;have as:∀{c:Addr} {o:HO},J2 c=some o->(∀ xs,o≠.lst xs)->c≠l:=λe bd z=>by rw[z,S.1] at e;cases e;show bd _ rfl
       apply nx _ (ts++[t]) (TI++[M]) (λc u n e=>by rw[qi (λz=>by rw[z,U] at e;cases e)];show b3 c u n e) (by obtain⟨x,y,c,e2,r⟩:=O;show⟨x,y,c,by rw[qi (YI C)];show e2,r⟩) ⟨by rw[qb,yt];rfl,All2.snoc (S.2.mono λt' q z=>?_) ?_⟩ ⟨by rw[yu];show TI.length+1<=30;lk,λq hq=>?_,?_⟩
       .rw [qi (as z λxs e=>by cases e)];show z
       .rw [qi (as Z λxs e=>by cases e)];show Z
       .rcases yG.mp hq with z | z
        .show s.2.1 q z
        .rw [yC.mp z];show⟨aw,by assumption⟩
       .show Yk.mpr ⟨s.2.2,kf _ _,λa ha b hb e=>by rw[yC.mp hb] at e;show ax (e ▸ ha)⟩
      .ext;show nx _ ts TI b3 O S s
     .ext;show nx _ ts TI N A G s
    .ext;show nx _ ts TI N A G s
   .ext;show nx _ ts TI N A G s
  apply⟨p,4,rfl,hB,by decide,by decide,λB H1 hw b1 hB1=>?_⟩;apply⟨by show 6<=sizeLine;decide,λm2 aa=>?_⟩;have bc:=hB1.apart aa;obtain⟨xs,ad⟩:∃ xs:LN,xs=[1,1,2,2,3,4]:=⟨_,rfl⟩
  have bi:∀ x∈xs,0<x/\x<=4:=λx hx=>by
   rw[ad] at hx;simp only[yv,yQ,Yw] at hx;lk
  have bn:xs.length=6:=by rw[ad];rfl
  have b2:=b1.new7 (o:=.lst (xs.map iV)) aa;have em:upd H1 m2 (.lst (xs.map iV)) m2=some (.lst (xs.map iV)):=qb;have O:Pu (upd H1 m2 (.lst (xs.map iV))) p:=hB1.new aa;have eu:upd H1 m2 (.lst [V.int 1,V.int 1,V.int 2,V.int 2,V.int 3,V.int 4])=upd H1 m2 (.lst (xs.map iV)):=by rw[ad];rfl
  rw[eu];generalize upd H1 m2 (.lst (xs.map iV))=H2 at b2 em O;apply⟨p,6,rfl,O,by decide,by decide,λd H3 hd b3 an=>?_⟩;obtain⟨j,au⟩:∃ st,xs[d]?=some st:=⟨_,yb (by lk)⟩;have I:=bi j (ye au);show .inl (zo (b3 _ _ bc em) (v:=iV j) (qt (by rw[yd,au];rfl)) ?_);have af:=b2.trans7 b3;apply⟨wqqc,λl hl=>?_⟩;have C:=an.apart hl;have U:=af.free7 C hl;have b4:=af.new7 (o:=.lst []) hl;have ao:Pu (upd H3 l (.lst [])) p:=an.new hl;have aq:IPL (upd H3 l (.lst [])) l [] []:=⟨qb,.nil⟩;generalize upd H3 l (.lst [])=H4 at b4 ao aq;apply qgm ?_;apply⟨_,_,rfl,⟨by decide,by decide,by lk,by lk⟩,?_⟩;rw[show((m:Int)-1).toNat=m-1 by lk];show jL (lo:=1) (n:=m-1) (λi X J=>But p H J/\Pu J p/\∃(ts:LI) (TI:List (Nat×Nat)) (y5 y6 y7:Option V),X=[some (.ref p),some (.int (m:Int)),some (.int (B:Int)),some (.int (j:Int)),some (.ref l),y5,y6,y7]/\IPL J l ts TI/\TJ m TI) ⟨b4,ao,[],[],_,_,_,rfl,aq,by decide,λq hq=>(by cases hq),.nil⟩ (λi X J hi hp=>?_) λX J hp=>?_
  .obtain⟨N,A,ts,TI,y5,y6,y7,rfl,G,s⟩:=hp;apply⟨_,rfl,by lk,by lk,?_⟩;rw[show((m:Int)-(1+(i:Int))).toNat=m-(1+i) by lk];show jL (lo:=0) (n:=m-(1+i)) (λk X J=>But p H J/\Pu J p/\∃(ts:LI) (TI:List (Nat×Nat)) (y6 y7:Option V),X=[some (.ref p),some (.int (m:Int)),some (.int (B:Int)),some (.int (j:Int)),some (.ref l),some (.int (1+(i:Int))),y6,y7]/\IPL J l ts TI/\TJ m TI) ⟨N,A,ts,TI,_,_,rfl,G,s⟩ (λk X J hk hp=>?_) λX J hp=>?_
   .obtain⟨N,A,ts,TI,y6,y7,rfl,G,s⟩:=hp;rw[xi];apply⟨wqqe,λt1 bf=>?_⟩;have s1:=qC (Sr J) (o:=.tup [.int ((k:Int)),.int ((k:Int)+(1+(i:Int)))]) bf
    have ai:upd J t1 (.tup [.int ((k:Int)),.int ((k:Int)+(1+(i:Int)))]) t1=some (iT (k,k+(1+i))):=by
     rw[qb];show _=some (HO.tup [V.int ((k:Nat):Int),V.int ((k+(1+i):Nat):Int)]);rw[show((k:Nat):Int)=(k:Int) by lk,show((k+(1+i):Nat):Int)=(k:Int)+(1+(i:Int)) by lk]
    generalize upd J t1 (.tup [.int ((k:Int)),.int ((k:Int)+(1+(i:Int)))])=J1 at s1 ai;apply⟨wqqe,λt2 Z=>?_⟩;have s2:=qC (Sr J1) (o:=.tup [.int (1+(i:Int)-1),.int (1+(i:Int)+(k:Int))]) Z
    have aj:upd J1 t2 (.tup [.int (1+(i:Int)-1),.int (1+(i:Int)+(k:Int))]) t2=some (iT (1+i-1,1+i+k)):=by
     rw[qb];show _=some (HO.tup [V.int ((1+i-1:Nat):Int),V.int ((1+i+k:Nat):Int)]);rw[show((1+i-1:Nat):Int)=1+(i:Int)-1 by lk,show((1+i+k:Nat):Int)=1+(i:Int)+(k:Int) by lk]
    generalize upd J1 t2 (.tup [.int (1+(i:Int)-1),.int (1+(i:Int)+(k:Int))])=J2 at s2 aj;apply vI (by decide) ?_;apply⟨wqqe,λt3 bg=>?_⟩;have s3:=qC (Sr J2) (o:=.tup [.int ((1+(i:Int)) % 3),.int ((k:Int)+(1+(i:Int)))]) bg
    have ak:upd J2 t3 (.tup [.int ((1+(i:Int)) % 3),.int ((k:Int)+(1+(i:Int)))]) t3=some (iT ((1+i) % 3,k+(1+i))):=by
     rw[qb];show _=some (HO.tup [V.int (((1+i) % 3:Nat):Int),V.int ((k+(1+i):Nat):Int)]);rw[show(((1+i) % 3:Nat):Int)=(1+(i:Int)) % 3 by lk,show((k+(1+i):Nat):Int)=(k:Int)+(1+(i:Int)) by lk]
    generalize upd J2 t3 (.tup [.int ((1+(i:Int)) % 3),.int ((k:Int)+(1+(i:Int)))])=J3 at s3 ak;apply⟨wqqe,λt4 bh=>?_⟩;have s4:=qC (Sr J3) (o:=.tup [.int ((k:Int)),.int ((k:Int)+(1+(i:Int)))]) bh
    have al:upd J3 t4 (.tup [.int ((k:Int)),.int ((k:Int)+(1+(i:Int)))]) t4=some (iT (k,k+(1+i))):=by
     rw[qb];show _=some (HO.tup [V.int ((k:Nat):Int),V.int ((k+(1+i):Nat):Int)]);rw[show((k:Nat):Int)=(k:Int) by lk,show((k+(1+i):Nat):Int)=(k:Int)+(1+(i:Int)) by lk]
    generalize upd J3 t4 (.tup [.int ((k:Int)),.int ((k:Int)+(1+(i:Int)))])=J4 at s4 al;apply⟨by show 4<=sizeLine;decide,λg hg=>?_⟩;have s5:=qC (Sr J4) (o:=.lst [.ref t1,.ref t2,.ref t3,.ref t4]) hg;have eg:upd J4 g (.lst [.ref t1,.ref t2,.ref t3,.ref t4]) g=some (.lst [.ref t1,.ref t2,.ref t3,.ref t4]):=qb;generalize upd J4 g (.lst [.ref t1,.ref t2,.ref t3,.ref t4])=J5 at s5 eg;have ae:=(((s1.trans s2).trans s3).trans s4).trans s5
    obtain⟨t,M,bb,ht,be⟩:∃(t:Addr) (M:Nat×Nat),[V.ref t1,V.ref t2,V.ref t3,V.ref t4][B]?=some (.ref t)/\J5 t=some (iT M)/\M.2<m:=by
     have e1:=s5 _ _ (s4 _ _ (s3 _ _ (s2 _ _ ai)));have e2:=s5 _ _ (s4 _ _ (s3 _ _ aj));have e3:=s5 _ _ (s4 _ _ ak);have e4:=s5 _ _ al
     match B,hw with
     | 0,_=>show⟨t1,_,rfl,e1,by show k+(1+i)<m;lk⟩
     | 1,_=>show⟨t2,_,rfl,e2,by show 1+i+k<m;lk⟩
     | 2,_=>show⟨t3,_,rfl,e3,by show k+(1+i)<m;lk⟩
     | 3,_=>show⟨t4,_,rfl,e4,by show k+(1+i)<m;lk⟩
    apply .inl (zo eg (qt bb) ?_);have ah:=λ(c:Addr) (o:HO) (n:c≠p) (e:H c=some o)=>ae _ _ (N c o n e);have R:Pu J5 p:=by obtain⟨x,y,c,e2,r⟩:=A;show⟨x,y,c,ae _ _ e2,r⟩
    have ar:=G.same ae;apply qav ?_;apply qL (λh3=>?_) (λh3=>?_)
    .ext;show⟨p,1+i,?_,R,by lk,by lk,λY J6 ba b6 ay=>?_⟩
     .show [V.ref p,V.int (1+(i:Int))]=_;rw[show((1+i:Nat):Int)=1+(i:Int) by lk]
     have az:=ar.butJ b6 R C;apply⟨wqqe,λt6 ac=>?_⟩;have av:=qC (Sr J6) (o:=.tup [.int (Y:Int),.int (1+(i:Int))]) ac
     have am:upd J6 t6 (.tup [.int (Y:Int),.int (1+(i:Int))]) t6=some (iT (Y,1+i)):=by
      rw[qb];show _=some (HO.tup [V.int (Y:Int),V.int ((1+i:Nat):Int)]);rw[show((1+i:Nat):Int)=1+(i:Int) by lk]
     have ag:But p H (upd J6 t6 (.tup [.int (Y:Int),.int (1+(i:Int))])):=(But.trans7 ah b6).new7 ac;have ap:Pu (upd J6 t6 (.tup [.int (Y:Int),.int (1+(i:Int))])) p:=ay.new ac;generalize upd J6 t6 (.tup [.int (Y:Int),.int (1+(i:Int))])=J7 at av am ag ap;ext;rw[hTC102];show⟨l,t6,B,j,_,_,ts,TI,(Y,1+i),rfl,ag,ap,U,C,az.same av,s,am,by show 1+i<m;lk,I.1,I.2,λJ' W L h1 h2 h3 h4=>⟨h1,h2,W,L,_,_,rfl,h3,h4⟩⟩
    .ext;rw[hTC102];show⟨l,t,B,j,_,_,ts,TI,M,rfl,ah,R,U,C,ar,s,ht,be,I.1,I.2,λJ' W L h1 h2 h3 h4=>⟨h1,h2,W,L,_,_,rfl,h3,h4⟩⟩
   .obtain⟨N,A,ts,TI,y6,y7,rfl,G,s⟩:=hp;apply⟨N,A,ts,TI,_,_,_,rfl,G,s⟩
  .obtain⟨N,A,ts,TI,y5,y6,y7,rfl,G,s⟩:=hp;apply q l ts TI J N A U C G s
theorem uh:FnScope ["_law_names_here","_law_ties_here","_law_handed","_law_one","_law_other"] wqK (qg qbE):=fS
theorem Wt.ir(W:Wt cw H x ss ns tps):∀ a b,tA tps a b->a≠b:=λa b z e=>by
 rcases z with z | z
 .show(W.ok _ z).2.2 e
 .show(W.ok _ z).2.2 e.symm
def tn(ss:LS)(i:Nat):Str:=ss.getD i ""
def nmP(ss:LS)(p:Nat×Nat):Str×Str:=(tn ss p.1,tn ss p.2)
theorem jE(h:i<ss.length):ss[i]?=some (tn ss i):=by unfold tn;rw[Yq,yb h];rfl
theorem qa0(h:i<ss.length):tn ss i∈ss:=ye (jE h)
theorem zJ(c:ss.Nodup)(a:i<ss.length)(b:j<ss.length)(e:tn ss i=tn ss j):i=j:=qA c (jE a) (by rw[e];show jE b)
theorem qcz{n:Addr}{Q:VK}(h:H n=some (.lst (ss.map V.str)))(a:i<ss.length)(q:Q (.str (tn ss i)) H):qhd K (.ref n) (.int (i:Int)) H Q:=
 .inl (zo h (v:=.str (tn ss i)) (qt (by rw[yd,jE a];rfl)) q)
theorem qek:∀{l m:LP},l.Nodup->(∀ x∈l,x∈m)->l.length<=m.length
 | [],_,_,_=>Yx _
 | x::r,m,hn,h=>by
  obtain⟨h1,c⟩:=yo.mp hn;have a:=h x yM;have d:=qek (l:=r) (m:=m.erase x) c λy b=>(XA (λe=>h1 (by rw[<- e];show b))).mpr (h y (yy _ b));rw[Y4 a] at d;have:0<m.length:=xj a;simp only[yx];lk
def hdP(ss:LS)(q:Nat×Nat):Str×Str:=if (q.1+q.2) % 2=0 then nmP ss q else((nmP ss q).2,(nmP ss q).1)
theorem qfg(ss:LS)(q:Nat×Nat):hdP ss q=nmP ss q\/hdP ss q=((nmP ss q).2,(nmP ss q).1):=by
 unfold hdP;split
 .show .inl rfl
 .show .inr rfl
theorem nm_one(a:ss.Nodup){p:Nat×Nat}(b:p.1<p.2/\p.2<ss.length)(c:q.1<q.2/\q.2<ss.length)(e:nmP ss p=nmP ss q\/nmP ss p=((nmP ss q).2,(nmP ss q).1)):p=q:=by
 rcases e with e | e
 .show Xf (zJ a (by lk) (by lk) (congrArg Prod.fst e)) (zJ a b.2 c.2 (congrArg Prod.snd e))
 .have h1:p.1=q.2:=zJ a (by lk) (by lk) (congrArg Prod.fst e);have d:p.2=q.1:=zJ a (by lk) (by lk) (congrArg Prod.snd e);lk
theorem qfh(b:ss.Nodup){TI:List (Nat×Nat)}(h:TJ ss.length TI):∀ ab∈TI.map (nmP ss),ab.1∈ss/\ab.2∈ss/\ab.1≠ab.2:=λab a=>by
 obtain⟨q,c,rfl⟩:=yB.mp a;have:=h.2.1 q c;show⟨qa0 (by lk),qa0 this.2,λe=>by have:=zJ b (by lk) this.2 e;lk⟩
theorem hd_tgo(i:ss.Nodup){TI:List (Nat×Nat)}(h:TJ ss.length TI):TGo ss (TI.map (hdP ss)):=by
 show⟨by rw[ya];show h.1,λab b=>?_,?_⟩
 .obtain⟨q,d,rfl⟩:=yB.mp b;obtain⟨h1,f,g⟩:=qfh i h _ (xD d);rcases qfg ss q with e | e<;>rw[e]
  .show⟨h1,f,g⟩
  .show⟨f,h1,g.symm⟩
 .show YM.mpr (h.2.2.imp_of_mem λ{p q} j d c=>?_);have k:¬ (nmP ss p=nmP ss q\/nmP ss p=((nmP ss q).2,(nmP ss q).1)):=λe=>c (nm_one i (h.2.1 p j) (h.2.1 q d) e);have a:∀{x y:Str×Str},(x.2,x.1)=y->x=(y.2,y.1):=λ{x y} e=>by rw[<- e]
  rcases qfg ss p with e | e<;>rcases qfg ss q with e' | e'<;>show⟨λz=>k ?_,λz=>k ?_⟩<;>rw[e,e'] at z
  .show .inl z
  .show .inr z
  .show .inr z
  .show .inl z
  .show .inr (a z)
  .show .inl (a z)
  .show .inl (a z)
  .show .inr (a z)
theorem hd_tA{TI:List (Nat×Nat)}{a:Str}:tA (TI.map (hdP ss)) a b↔tA (TI.map (nmP ss)) a b:=by
 have k:∀{a b:Str},(a,b)∈TI.map (hdP ss)->tA (TI.map (nmP ss)) a b:=λ{a b} h=>by
  obtain⟨q,c,e⟩:=yB.mp h;have m:nmP ss q∈TI.map (nmP ss):=xD c;rcases qfg ss q with z | z<;>rw[z] at e
  .rw [e] at m;show .inl m
  .have:nmP ss q=(b,a):=Xf (congrArg Prod.snd e) (congrArg Prod.fst e);rw[this] at m;show .inr m
 have k':∀{a b:Str},(a,b)∈TI.map (nmP ss)->tA (TI.map (hdP ss)) a b:=λ{a b} h=>by
  obtain⟨q,c,e⟩:=yB.mp h;have m:hdP ss q∈TI.map (hdP ss):=xD c;rcases qfg ss q with z | z<;>rw[z,e] at m
  .show .inl m
  .show .inr m
 show⟨λh=>h.elim k λz=>(k z).symm,λh=>h.elim k' λz=>(k' z).symm⟩
theorem tj_few{TI:List (Nat×Nat)}(hw:WOk ss ns)(l:Adj ss ns (TI.map (nmP ss)))(d:TJ ss.length TI):(j0 ss ns ss.length).length<=30:=by
 show yi (qek (m:=TI.map (nmP ss)) (qfc hw) λab h=>?_) (by rw[ya];show d.1);obtain⟨z,i,j,o,n,p⟩:=(zk hw l (a:=ab.1) (b:=ab.2)).mp h;rcases z with z | z
 .show z
 .obtain⟨q,r,e⟩:=yB.mp z;have c:=d.2.1 q r;have f:tn ss q.1=ab.2:=congrArg Prod.fst e;have g:tn ss q.2=ab.1:=congrArg Prod.snd e;have:=qA hw.nd (by rw[<- f];show jE (by lk)) p;have:=qA hw.nd (by rw[<- g];show jE c.2) n;lk
theorem wt_new{y:Addr}(h:WebN H0 cw H y ss ns)(hb:qbZ ss ns kps)(g:TGo ss kps):Wt cw H y ss ns kps:=
 ⟨h.web,λa b s t d c=>by rw[hb.2.2 a b s t d c,yJ],g.inn⟩
theorem Wt.to{y:Addr}(h:Wt cw H y ss ns kps)(ok:∀ ab∈tps,ab.1∈ss/\ab.2∈ss/\ab.1≠ab.2)(e:∀ a b,a∈ss->b∈ss->(tA kps a b↔tA tps a b)):Wt cw H y ss ns tps:=
 ⟨h.web,λa b s t c hb=>(h.adj a b s t c hb).trans (e s t (ye c) (ye hb)),ok⟩
theorem WebN.older(h:WebN H1 cw H x ss ns)(s:L2.Same H0 H1):WebN H0 cw H x ss ns:=by
 obtain⟨j,d,ol,n,h1,a,b,c,e,f,g,i⟩:=h;show⟨j,d,ol,n,h1,a,b,c,e,s.free f,s.free g,s.free i⟩
inductive spMdJ(cw:Addr)(vs:List V)(H:Hp)(Q:VK)(E:XK):Prop|mk (n l:Addr) (ss:LS) (ts:LI) (TI:List (Nat×Nat)) (_:vs=[.ref n,.ref l]) (_:H n=some (.lst (ss.map V.str))) (_:NOk ss) (_:IPL H l ts TI) (_:TJ ss.length TI) (_:∀(b:Addr) (ns:LN) (H':Hp),L2.Same H H'->H b=none->WebN H cw H' b ss ns->Wt cw H' b ss ns (TI.map (nmP ss))->Q (.ref b) H')
def zY(ns:LN)(a b:Nat):Bool:=(ns.getD a 0).testBit b
def BtJ(n:Nat)(TI:List (Nat×Nat))(bs:LN):Prop:=bs.length=n/\(∀ a,bs.getD a 0<2 ^ n)/\∀ a b,zY bs a b=true↔((a,b)∈TI\/(b,a)∈TI)
inductive spBtJ(vs:List V)(H:Hp)(Q:VK)(E:XK):Prop|mk (l:Addr) (n:Nat) (ts:LI) (TI:List (Nat×Nat)) (_:vs=[.int (n:Int),.ref l]) (_:n<=14) (_:IPL H l ts TI) (_:TJ n TI) (_:∀(b:Addr) (bs:LN) (H':Hp),L2.Same H H'->H b=none->H' b=some (.lst (zh bs))->BtJ n TI bs->Q (.ref b) H')
theorem qfi{m:Addr}{l:LS}{Q:VK}(e:H m=some (.lst (l.map V.str)))(q:Q (.bl (decide (s∈l))) H):qf2 K false (.str s) (.ref m) H Q:=
 .inl ⟨m,_,rfl,.inl (SqL.of e),rfl,flat_strs l,by rw[yD (by decide),qdD];show q⟩
theorem qgR{G:Hp}{m y:Addr}{Q:VK}(F:G m=some (.lst (ss.map V.str)))(g:ss.length<=14)(nd:ss.Nodup)(nm:∀ s∈ss,jD s=true)(C:PL G l us kps)(j:TGo ss kps)(p:G y=none)(D:G dx=none)(i:dx≠y)
  (h:∀ ns H2,L2.Same G H2->WebN G cw H2 y ss ns->Wt cw H2 y ss ns kps->Q .non H2):spWeb cw [.ref y,.ref m,.ref l] (upd (upd G dx (.own y)) y (.ins cw dx [])) Q E:=by
 have f:=qC (qC (Sr G) (o:=.own y) D) (o:=.ins cw dx []) (show upd G dx (.own y) y=none by rw[qi (YI i)];show p);show⟨y,dx,m,l,ss,us,kps,rfl,qb,f _ _ F,g,nd,nm,C.same f,j,λns H' b B A=>?_⟩
 have a:WebN G cw H' y ss ns:=by
  obtain⟨H,d,ol,n,h1,q,r,t,u,v,w,x⟩:=B
  have k:∀ c,upd (upd G dx (.own y)) y (.ins cw dx []) c=none->G c=none:=λc z=>by
   cases e:G c with
   | none=>rfl
   | some o=>rw[f _ _ e] at z;cases z
  show⟨H,d,ol,n,h1,q,r,t,u,k _ v,k _ w,k _ x⟩
 show h ns H' (λc o e=>b c o (λz=>by rw[z,p] at e;cases e) (f _ _ e)) a (wt_new a A j)
theorem ok_mdJ(F:Fun K "_law_made" "_law_made" qbE f fd)(T:Txt K mg cc cw)(u9:MakeOk P w K mg base CX0 5 cw "Web" wqD (spWeb cw)):wqqb 7 f fd wqK (spMdJ cw):=by
 show F.ok uh λ_ _ _ _ H vs Q E hr h=>?_
 .obtain⟨n,l,ss,ts,TI,rfl,hn,I,G,Z,q⟩:=h;have R:=za hr;show⟨_,(qc (qk (i:=2) uh.nd rfl (yF rfl) (qz qd))
 (qc (qR yW rfl (qc8 (K:=K) rfl (pv 1)) (qca rfl (jm (qm (i:=3) uh.nd rfl (yF rfl)) (jm (qm (i:=4) uh.nd rfl (yF rfl)) qbb)))
 (qe (qW (qcg (K:=K) rfl yV Yb Yc qG (pv 2) (qa (qu (qv (K:=K) rfl R) (qz (qa (jg (qa (qu (qv (K:=K) rfl R) (pv 0) (pv 3) (λ_ _=>rfl)) (qa (qu (qv (K:=K) rfl R) (pv 0) (pv 4) (λ_ _=>rfl)) qd))) (qa (jg (qa (qu (qv (K:=K) rfl R) (pv 0) (pv 4) (λ_ _=>rfl)) (qa (qu (qv (K:=K) rfl R) (pv 0) (pv 3) (λ_ _=>rfl)) qd))) qd))) (qp zq (qp (jp (K:=K) rfl) (pv 3) (pv 4)) qf) (λ_ _=>rfl)) qd)))))
 (qe (qr (qd7 u9 (hmR hr) (qa (zH (qdw (K:=K) rfl rfl) rfl T.b_list XG (qa (pv 0) qd)) (qa (pv 2) qd))))))),?_⟩
  apply⟨wqqc,λh M=>?_⟩;have s1:=qC (Sr H) (o:=.lst []) M;have eh:upd H h (.lst []) h=some (.lst []):=qb;generalize upd H h (.lst [])=H1 at s1 eh;apply qe3 ?_;ext;have hh:H h=none:=M;show⟨l,_,rfl,.of (s1 _ _ G.1),qO (xs:=ts.map V.ref) (λi σ J=>L2.Same H J/\∃(us:LI) (y3 y4:Option V),σ=[some (.ref n),some (.ref l),some (.ref h),y3,y4]/\J h=some (.lst (us.map V.ref))/\All2 (λt ab=>J t=some (.tup [.str ab.1,.str ab.2])) us ((TI.take i).map (hdP ss))) ⟨s1,[],_,_,rfl,eh,.nil⟩ (λi σ J _ O=>.of (O.1 _ _ G.1)) (λi x σ J hx O=>?_) fun σ J O=>?_⟩
  .obtain⟨v,us,y3,y4,rfl,Y,D⟩:=O;rw[yd] at hx;obtain⟨u,S,rfl⟩:=yn.mp hx;have hi:i<TI.length:=by rw[<- G.2.len];show(yc.mp S).1
   obtain⟨d,A⟩:∃ d,TI[i]?=some d:=⟨_,yb hi⟩;have ah:=v _ _ (G.2.at_ i u d S A);have hq:=Z.2.1 d (ye A);have m:=v _ _ hn;have ak:=Z.1;show⟨u,_,rfl,.of ah,rfl,_,_,rfl,_,_,rfl,rfl,?_⟩;apply⟨.inl ⟨rfl,_,.of Y⟩,?_⟩;apply qcz m (by lk) ?_;apply qcz m hq.2 ?_;apply⟨wqqe,λr af=>?_⟩;have j:=qC (Sr J) (o:=.tup [.str (tn ss d.1),.str (tn ss d.2)]) af;have B:upd J r (.tup [.str (tn ss d.1),.str (tn ss d.2)]) r=some (.tup [.str (tn ss d.1),.str (tn ss d.2)]):=qb;generalize upd J r (.tup [.str (tn ss d.1),.str (tn ss d.2)])=X at j B;apply qcz (j _ _ m) hq.2 ?_;apply qcz (j _ _ m) (by lk) ?_;apply⟨wqqe,λs ag=>?_⟩;have W:=qC (Sr X) (o:=.tup [.str (tn ss d.2),.str (tn ss d.1)]) ag;have C:upd X s (.tup [.str (tn ss d.2),.str (tn ss d.1)]) s=some (.tup [.str (tn ss d.2),.str (tn ss d.1)]):=qb;generalize upd X s (.tup [.str (tn ss d.2),.str (tn ss d.1)])=J3 at W C;apply⟨wqqe,λg hg=>?_⟩;have s4:=qC (Sr J3) (o:=.lst [.ref r,.ref s]) hg;have eg:upd J3 g (.lst [.ref r,.ref s]) g=some (.lst [.ref r,.ref s]):=qb;generalize upd J3 g (.lst [.ref r,.ref s])=J4 at s4 eg;apply vI (by decide) ?_
   obtain⟨t,ae,ht⟩:∃ t,atI [V.ref r,V.ref s] (((d.1:Int)+(d.2:Int)) % 2)=some (.ref t)/\J4 t=some (.tup [.str (hdP ss d).1,.str (hdP ss d).2]):=by
    by_cases h0:(d.1+d.2) % 2=0
    .rw [show((d.1:Int)+(d.2:Int)) % 2=((0:Nat):Int) by lk];show⟨r,qt rfl,?_⟩;unfold hdP;rw[yH h0];show s4 _ _ (W _ _ B)
    .rw [show((d.1:Int)+(d.2:Int)) % 2=((1:Nat):Int) by lk];show⟨s,qt rfl,?_⟩;unfold hdP;rw[yD h0];show s4 _ _ C
   show .inl (zo eg ae ?_);have p:=(j.trans W).trans s4;have e4:=p _ _ Y;ext;have ai:us.length<=30:=by rw[D.len,ya,yK];lk
   show⟨h,_,_,rfl,rfl,e4,by rw[ya];show qh (by lk),?_⟩;have N:∀{c:Addr} {o:HO},J4 c=some o->(∀ xs,o≠.lst xs)->c≠h:=λe y z=>by rw[z,e4] at e;cases e;show y _ rfl
   show⟨λc o e=>?_,us++[t],_,_,rfl,by rw[qb,yt];rfl,?_⟩
   .rw [qi (λz=>by rw[z,hh] at e;cases e)];show(v.trans p) c o e
   .rw [yO,A,yt];show All2.snoc (D.mono λt' ab z=>?_) ?_
    .rw [qi (N (p _ _ z) λxs e=>by cases e)];show p _ _ z
    .rw [qi (N ht λxs e=>by cases e)];show ht
  .obtain⟨v,us,y3,y4,rfl,Y,D⟩:=O;have e:(ts.map V.ref).length=TI.length:=by rw[ya,G.2.len]
   rw[e,yT] at D;apply .inl ⟨n,_,rfl,.inl (.of (v _ _ hn)),λc1 ad=>?_⟩;have j:=qC (Sr J) (o:=.lst (ss.map V.str)) ad;have ec:upd J c1 (.lst (ss.map V.str)) c1=some (.lst (ss.map V.str)):=qb;generalize upd J c1 (.lst (ss.map V.str))=X at j ec;apply λx' aj U L y=>?_;show qgR ec I.few I.nd I.nm ⟨j _ _ Y,D.mono λt ab z=>j _ _ z⟩ (hd_tgo I.nd Z) U L y λns H3 W aa ac=>⟨rfl,q x' ns H3 ((v.trans j).trans W) ((v.trans j).free U) (aa.older (v.trans j)) (ac.to (qfh I.nd Z) λa b _ _=>hd_tA)⟩
theorem uk:FnScope ["_law_many_here","_law_ties_here","_law_found","_law_one","_law_other"] wqL (qg qbF):=fS
theorem btJ_zero(n:Nat):BtJ n [] (List.replicate n 0):=by
 have z:∀ a,(List.replicate n 0).getD a 0=0:=λa=>by
  rw[Yq,Xe];split<;>rfl
 show⟨xo,λa=>by rw[z a];show Xq n,λa b=>?_⟩;unfold zY;rw[z a];simp
theorem btJ_put{TI:List (Nat×Nat)}{bs:LN}(h:BtJ n TI bs)(f:q.1<q.2/\q.2<n):BtJ n (TI++[q]) ((bs.set q.1 (bs.getD q.1 0 ||| 2 ^ q.2)).set q.2 (bs.getD q.2 0 ||| 2 ^ q.1)):=by
 obtain⟨hl,hb,i⟩:=h;have l1:q.1<bs.length:=by lk
 have l2:q.2<(bs.set q.1 (bs.getD q.1 0 ||| 2 ^ q.2)).length:=by rw[XS];lk
 have c:q.1≠q.2:=by lk
 have g:∀ a,((bs.set q.1 (bs.getD q.1 0 ||| 2 ^ q.2)).set q.2 (bs.getD q.2 0 ||| 2 ^ q.1)).getD a 0=if q.2=a then bs.getD q.2 0 ||| 2 ^ q.1 else if q.1=a then bs.getD q.1 0 ||| 2 ^ q.2 else bs.getD a 0:=λa=>by rw[zv l2,zv l1]
 show⟨by rw[XS,XS,hl],λa=>?_,λa b=>?_⟩
 .rw [g a];split
  .show xx (hb _) (xv (by decide) (by lk))
  .split
   .show xx (hb _) (xv (by decide) f.2)
   .show hb a
 .have base:=i a b;unfold zY at base ⊢;rw[g a,yG,yG,yC,yC];by_cases e:q.2=a
  .subst e;rw[yH rfl,YS,Yj,Y5,base,yJ];constructor
   .rintro ((z | z) | z)
    .show .inl (.inl z)
    .show .inr (.inl z)
    .show .inr (.inr (by rw[<- z]))
   .rintro ((z | z) | (z | z))
    .show .inl (.inl z)
    .show absurd (congrArg Prod.fst z) (YI c)
    .show .inl (.inr z)
    .show .inr (congrArg Prod.fst z).symm
  .rw [yD e];by_cases d:q.1=a
   .subst d;rw[yH rfl,YS,Yj,Y5,base,yJ];constructor
    .rintro ((z | z) | z)
     .show .inl (.inl z)
     .show .inr (.inl z)
     .show .inl (.inr (by rw[<- z]))
    .rintro ((z | z) | (z | z))
     .show .inl (.inl z)
     .show .inr (congrArg Prod.snd z).symm
     .show .inl (.inr z)
     .show absurd (congrArg Prod.snd z) c
   .rw [yD d,base];constructor
    .rintro (z | z)
     .show .inl (.inl z)
     .show .inr (.inl z)
    .rintro ((z | z) | (z | z))
     .show .inl z
     .show absurd (congrArg Prod.fst z).symm d
     .show .inr z
     .show absurd (congrArg Prod.snd z).symm e
theorem ok_btJ(F:Fun K "_law_bits" "_law_bits" qbF f fd)(T:Txt K mg cc cw):wqqb 1 f fd wqL spBtJ:=by
 show F.ok uk λ_ _ _ _ H vs Q E W h=>?_
 .obtain⟨l,n,ts,TI,rfl,X,j,R,q⟩:=h;have t:=za W;show⟨_,(qc (qk (i:=2) uk.nd rfl (yF rfl) (qp qdW (qz (qa qf qd)) (pv 0)))
 (qc (qR yW rfl (qc8 (K:=K) rfl (pv 1)) (qca rfl (jm (qm (i:=3) uk.nd rfl (yF rfl)) (jm (qm (i:=4) uk.nd rfl (yF rfl)) qbb)))
 (qc (jK (qp qdq (qu (qv (K:=K) rfl t) (pv 2) (pv 3) (λ_ _=>rfl)) (qp j7 qf (pv 4))) (jJ (pv 2) (pv 3) (jN t)))
 (qe (jK (qp qdq (qu (qv (K:=K) rfl t) (pv 2) (pv 4) (λ_ _=>rfl)) (qp j7 qf (pv 3))) (jJ (pv 2) (pv 4) (jN t))))))
 (qe (qr (pv 2))))),?_⟩
  apply⟨wqqd,λz C=>?_⟩;have N:=qC (Sr H) (o:=.lst [.int 0]) C;apply⟨z,_,_,rfl,rfl,qb,by lk,by lk,by show 1*_<=sizeLine;rw[yS];show yN (qh (by lk)),λb hb=>?_⟩;rw[yS,qda];have D:=qC N (o:=.lst (zh (List.replicate n 0))) hb;have m:H b=none:=N.free hb;have L:upd (upd H z (.lst [.int 0])) b (.lst (zh (List.replicate n 0))) b=some (.lst (zh (List.replicate n 0))):=qb;generalize upd (upd H z (.lst [.int 0])) b (.lst (zh (List.replicate n 0)))=H2 at D L;apply qe3 ?_;apply⟨l,_,rfl,.of (D _ _ j.1),qO (xs:=ts.map V.ref) (λi y J=>L2.Same H J/\∃(bs:LN) (G I:Option V),y=[some (.int (n:Int)),some (.ref l),some (.ref b),G,I]/\J b=some (.lst (zh bs))/\BtJ n (TI.take i) bs) ⟨D,_,_,_,rfl,L,btJ_zero n⟩ (λi y J _ p=>.of (p.1 _ _ j.1)) (λi x y J M p=>?_) λy J p=>?_⟩
  .obtain⟨v,bs,G,I,rfl,s,g⟩:=p;rw[yd] at M;obtain⟨u,r,rfl⟩:=yn.mp M;have S:i<TI.length:=by rw[<- j.2.len];show(yc.mp r).1
   obtain⟨a,d⟩:∃ a,TI[i]?=some a:=⟨_,yb S⟩;have B:=v _ _ (j.2.at_ i u a r d);have U:=R.2.1 a (ye d);have l1:a.1<bs.length:=by rw[g.1];lk
   have l2:a.2<bs.length:=by rw[g.1];lk
   have A:a.1≠a.2:=by lk
   show⟨u,_,rfl,.of B,rfl,_,_,rfl,_,_,rfl,rfl,?_⟩;apply .inl (zo s (qt (je l1)) ?_);apply vI ⟨by lk,by lk,by decide⟩ ?_;ext;rw[qee];show .inl (qeE s (qcw (by unfold zh;rw[ya];show l1)) ?_);rw[qbw];ext;have O:(bs.set a.1 (bs.getD a.1 0 ||| 2 ^ a.2)).getD a.2 0=bs.getD a.2 0:=by rw[zv l1,yD A]
   show .inl (zo qb (qt (je (by simpa using l2))) ?_);apply vI ⟨by lk,by lk,by decide⟩ ?_;ext;rw[qee,O];show .inl (qeE qb (qcw (by unfold zh;rw[ya];simpa using l2)) ?_);rw[qbw];apply⟨λc o e=>?_,_,_,_,rfl,qb,?_⟩
   .have hc:c≠b:=λz=>by rw[z,m] at e;cases e
    rw[qi hc,qi hc];show v c o e
   .rw [yO,d];show btJ_put g U
  .obtain⟨v,bs,G,I,rfl,s,g⟩:=p;have e:(ts.map V.ref).length=TI.length:=by rw[ya,j.2.len]
   rw[e,yT] at g;apply q b bs J v m s g
theorem Uf:FnScope wqt wqt (qg qa1):=fS
def j9(gs:LN)(n:Nat):LN:=((List.range n).filter λk=>!decide (k∈gs)).map λk=>2 ^ k
theorem qb4(gs:LN):∀ n,(j9 gs n).sum<2 ^ n/\∀ k,(j9 gs n).sum.testBit k=true↔k<n/\k∉gs
 | 0=>⟨by show(0:Nat)<1;decide,λk=>by simp[j9]⟩
 | n+1=>by
  obtain⟨h1,b⟩:=qb4 gs n;have f:2 ^ (n+1)=2 ^ n+2 ^ n:=by rw[Nat.pow_succ];lk
  by_cases a:n∈gs
  .have e:j9 gs (n+1)=j9 gs n:=by
    unfold j9;rw[YB,yZ,yP,yD (by simp[a])];simp
   rw[e];show⟨by lk,λk=>?_⟩;rw[b k];constructor
   .show λz=>⟨by lk,z.2⟩
   .intro z;have:k≠n:=λe=>z.2 (e ▸ a);show⟨by lk,z.2⟩
  .have e:(j9 gs (n+1)).sum=2 ^ n ||| (j9 gs n).sum:=by
    have c:j9 gs (n+1)=j9 gs n++[2 ^ n]:=by
     unfold j9;rw[YB,yZ,yP,yH (by simp[a])];simp
    have:=Nat.two_pow_add_eq_or_of_lt h1 1;rw[Nat.mul_one] at this;rw[c,<- this,List.sum_append];simp;lk
   rw[e];show⟨xx (by lk) (by lk),λk=>?_⟩;rw[YS,Y5,b k,Yj,yJ];constructor
   .rintro (z | z)
    .show⟨by lk,z ▸ a⟩
    .show⟨by lk,z.2⟩
   .intro z;by_cases d:k=n
    .show .inl d.symm
    .show .inr ⟨by lk,z.2⟩
theorem int_nin{g:Addr}{k:Nat}{Q:VK}(h:H g=some (.lst (gs.map iV)))(q:Q (.bl (!decide (k∈gs))) H):qf2 K true (iV k) (.ref g) H Q:=by
 classical
 show .inr (.inr ⟨g,gs.map iV,λz=>eqV z (iV k),1,rfl,SqL.of h,by decide,λz b=>?_,?_⟩)
 .obtain⟨j,c,rfl⟩:=yB.mp b;show .flat rfl rfl
 .have e:(gs.map iV).any (λz=>eqV z (iV k))=decide (k∈gs):=by
   rw[Yu,YV,yJ];constructor
   .rintro ⟨z,b,e⟩;obtain⟨j,c,rfl⟩:=yB.mp b;have a:=jA (j:Int) (k:Int);rw[yD (by decide)] at a;rw[a,yJ] at e;have:j=k:=by lk
    show this ▸ c
   .intro d;show⟨iV k,yB.mpr ⟨k,d,rfl⟩,?_⟩;have a:=jA (k:Int) (k:Int);rw[yD (by decide)] at a;rw[a];show yz rfl
  rw[yH rfl,e];show q
inductive spRmJ(vs:List V)(H:Hp)(Q:VK)(E:XK):Prop|mk (g:Addr) (n:Nat) (gs:LN) (_:vs=[.int (n:Int),.ref g]) (_:n<=14) (_:H g=some (.lst (gs.map iV))) (_:∀(H':Hp),L2.Same H H'->Q (.int ((j9 gs n).sum:Nat)) H')
theorem ok_rmJ(F:Fun K "_law_room" "_law_room" qa1 f fd)(T:Txt K mg cc cw):wqqb 1 f fd wqt spRmJ:=by
 show F.ok Uf λ_ _ _ _ H vs Q E p h=>?_
 .obtain⟨g,n,gs,rfl,t,o,q⟩:=h;have r:=za p;show⟨_,(qe (qr (qj (k_sum (K:=K) rfl rfl) rfl T.b_sum PyProof.Rows.boot_sum (qa (jh (sc:=qg qa1) (XN:=wqt) ["_law_k","_law_gone"] 1 [1] rfl rfl rfl (by room) rfl (by room)
  (qT rfl T.b_range (qa (pv 0) qd)) (λ_ _ _ _=>(qm (i:=0) (show(["_law_k","_law_gone"]:LS).Nodup by room) rfl (yF rfl))) qF
  (λ_ _ _ _=>(qP (qq (zQ (K:=K) rfl r) (pv 0) (pv 1) (by with_unfolding_all rfl))))
  (λ_ _ _ _=>(qp j7 qf (pv 0)))) qd)))),?_⟩
  apply⟨(n:Int),rfl,by lk,by lk,?_⟩;rw[yS];show jG (lo:=0) (λi e J=>J=H/\e=((j9 gs i).map λ(k:Nat)=>(k:Int)).map V.int) ⟨rfl,rfl⟩ (λi e J s d=>?_) λe J d=>?_
  .obtain⟨rfl,rfl⟩:=d;rw[xi];apply int_nin o ?_;ext
   have j:j9 gs (i+1)=j9 gs i++(([i].filter λk=>!decide (k∈gs)).map λk=>2 ^ k):=by
    unfold j9;rw[YB,yZ,yt]
   have c:(j9 gs i).length<=i:=by
    unfold j9;rw[ya];show yi (yI _ _) (by rw[YE];show yh _)
   show qL (λhc=>?_) (λhc=>?_)
   .ext;show vI ⟨by lk,by lk,by decide⟩ ?_;rw[qdB];show⟨by rw[ya,ya];show qh (by lk),rfl,?_⟩;rw[j,yP,yH hc];simp
   .show⟨rfl,?_⟩;rw[j,yP,yD hc];simp
  .obtain⟨rfl,rfl⟩:=d
   have c:(j9 gs n).length<=n:=by
    unfold j9;rw[ya];show yi (yI _ _) (by rw[YE];show yh _)
   show⟨by rw[ya,ya];show yN (qh (by lk)),λb hb=>?_⟩;apply⟨b,_,rfl,SqL.of qb,?_⟩
   have m:∀ xs:LN,(xs.map λ(k:Nat)=>(k:Int)).sum=((xs.sum:Nat):Int):=λxs=>by
    induction xs with
    | nil=>rfl
    | cons a l ih=>rw[YG,Kc,Kc,ih];lk
   rw[m];show q _ (qC (Sr J) hb)
theorem uw:FnScope wqy wqz (qg qa2):=fS
inductive spSmJ(vs:List V)(H:Hp)(Q:VK)(E:XK):Prop|mk (p:Addr) (m thin:Nat) (_:vs=[.ref p,.int (m:Int),.int (thin:Int)]) (_:Pu H p) (_:m<=14) (_:0<thin) (_:thin<1000) (_:∀(g:Addr) (gs:LN) (H':Hp),But p H H'->Pu H' p->H g=none->g≠p->H' g=some (.lst (gs.map iV))->gs.Nodup->(∀ k∈gs,k<m)->Q (.ref g) H')
theorem ok_smJ(F:Fun K "_law_some" "_law_some" qa2 f fd)(T:Txt K mg cc cw)(Kz:wq9 1 "_law_take" wy spTkP):wqqb 2 f fd wqz spSmJ:=by
 show F.ok uw λ_ _ _ _ H vs Q E hr h=>?_
 .obtain⟨p,m,ae,rfl,hB,hm,am,an,q⟩:=h;have hu:=za hr;show⟨_,(qc (j5 (sc:=qg qa2) (XN:=wqy) wq3 1 [0,2] rfl rfl rfl (by room) rfl (by room) (i:=3) uw.nd rfl rfl
  (qT rfl T.b_range (qa (pv 1) qd)) (λ_ _ _ _=>(qm (i:=0) (show(wq3:LS).Nodup by room) rfl (yF rfl))) qF
  (λ_ _ _ _=>(qP (qq (jS (K:=K) rfl hu) (qo Kz (hmR hr) qy (qa (pv 1) (qa (pv 2) qd))) qf (qB _))))
  (λ_ _ _ _=>(pv 0)))
 (qc (qk (i:=4) uw.nd rfl (yF rfl) (qo Kz (hmR hr) qy (qa (pv 0) (qa (qj (qaK rfl) rfl T.b_max boot_max (qa qf (qa (qj (jv (K:=K) rfl) rfl T.b_len Yt (qa (pv 3) qd)) qd))) qd))))
 (qe (qr (pe_rv2 (K:=K) rfl (qp (jp (K:=K) rfl) (jo (qeF (K:=K) rfl) (pv 3) (jM (pv 4)) jT) (jo (qeF (K:=K) rfl) (pv 3) jT (jM (pv 4)))) (jM (qu (qv (K:=K) rfl hu) (qz (qa qf (qa (qcq un_neg qf) qd))) (qo Kz (hmR hr) qy (qa (pv 0) (qa qf qd))) (λ_ _=>rfl)))))))),?_⟩
  apply⟨(m:Int),rfl,by lk,by lk,?_⟩;rw[yS];show jG (lo:=0) (λi ys J=>But p H J/\Pu J p/\∃ gs:LN,ys=gs.map iV/\gs.Nodup/\(∀ k∈gs,k<i)/\gs.length<=i) ⟨λc o _ e=>e,hB,[],rfl,.nil,(λk B=>by cases B),yh _⟩ (λi ys J hi hp=>?_) λys J hp=>?_
  .obtain⟨bJ,y,gs,rfl,C,n,aj⟩:=hp;rw[xi];apply⟨p,ae,rfl,y,am,an,λd J2 hd X x=>?_⟩;apply qav ?_;apply qL (λhc=>?_) (λhc=>?_)
   .ext;show⟨by rw[ya];show qh (by lk),bJ.trans7 X,x,gs++[i],by rw[yt];rfl,Yk.mpr ⟨C,kf _ _,λa ha b hb e=>?_⟩,λk B=>?_,by rw[yu];simp;lk⟩
    .rw [yC.mp hb] at e;have:=n a ha;lk
    .rcases yG.mp B with z | z
     .have:=n k z;lk
     .rw [yC.mp z];lk
   .show⟨bJ.trans7 X,x,gs,rfl,C,(λk B=>by have:=n k B;lk),by lk⟩
  .obtain⟨bJ,y,gs,rfl,C,n,aj⟩:=hp;show⟨by rw[ya];show yN (qh (by lk)),λg hg=>?_⟩;have ak:=y.apart hg;have b1:=bJ.new7 (o:=.lst (gs.map iV)) hg;have eg:upd J g (.lst (gs.map iV)) g=some (.lst (gs.map iV)):=qb;have hB1:Pu (upd J g (.lst (gs.map iV))) p:=y.new hg;generalize upd J g (.lst (gs.map iV))=H1 at b1 eg hB1;apply j6 eg ?_;rw[ya];apply⟨_,_,rfl,?_⟩
   obtain⟨M,eM,ag,ah⟩:∃ M:Nat,(if ((gs.length:Nat):Int)>1 then((gs.length:Nat):Int) else 1)=(M:Int)/\0<M/\M<1000:=by
    by_cases h1:1<gs.length
    .rw [yH (by lk)];show⟨gs.length,rfl,by lk,by lk⟩
    .rw [yD (by lk)];show⟨1,rfl,by decide,by decide⟩
   rw[eM];apply⟨p,M,rfl,hB1,ag,ah,λj H2 ao X x=>?_⟩;have Y:=X _ _ ak eg;have af:=b1.trans7 X;apply vRv2 ?_;apply .inl ⟨g,_,rfl,.of Y,λR L=>?_⟩;have ed:qcr (gs.map iV) (some (j:Int)) none=(gs.drop j).map iV:=by rw[qaT,kB]
   rw[ed];have b3:=af.new7 (o:=.lst ((gs.drop j).map iV)) L;have s3:=qC (Sr H2) (o:=.lst ((gs.drop j).map iV)) L;have e3:upd H2 R (.lst ((gs.drop j).map iV)) R=some (.lst ((gs.drop j).map iV)):=qb;have aa:Pu (upd H2 R (.lst ((gs.drop j).map iV))) p:=x.new L;generalize upd H2 R (.lst ((gs.drop j).map iV))=H3 at b3 s3 e3 aa;apply .inl ⟨g,_,rfl,.of (s3 _ _ Y),λS N=>?_⟩;have et:qcr (gs.map iV) none (some (j:Int))=(gs.take j).map iV:=by rw[qag,Xr]
   rw[et];have b4:=b3.new7 (o:=.lst ((gs.take j).map iV)) N;have s4:=qC (Sr H3) (o:=.lst ((gs.take j).map iV)) N;have e4:upd H3 S (.lst ((gs.take j).map iV)) S=some (.lst ((gs.take j).map iV)):=qb;have D:Pu (upd H3 S (.lst ((gs.take j).map iV))) p:=aa.new N;generalize upd H3 S (.lst ((gs.take j).map iV))=H4 at b4 s4 e4 D;ext;show qeC K (V.ref R) (V.ref S) H4 _;show .inl ⟨R,S,_,_,rfl,rfl,s4 _ _ e3,e4,by rw[ya,ya,YU,yK];show yN (qh (by lk)),λU O=>?_⟩;have es:(gs.drop j).map iV++(gs.take j).map iV=(gs.drop j++gs.take j).map iV:=by rw[yt]
   rw[es]
   have u:(gs.drop j++gs.take j).Perm gs:=by
    have h1:=ko (l₁:=gs.drop j) (l₂:=gs.take j)
    rwa[xR] at h1
   have t:(gs.drop j++gs.take j).Nodup:=u.nodup_iff.mpr C;have s:∀ k∈gs.drop j++gs.take j,k<m:=λk B=>n k (u.mem_iff.mp B);generalize gs.drop j++gs.take j=fs at t s;have b5:=b4.new7 (o:=.lst (fs.map iV)) O;have e5:upd H4 U (.lst (fs.map iV)) U=some (.lst (fs.map iV)):=qb;have G:Pu (upd H4 U (.lst (fs.map iV))) p:=D.new O;have al:=D.apart O;generalize upd H4 U (.lst (fs.map iV))=H5 at b5 e5 G;apply vU ?_;apply⟨wqqe,λg4 A=>?_⟩;have b6:=b5.new7 (o:=.lst [.int 1,.int (-1)]) A;have s6:=qC (Sr H5) (o:=.lst [.int 1,.int (-1)]) A;have e6:upd H5 g4 (.lst [.int 1,.int (-1)]) g4=some (.lst [.int 1,.int (-1)]):=qb;have ac:Pu (upd H5 g4 (.lst [.int 1,.int (-1)])) p:=G.new A;have ad:=G.apart A;generalize upd H5 g4 (.lst [.int 1,.int (-1)])=H6 at b6 s6 e6 ac;apply⟨p,2,rfl,ac,by decide,by decide,λd H7 hd b7 I=>?_⟩;have e7:=b7 _ _ al (s6 _ _ e5);have W:=b6.trans7 b7;have Z:∀(xs:LN) (r:Addr),H7 r=none->xs.Nodup->(∀ k∈xs,k<m)->Q (.ref r) (upd H7 r (.lst (xs.map iV))):=λxs r l h1 h2=>q r xs _ (W.new7 l) (I.new l) (W.free7 (I.apart l) l) (I.apart l) qb h1 h2;have ai:d=0\/d=1:=by lk
   rcases ai with rfl | rfl
   .show .inl (zo (b7 _ _ ad e6) (v:=.int 1) rfl ?_);show⟨1,rfl,U,_,rfl,.of e7,.inr ⟨rfl,λr l=>Z fs r l t s⟩⟩
   .show .inl (zo (b7 _ _ ad e6) (v:=.int (-1)) rfl ?_);show⟨-1,rfl,U,_,rfl,.of e7,.inl ⟨rfl,λr l=>by rw[<- List.map_reverse];show Z fs.reverse r l ((kZ fs).nodup_iff.mpr t) λk B=>s k (kx.mp B)⟩⟩
def q9(m k:Nat):Nat:=m-(m &&& k)
theorem and_or_dis:∀(a b:Nat),a &&& b=0->a+b=a ||| b:=by
 intro a
 induction a using Nat.strongRecOn with
 | ind a ih =>
  intro b h;by_cases d:a=0
  .subst d;simp
  .have c:(a / 2) &&& (b / 2)=0:=by rw[<- Nat.and_div_two,h]
   have e:=ih (a / 2) (by lk) (b / 2) c
   have h1:(a % 2) &&& (b % 2)=0:=by
    have:=congrArg (· % 2) h;simpa [Nat.and_mod_two_pow (n:=1)] using this
   have j:(a ||| b) / 2=a / 2 ||| b / 2:=Nat.or_div_two
   have i:(a ||| b) % 2=(a % 2) ||| (b % 2):=by
    simpa using Nat.or_mod_two_pow (a:=a) (b:=b) (n:=1)
   have g:(a % 2) ||| (b % 2)=a % 2+b % 2:=by
    rcases Nat.mod_two_eq_zero_or_one a with x | x<;>rcases Nat.mod_two_eq_zero_or_one b with y | y<;>rw[x,y] at h1 ⊢<;>first | rfl | show absurd h1 (by decide)
   have f:=Nat.div_add_mod (a ||| b) 2;rw[j,i,g,<- e] at f;lk
theorem qY(m k c:Nat):(q9 m k).testBit c=(m.testBit c&&!k.testBit c):=by
 have a:(m &&& k) &&& (m ^^^ (m &&& k))=0:=by
  apply XD;intro i;simp only[Y6,Ks,Kj];cases m.testBit i<;>cases k.testBit i<;>rfl
 have h1:=and_or_dis _ _ a
 have d:(m &&& k) ||| (m ^^^ (m &&& k))=m:=by
  apply XD;intro i;simp only[Y6,Ks,YS];cases m.testBit i<;>cases k.testBit i<;>rfl
 have b:q9 m k=m ^^^ (m &&& k):=by unfold q9;lk
 rw[b];simp only[Y6,Ks];cases m.testBit c<;>cases k.testBit c<;>rfl
theorem jk(m k:Nat):Builtin.bitAnd (m:Int) (Builtin.bitNot (k:Int))=((q9 m k:Nat):Int):=by
 have a:Builtin.bitNot (k:Int)=-(k:Int)-1:=rfl;have b:Builtin.bitNot (-(k:Int)-1)=(k:Int):=by unfold Builtin.bitNot;lk
 unfold Builtin.bitAnd;rw[a,yz (by lk),yl (by lk)];dsimp only;rw[b,yS,yS];have:(m &&& k)<=m:=Kt;unfold q9;lk
theorem qdG(m k:Nat):Builtin.bitAnd (m:Int) (k:Int)=((m &&& k:Nat):Int):=by
 unfold Builtin.bitAnd;rw[yz (by lk),yz (by lk)];dsimp only;rw[yS,yS]
inductive Rr(bs:LN)(r k:Nat):Nat->Prop
 | zero:Rr bs r k k
 | step {a b:Nat} (h:Rr bs r k a) (t:zY bs a b=true) (i:r.testBit b=true):Rr bs r k b
theorem Rr.trans{bs:LN}{k a b:Nat}(h:Rr bs r k a)(g:Rr bs r a b):Rr bs r k b:=by
 induction g with
 | zero=>show h
 | step _ t i ih=>show .step ih t i
theorem Rr.in_{bs:LN}{k a:Nat}(h:Rr bs r k a)(b:r.testBit k=true):r.testBit a=true:=by
 cases h with
 | zero=>show b
 | step _ _ i=>show i
theorem Rr.symm{bs:LN}{k a:Nat}(d:∀ a b,zY bs a b=true->zY bs b a=true)(c:r.testBit k=true)(h:Rr bs r k a):Rr bs r a k:=by
 induction h with
 | zero=>show .zero
 | step h t i ih=>show Rr.trans (.step .zero (d _ _ t) (h.in_ c)) ih
theorem Rr.mono{bs:LN}{b k a:Nat}(d:∀ c,r.testBit c=true->b.testBit c=true)(h:Rr bs r k a):Rr bs b k a:=by
 induction h with
 | zero=>show .zero
 | step _ t i ih=>show .step ih t (d _ i)
def cnt(n P:Nat):Nat:=((List.range n).filter λc=>P.testBit c).length
def zD(n P:Nat):LN:=(List.range n).filter λc=>P.testBit c
theorem qf7(n P:Nat):cnt n P<=n:=yi (yI _ _) (by rw[YE];show yh _)
theorem qf8{P f:Nat}(h:∀ c,P.testBit c=true->f.testBit c=false):cnt n (P ||| f)=cnt n P+cnt n f:=by
 unfold cnt
 induction n with
 | zero=>rfl
 | succ n ih =>
  rw[YB,yZ,yZ,yZ,yu,yu,yu,ih];have e:(P ||| f).testBit n=(P.testBit n||f.testBit n):=YS ..;have b:=h n;simp only[yP,YA,e];cases d:P.testBit n<;>cases a:f.testBit n<;>simp_all<;>lk
def Lft(bs:LN)(r i c:Nat):Prop:=r.testBit c=true/\∀ j,j<i->r.testBit j=true->¬ Rr bs r j c
open Classical in
def zT(bs:LN)(r n:Nat):LN:=(List.range n).filter λk=>decide (Lft bs r k k)
open Classical in
def qaw(bs:LN)(r n k:Nat):LN:=(List.range n).filter λc=>decide (Rr bs r k c)
theorem qfj{bs:LN}(g:∀ a b,zY bs a b=true->zY bs b a=true)(e:∀ c,ri.testBit c=true↔Lft bs r i c)(hl:Lft bs r i i)(c:Nat):Rr bs ri i c↔Rr bs r i c:=by
 have up:∀ c,ri.testBit c=true->r.testBit c=true:=λc h=>((e c).mp h).1;constructor
 .show Rr.mono up
 .intro h
  induction h with
  | zero=>show .zero
  | @step a b h t ib ih =>
   show .step ih t ((e b).mpr ⟨ib,λj f l d=>hl.2 j f l ?_⟩);show d.trans (Rr.symm g hl.1 (.step h t ib))
theorem lft_next{bs:LN}{P:Nat}(n:∀ a b,zY bs a b=true->zY bs b a=true)(f:∀ c,ri.testBit c=true↔Lft bs r i c)(hl:Lft bs r i i)(l:∀ c,P.testBit c=true↔Rr bs ri i c)(c:Nat):(q9 ri P).testBit c=true↔Lft bs r (i+1) c:=by
 rw[qY,yL,f c,YD,<- Bool.not_eq_true,l c,qfj n f hl c];constructor
 .rintro ⟨h1,g⟩;show⟨h1.1,λj m o d=>?_⟩;by_cases e:j=i
  .subst e;show g d
  .show h1.2 j (by lk) o d
 .intro h;show⟨⟨h.1,λj m=>h.2 j (by lk)⟩,h.2 i (by lk) hl.1⟩
theorem lft_skip{bs:LN}(l:∀ c,ri.testBit c=true↔Lft bs r i c)(hl:¬ Lft bs r i i)(c:Nat):ri.testBit c=true↔Lft bs r (i+1) c:=by
 rw[l c];constructor
 .intro h;show⟨h.1,λj m f a=>?_⟩;by_cases e:j=i
  .subst e;apply hl;show⟨f,λn b d g=>h.2 n b d (g.trans a)⟩
  .show h.2 j (by lk) f a
 .intro h;show⟨h.1,λj m=>h.2 j (by lk)⟩
structure WkJ(bs:LN)(n r i P:Nat)(L:LN):Prop where
 to:∀ c,P.testBit c=true->Rr bs r i c
 self:P.testBit i=true
 lin:∀ a∈L,P.testBit a=true
 cl:∀ a,P.testBit a=true->a∉L->∀ b,zY bs a b=true->r.testBit b=true->P.testBit b=true
 lt:P<2 ^ n
theorem WkJ.done{bs:LN}{P:Nat}(h:WkJ bs n r i P [])(c:Nat):P.testBit c=true↔Rr bs r i c:=by
 constructor
 .show h.to c
 .intro g
  induction g with
  | zero=>show h.self
  | @step a b _ t ib ih=>show h.cl a ih (by simp) b t ib
theorem qfk{P c:Nat}(h:P<2 ^ n)(hc:P.testBit c=true):c<n:=by
 apply yX;intro a;rw[kn (yj h (Y7 (by decide) (by lk)))] at hc;cases hc
theorem WkJ.next{bs:LN}{P:Nat}{L:LN}{a:Nat}(h:WkJ bs n r i P (L++[a]))(hb:∀ a,bs.getD a 0<2 ^ n):WkJ bs n r i (P ||| q9 (bs.getD a 0 &&& r) P) (L++zD n (q9 (bs.getD a 0 &&& r) P))/\2*(n-cnt n (P ||| q9 (bs.getD a 0 &&& r) P))+(L++zD n (q9 (bs.getD a 0 &&& r) P)).length<2*(n-cnt n P)+(L++[a]).length:=by
 generalize v:q9 (bs.getD a 0 &&& r) P=f
 have m:∀ c,f.testBit c=true↔zY bs a c=true/\r.testBit c=true/\P.testBit c=false:=λc=>by
  rw[<- v,qY,Y6];unfold zY;cases (bs.getD a 0).testBit c<;>cases r.testBit c<;>cases P.testBit c<;>simp
 have pa:=h.lin a (by simp)
 have s:f<2 ^ n:=by
  rw[<- v];unfold q9;have h1:bs.getD a 0 &&& r<=bs.getD a 0:=Kt;have u:=hb a;lk
 have d:∀ c,P.testBit c=true->f.testBit c=false:=λc hc=>by
  cases e:f.testBit c with
  | false=>rfl
  | true=>have:=((m c).mp e).2.2;rw[hc] at this;cases this
 have g:∀ c,(P ||| f).testBit c=true↔P.testBit c=true\/f.testBit c=true:=λc=>by rw[YS,Y5]
 have x:∀ c,c∈zD n f↔f.testBit c=true:=λc=>by
  unfold zD;rw[yp,Yh];show⟨λz=>z.2,λz=>⟨qfk s z,z⟩⟩
 show⟨⟨λc hc=>?_,(g i).mpr (.inl h.self),λc hc=>?_,λc hc l b t w=>?_,xx h.lt s⟩,?_⟩
 .rcases(g c).mp hc with z | z
  .show h.to c z
  .have y:=(m c).mp z;show .step (h.to a pa) y.1 y.2.1
 .rcases yG.mp hc with z | z
  .show(g c).mpr (.inl (h.lin c (by simp[z])))
  .show(g c).mpr (.inr ((x c).mp z))
 .have o:c∉L:=λz=>l (Yd _ z)
  have p:f.testBit c=false:=by
   cases e:f.testBit c with
   | false=>rfl
   | true=>show absurd (yR L ((x c).mpr e)) l
  have q:P.testBit c=true:=by
   rcases(g c).mp hc with z | z
   .show z
   .rw [p] at z;cases z
  by_cases e:c=a
  .subst e
   cases j:P.testBit b with
   | true=>show(g b).mpr (.inl j)
   | false=>show(g b).mpr (.inr ((m b).mpr ⟨t,w,j⟩))
  .show(g b).mpr (.inl (h.cl c q (λz=>?_) b t w));rcases yG.mp z with z | z
   .show o z
   .show e (yC.mp z)
 .rw [qf8 d,yu,yu];have h1:=qf7 n (P ||| f);rw[qf8 d] at h1;have u:(zD n f).length=cnt n f:=rfl;rw[u];simp only[yx,Yv];lk
theorem WkJ.start{bs:LN}(d:i<n):WkJ bs n r i (2 ^ i) [i]:=by
 have e:∀ c,(2 ^ i).testBit c=true↔i=c:=λc=>by rw[Yj,yJ]
 show⟨λc hc=>(e c).mp hc ▸ .zero,(e i).mpr rfl,λa b=>(e a).mpr (yC.mp b).symm,λa b f=>absurd (yC.mpr ((e a).mp b).symm) f,xv (by decide) d⟩
theorem KI:FnScope wqd wqp (qg zc):=fS
inductive spPjJ(vs:List V)(H:Hp)(Q:VK)(E:XK):Prop|mk (bb:Addr) (n r:Nat) (bs:LN) (_:vs=[.int (n:Int),.ref bb,.int (r:Int)]) (_:n<=14) (_:H bb=some (.lst (zh bs))) (_:bs.length=n) (_:(∀ a,bs.getD a 0<2 ^ n)) (_:(∀ a b,zY bs a b=true->zY bs b a=true)) (_:r<2 ^ n) (_:∀(l:Addr) (ls:LI) (H':Hp),L2.Same H H'->H l=none->H' l=some (.lst (ls.map V.ref))->All2 (λa ks=>H' a=some (.lst (ks.map iV))) ls ((zT bs r n).map (qaw bs r n))->Q (.ref l) H')
theorem qdH(b j:Nat):(if false=true then !eqV (V.int (Builtin.bitAnd ((b:Int) / 2 ^ (j:Int).toNat) 1)) (V.int 1) else eqV (V.int (Builtin.bitAnd ((b:Int) / 2 ^ (j:Int).toNat) 1)) (V.int 1))=b.testBit j:=by
 rw[jA];show zC b j
open Classical in
theorem reps_on{bs:LN}(h:Lft bs r i i):zT bs r (i+1)=zT bs r i++[i]:=by
 unfold zT;rw[YB,yZ,yP,yH (yz h)];rfl
open Classical in
theorem reps_off{bs:LN}(h:¬ Lft bs r i i):zT bs r (i+1)=zT bs r i:=by
 unfold zT;rw[YB,yZ,yP,yD (λz=>h (yk z))];simp
theorem qbG{f:Nat}:zD (n+1) f=zD n f++if f.testBit n=true then [n] else []:=by
 unfold zD;rw[YB,yZ,yP];rfl
theorem qa3(n f:Nat):(zD n f).length<=n:=qf7 n f
theorem ok_pjJ(F:Fun K "_law_pieces" "_law_pieces" zc f fd)(T:Txt K mg cc cw):wqqb 1 f fd wqp spPjJ:=by
 show F.ok KI λ_ _ _ _ H vs Q E hr h=>?_
 .obtain⟨bb,n,r,bs,rfl,hn,ad,av,hb,ag,an,q⟩:=h;have hu:=za hr;show⟨_,(qc (qk (i:=3) KI.nd rfl (yF rfl) (qz qd))
 (qc (qR yW rfl (qT rfl T.b_range (qa (pv 0) qd)) (qm (i:=4) KI.nd rfl (yF rfl))
 (qe (qN (qq (jS (K:=K) rfl hu) (qp jF (qp qaJ (pv 2) (pv 4)) qf) qf (qB _)) (qc (qk (i:=5) KI.nd rfl (Xg rfl) (qp j7 qf (pv 4)))
 (qc (qk (i:=6) KI.nd rfl (yF rfl) (qz (qa (pv 4) qd)))
 (qc (qcp yW (qq (qaf (K:=K) rfl hu) (pv 6) (qz qd) (qB _))
 (qc (qk (i:=7) KI.nd rfl (Xg rfl) (qp jF (qp jF (qu (qv (K:=K) rfl hu) (pv 1) (k_bm0 (K:=K) rfl yV PySem.F.slot_list_pop PySem.F.type_list_pop mtR_pop (pv 6)) (λ_ _=>rfl)) (pv 2)) (qcq qbj (pv 5))))
 (qc (qk (i:=5) KI.nd rfl (Xg rfl) (qp qdq (pv 5) (pv 7)))
 (qe (qW (qcg (K:=K) rfl yV PySem.F.slot_list_extend PySem.F.type_list_extend mtR_extend (pv 6) (qa (jh (sc:=qg zc) (XN:=wqd) ["_law_j","_law_fresh"] 1 [7] rfl rfl rfl (by room) rfl (by room)
  (qT rfl T.b_range (qa (pv 0) qd)) (λ_ _ _ _=>(qm (i:=0) (show(["_law_j","_law_fresh"]:LS).Nodup by room) rfl (yF rfl))) qF
  (λ_ _ _ _=>(qP (qq (jS (K:=K) rfl hu) (qp jF (qp qaJ (pv 1) (pv 0)) qf) qf (qB _))))
  (λ_ _ _ _=>(pv 0))) qd)))))))
 (qc (qk (i:=2) KI.nd rfl (yF rfl) (qp jF (pv 2) (qcq qbj (pv 5))))
 (qe (qW (qcg (K:=K) rfl yV Yb Yc qG (pv 3) (qa (jh (sc:=qg zc) (XN:=wqd) ["_law_j","_law_piece"] 1 [5] rfl rfl rfl (by room) rfl (by room)
  (qT rfl T.b_range (qa (pv 0) qd)) (λ_ _ _ _=>(qm (i:=0) (show(["_law_j","_law_piece"]:LS).Nodup by room) rfl (yF rfl))) qF
  (λ_ _ _ _=>(qP (qq (jS (K:=K) rfl hu) (qp jF (qp qaJ (pv 1) (pv 0)) qf) qf (qB _))))
  (λ_ _ _ _=>(pv 0))) qd)))))))) qw)))
 (qe (qr (pv 3))))),?_⟩
  apply⟨wqqc,λl hl=>?_⟩;have s1:=qC (Sr H) (o:=.lst []) hl;have el:upd H l (.lst []) l=some (.lst []):=qb;generalize upd H l (.lst [])=H1 at s1 el;apply⟨(n:Int),rfl,by lk,by lk,?_⟩;rw[yS];show jL (lo:=0) (n:=n) (λi C J=>L2.Same H J/\∃(ri:Nat) (A:LI) (y4 y5 y6 B:Option V),C=[some (.int (n:Int)),some (.ref bb),some (.int (ri:Int)),some (.ref l),y4,y5,y6,B]/\ri<2 ^ n/\(∀ c,ri.testBit c=true↔Lft bs r i c)/\J l=some (.lst (A.map V.ref))/\All2 (λa ks=>J a=some (.lst (ks.map iV))/\a≠l) A ((zT bs r i).map (qaw bs r n))) ⟨s1,r,[],_,_,_,_,rfl,an,λc=>⟨λh=>⟨h,λj hj=>absurd hj (by lk)⟩,λh=>h.1⟩,el,.nil⟩ (λi C J hi t=>?_) λC J t=>?_
  .obtain⟨S,ri,A,y4,y5,y6,B,rfl,R,p,eJ,hA⟩:=t;rw[xi];apply vI (by lk) ?_;apply .inl (.inl (.inl ⟨rfl,rfl,?_⟩));rw[qdH];ext
   have aw:A.length<=i:=by
    rw[hA.len,ya];unfold zT;show yi (yI _ _) (by rw[YE];show yh _)
   show qL (λh1=>?_) (λh1=>?_)
   .have N:Lft bs r i i:=(p i).mp h1;apply vI ⟨by lk,by lk,by decide⟩ ?_;rw[qdB];apply⟨wqqd,λb O=>?_⟩;have s2:=qC (Sr J) (o:=.lst ([i].map iV)) O;have aa:upd J b (.lst ([i].map iV)) b=some (.lst ([i].map iV)):=qb;have eu:upd J b (.lst [V.int (i:Int)])=upd J b (.lst ([i].map iV)):=rfl;rw[eu];have ar:H b=none:=S.free O;have v:∀{c:Addr} {o:HO},J c=some o->c≠b:=λe z=>by rw[z,O] at e;cases e
    generalize upd J b (.lst ([i].map iV))=J2 at s2 aa;apply⟨λm C J'=>∃(d:Nat) (L:LN) (B:Option V),C=[some (.int (n:Int)),some (.ref bb),some (.int (ri:Int)),some (.ref l),some (.int (i:Int)),some (.int (d:Int)),some (.ref b),B]/\But b J2 J'/\J' b=some (.lst (L.map iV))/\WkJ bs n ri i d L/\2*(n-cnt n d)+L.length<=m/\2*(n-cnt n d)+L.length<=30,⟨_,2 ^ i,[i],_,rfl,(λc o _ e=>e),aa,WkJ.start hi,yh _,by show 2*(n-cnt n (2 ^ i))+1<=30;lk⟩,λm C J' hW=>?_⟩;obtain⟨d,L,B,rfl,b3,e3,wk,hm,ak⟩:=hW;apply⟨wqqc,λe al=>?_⟩;have s3:=qC (Sr J') (o:=.lst []) al;have ee:upd J' e (.lst []) e=some (.lst []):=qb;generalize upd J' e (.lst [])=W at s3 ee;have u:=s3 _ _ e3;have keep:∀ c o,J c=some o->W c=some o:=λc o z=>s3 _ _ (b3 c o (v z) (s2 _ _ z))
    have hL:L=[]\/∃ s a,L=s++[a]:=by
     rcases List.eq_nil_or_concat L with h | ⟨s,a,h⟩
     .show .inl h
     .show .inr ⟨s,a,by rw[h,List.concat_eq_append]⟩
    rcases hL with rfl | ⟨s,a,rfl⟩
    .show .inr (.inl ⟨b,e,true,1,rfl,rfl,by decide,(EqT.lst (n:=0) (e:=λ_=>true) (SqL.of u) (SqL.of ee) rfl λj x y h=>by(simp at h)),?_⟩);apply yq ?_;apply vU ?_;ext;rw[jk];have I:=keep _ _ eJ;show⟨.inl ⟨rfl,_,.of I⟩,?_⟩;apply⟨(n:Int),rfl,by lk,by lk,?_⟩;rw[yS];show jG (lo:=0) (λk U G=>G=W/\U=(zD k d).map iV) ⟨rfl,rfl⟩ (λk U G hk t=>?_) λU G t=>?_
     .obtain⟨rfl,rfl⟩:=t;rw[xi];apply vI (by lk) ?_;apply .inl (.inl (.inl ⟨rfl,rfl,?_⟩));rw[qdH];ext;have bl:=qa3 k d;show qL (λhc=>?_) (λhc=>?_)
      .ext;show⟨by rw[ya];show qh (by lk),rfl,?_⟩;rw[qbG,yH hc,yt];rfl
      .show⟨rfl,?_⟩;rw[qbG,yD hc,Yg]
     .obtain⟨rfl,rfl⟩:=t;have bl:=qa3 n d;show⟨by rw[ya];show yN (qh (by lk)),λg hg=>?_⟩;have s4:=qC (Sr G) (o:=.lst ((zD n d).map iV)) hg;have Z:upd G g (.lst ((zD n d).map iV)) g=some (.lst ((zD n d).map iV)):=qb;have gl:g≠l:=λz=>by rw[z,I] at hg;cases hg
      generalize upd G g (.lst ((zD n d).map iV))=D at s4 Z;have aj:=s4 _ _ I;apply⟨l,_,_,rfl,rfl,aj,by rw[ya];show qh (by lk),?_⟩;have wd:=wk.done;have ao:q9 ri d<2 ^ n:=YH (by unfold q9;lk) R
      have ec:qaw bs r n i=zD n d:=by
       classical
       unfold qaw zD;apply YL;intro c _;rw[Yu,yJ,wd c,qfj ag p N c]
      show⟨λc o z=>?_,q9 ri d,A++[g],_,_,_,_,rfl,ao,lft_next ag p N wd,by rw[qb,yt];rfl,?_⟩
      .rw [qi (λz'=>by rw[z',hl] at z;cases z)];show s4 _ _ (keep _ _ (S c o z))
      .rw [reps_on N,yt];show All2.snoc (hA.mono λa ks z=>⟨by rw[qi z.2];show s4 _ _ (keep _ _ z.1),z.2⟩) ⟨by rw[qi gl,ec];show Z,gl⟩
    .show .inr (.inl ⟨b,e,false,1,rfl,rfl,by decide,EqT.lstL (SqL.of u) (SqL.of ee) (by simp),?_⟩);apply zX ⟨λC D=>∃(d:Nat) (L:LN) (B:Option V),C=[some (.int (n:Int)),some (.ref bb),some (.int (ri:Int)),some (.ref l),some (.int (i:Int)),some (.int (d:Int)),some (.ref b),B]/\But b J2 D/\D b=some (.lst (L.map iV))/\WkJ bs n ri i d L/\2*(n-cnt n d)+L.length<m/\2*(n-cnt n d)+L.length<=30,λax D ⟨ap,L2,y,e',X,Y,aq,am,ac⟩=>⟨_,am,ap,L2,y,e',X,Y,aq,yh _,ac⟩,?_⟩;apply⟨.inl ⟨rfl,_,.of u⟩,?_⟩;have pa:=wk.lin a (by simp);have au:a<n:=qfk wk.lt pa;show⟨b,_,iV a,rfl,rfl,u,by rw[ya,yu,yd];simp,?_⟩;have ed:((s++[a]).map iV).dropLast=s.map iV:=by rw[yt];simp
     rw[ed];have X:But b J2 (upd W b (.lst (s.map iV))):=λc o hc z=>by rw[qi hc];show s3 _ _ (b3 c o hc z)
     have Y:upd W b (.lst (s.map iV)) b=some (.lst (s.map iV)):=qb;generalize upd W b (.lst (s.map iV))=D at X Y;have ae:D bb=some (.lst (zh bs)):=X _ _ (v (S _ _ ad)) (s2 _ _ (S _ _ ad));show .inl (zo ae (qt (je (by lk))) ?_);ext;rw[qdG];show vU ?_;ext;rw[jk,qdA];obtain⟨ah,ai⟩:=wk.next hb;generalize q9 (bs.getD a 0 &&& ri) d=M at ah ai;show⟨.inl ⟨rfl,_,.of Y⟩,?_⟩;apply⟨(n:Int),rfl,by lk,by lk,?_⟩;rw[yS];show jG (lo:=0) (λk U G=>G=D/\U=(zD k M).map iV) ⟨rfl,rfl⟩ (λk U G hk t=>?_) λU G t=>?_
     .obtain⟨rfl,rfl⟩:=t;rw[xi];apply vI (by lk) ?_;apply .inl (.inl (.inl ⟨rfl,rfl,?_⟩));rw[qdH];ext;have bl:=qa3 k M;show qL (λhc=>?_) (λhc=>?_)
      .ext;show⟨by rw[ya];show qh (by lk),rfl,?_⟩;rw[qbG,yH hc,yt];rfl
      .show⟨rfl,?_⟩;rw[qbG,yD hc,Yg]
     .obtain⟨rfl,rfl⟩:=t;have bl:=qa3 n M;show⟨by rw[ya];show yN (qh (by lk)),λg hg=>?_⟩;have s5:=qC (Sr G) (o:=.lst ((zD n M).map iV)) hg;have Z:upd G g (.lst ((zD n M).map iV)) g=some (.lst ((zD n M).map iV)):=qb;generalize upd G g (.lst ((zD n M).map iV))=J5 at s5 Z;ext;have as:s.length<=30:=by rw[yu] at ak;lk
      show⟨b,g,_,_,rfl,rfl,s5 _ _ Y,Z,by rw[ya,ya];show yN (qh (by lk)),?_⟩;apply⟨_,_,_,rfl,λc o hc z=>by rw[qi hc];show s5 _ _ (X c o hc z),by rw[qb,yt],ah,by lk,by lk⟩
   .ext;have af:¬ Lft bs r i i:=λz=>h1 ((p i).mpr z);show⟨S,ri,A,_,_,_,_,rfl,R,lft_skip p af,eJ,by rw[reps_off af];show hA⟩
  .obtain⟨S,ri,A,y4,y5,y6,B,rfl,R,p,eJ,hA⟩:=t;apply q l A J S hl eJ (hA.mono λa ks z=>z.1)
def qH(r n:Nat):LN:=(List.range n).filter λk=>r.testBit k
theorem kept_mem{k:Nat}:k∈qH r n↔k<n/\r.testBit k=true:=by unfold qH;rw[yp,Yh]
theorem qel(r n:Nat):(qH r n).Pairwise (· < ·):=List.Pairwise.filter _ List.pairwise_lt_range
theorem qcA{p q a b:Nat}(i:(qH r n)[p]?=some a)(hb:(qH r n)[q]?=some b):p<q↔a<b:=by
 have e:=xn.mp (qel r n);obtain⟨f,c⟩:=yc.mp i;obtain⟨g,d⟩:=yc.mp hb;constructor
 .intro h;rw[<- c,<- d];show e p q f g h
 .intro h;rcases x0 p q with z | z | z
  .show z
  .subst z;rw[c] at d;lk
  .have:=e q p g f z;rw[c,d] at this;lk
def Sub(bs ns:LN)(r n:Nat):Prop:=∀ p q a b,(qH r n)[p]?=some a->(qH r n)[q]?=some b->((ns.getD p 0).testBit q=true↔zY bs a b=true)
theorem rch_of{bs:LN}(h:Sub bs ns r n)(hl:ns.length=(qH r n).length)(hb:∀ a,ns.getD a 0<2 ^ ns.length){p a:Nat}(f:(qH r n)[p]?=some a){q:Nat}(g:Rch ns p q):∃ b,(qH r n)[q]?=some b/\Rr bs r a b:=by
 induction g with
 | zero=>show⟨a,f,.zero⟩
 | @step c d _ t ih =>
  obtain⟨x,i,j⟩:=ih;have e:d<(qH r n).length:=by rw[<- hl];show qfk (hb c) t
  show⟨_,yb e,.step j ((h c d _ _ i (yb e)).mp t) ?_⟩;show(kept_mem.mp (Xj e)).2
theorem of_rch{bs:LN}(h:Sub bs ns r n)(e:∀ a b,zY bs a b=true->b<n){p a:Nat}(j:(qH r n)[p]?=some a){b:Nat}(g:Rr bs r a b):∃ q,(qH r n)[q]?=some b/\Rch ns p q:=by
 induction g with
 | zero=>show⟨p,j,.zero⟩
 | @step c d _ t i ih =>
  obtain⟨x,m,o⟩:=ih;have l:d∈qH r n:=kept_mem.mpr ⟨e _ _ t,i⟩;obtain⟨q,f⟩:=yf l;show⟨q,f,.step o ((h x q _ _ m f).mpr t)⟩
theorem qdI{bs:LN}(h:Sub bs ns r n)(hl:ns.length=(qH r n).length)(hb:∀ a,ns.getD a 0<2 ^ ns.length)(c:∀ a b,zY bs a b=true->b<n){p q a b:Nat}(f:(qH r n)[p]?=some a)(d:(qH r n)[q]?=some b):Rch ns p q↔Rr bs r a b:=by
 constructor
 .intro g;obtain⟨i,e,z⟩:=rch_of h hl hb f g;rw[d] at e;cases e;show z
 .intro g;obtain⟨q',e,z⟩:=of_rch h c f g
  have:q'=q:=by
   rcases x0 q' q with y | y | y
   .have:=(qcA e d).mp y;lk
   .show y
   .have:=(qcA d e).mp y;lk
  rw[this] at z;show z
theorem rep_iff{bs:LN}(h:Sub bs ns r n)(hl:ns.length=(qH r n).length)(hb:∀ a,ns.getD a 0<2 ^ ns.length)(d:∀ a b,zY bs a b=true->b<n){p a:Nat}(c:(qH r n)[p]?=some a):qdC ns p=true↔Lft bs r a a:=by
 rw[isRep_iff];have m:=kept_mem.mp (ye c);constructor
 .intro g;show⟨m.2,λj i o z=>?_⟩;obtain⟨q,l⟩:=yf (kept_mem.mpr ⟨by lk,o⟩:j∈qH r n);show g q ((qcA l c).mpr i) ((qdI h hl hb d l c).mpr z)
 .intro g j i z;have f:j<(qH r n).length:=Km i (yc.mp c).1;have e:=yb f;show g.2 _ ((qcA e c).mp i) (kept_mem.mp (Xj f)).2 ((qdI h hl hb d e c).mp z)
theorem qem(K:LN):(List.range K.length).map (λi=>K.getD i 0)=K:=by
 show List.ext_getElem (by simp) λi h1 a=>?_;rw[List.getElem_map,List.getElem_range,Yq,yb a];rfl
theorem qcB{K:LN}{p:Nat}(h:p<K.length):K[p]?=some (K.getD p 0):=by rw[Yq,yb h];rfl
theorem qen(K:LN)(f:Nat->Bool):K.filter f=((List.range K.length).filter λp=>f (K.getD p 0)).map λp=>K.getD p 0:=by
 conv=>lhs;rw[<- qem K]
 rw[kI];rfl
theorem qeo(f:Nat->Bool)(h:∀ k,k<n->f k=true->r.testBit k=true):(List.range n).filter f=(qH r n).filter f:=by
 unfold qH;rw[kR];apply YL;intro k a;have:=h k (Yh.mp a)
 cases e:f k with
 | false=>rfl
 | true=>rw[this e];rfl
open Classical in
theorem pieces_eq{bs:LN}(B:ss.Nodup)(h:Sub bs ns r ss.length)(hl:ns.length=(qH r ss.length).length)(hb:∀ a,ns.getD a 0<2 ^ ns.length)(f:∀ a b,zY bs a b=true->b<ss.length) :
  (qfy ns ((qH r ss.length).map (tn ss)).length).map (qdc ((qH r ss.length).map (tn ss)) ns)=((zT bs r ss.length).map (qaw bs r ss.length)).map λc=>c.map (tn ss):=by
 have m:∀ k∈qH r ss.length,k<ss.length/\r.testBit k=true:=λk g=>kept_mem.mp g
 have x:zT bs r ss.length=((List.range (qH r ss.length).length).filter λp=>qdC ns p).map λp=>(qH r ss.length).getD p 0:=by
  have:zT bs r ss.length=(qH r ss.length).filter λk=>decide (Lft bs r k k):=qeo _ λk _ g=>(yk g).1;rw[this,qen]
  congr 1
  apply YL;intro p i;rw[Yu,yJ];show(rep_iff h hl hb f (qcB (Yh.mp i))).symm
 have y:∀ p,p<(qH r ss.length).length->qdc ((qH r ss.length).map (tn ss)) ns p=(qaw bs r ss.length ((qH r ss.length).getD p 0)).map (tn ss):=λp i=>by
  have d:=qcB i;have o:=m _ (ye d);have v:qaw bs r ss.length ((qH r ss.length).getD p 0)=(qH r ss.length).filter λc=>decide (Rr bs r ((qH r ss.length).getD p 0) c):=qeo _ λk _ g=>(yk g).in_ o.2
  have nd:((qH r ss.length).map (tn ss)).Nodup:=by
   show YM.mpr ((qel r ss.length).imp_of_mem λ{a b} z n A e=>?_);have:=zJ B (m a z).1 (m b n).1 e;lk
  rw[v,qen];unfold qdc
  have l:(qH r ss.length).map (tn ss)=(List.range (qH r ss.length).length).map λq=>tn ss ((qH r ss.length).getD q 0):=by
   conv=>lhs;rw[<- qem (qH r ss.length)]
   rw[XH];rfl
  have u:∀ q,q<(qH r ss.length).length->((qH r ss.length).map (tn ss)).idxOf (tn ss ((qH r ss.length).getD q 0))=q:=λq t=>qb0 nd (by rw[yd,qcB t];rfl);generalize C:(qH r ss.length).map (tn ss)=M at l u;rw[l,kI,XH,<- l]
  have w:(List.range (qH r ss.length).length).filter ((λs=>decide (Rch ns p (M.idxOf s))) ∘ λq=>tn ss ((qH r ss.length).getD q 0))=(List.range (qH r ss.length).length).filter λq=>decide (Rr bs r ((qH r ss.length).getD p 0) ((qH r ss.length).getD q 0)):=by
   apply YL;intro q t;have j:=Yh.mp t;show decide (Rch ns p (M.idxOf (tn ss ((qH r ss.length).getD q 0))))=_;rw[u q j,Yu,yJ,yJ];show qdI h hl hb f d (qcB j)
  rw[w];rfl
 rw[x,XH,XH];unfold qfy;rw[ya];apply List.map_congr_left;intro p i;show y p (Yh.mp (yp.mp i).1)
theorem KU:FnScope wqE ["self","places"] (qg js):=fS
def qaj(l:LS)(tps:LP):LP:=tps.filter λq=>decide (q.1∈l)&&decide (q.2∈l)
def zK(l bar:LS):LS:=l.filter λs=>!decide (s∈bar)
theorem qep(l bar:LS):(zK l bar).length<=l.length:=yI _ _
theorem mem_out{l bar:LS}{a:Str}:a∈zK l bar↔a∈l/\a∉bar:=by unfold zK;rw[yp];simp
def OutN(ss:LS)(kvs:List (Key×V))(xs:LS):Prop:=∀(j:Nat) (s:Str),ss[j]?=some s->(zG kvs (.inl (j:Int):Key)).isSome=decide (s∈xs)
inductive spWo(cw:Addr)(vs:List V)(H:Hp)(Q:VK)(E:XK):Prop|mk (x a:Addr) (ss:LS) (ns:LN) (tps:LP) (bar:LS) (_:vs=[.ref x,.ref a]) (_:Wt cw H x ss ns tps) (_:(j0 ss ns ss.length).length<=30) (_:H a=some (.lst (bar.map V.str))) (_:(∀ s∈bar,s∈ss)) (_:bar.length<=14) (_:∀(y:Addr) (ms:LN) (H':Hp),L2.Same H H'->Wt cw H' y (zK ss bar) ms (qaj (zK ss bar) tps)->Q (.ref y) H')
theorem ok_wo(F:Fun K "without" "Web.without" js f fd)(T:Txt K mg cc cw)(KO:wqqa 4 cw "number_of" wqi (spNum cw))(Ua:wqqa 7 cw "ties" wq2 (spTs cw))(u9:MakeOk P w K mg base CX0 5 cw "Web" wqD (spWeb cw)):wqqb 8 f fd ["self","places"] (spWo cw):=by
 show F.ok KU λ_ _ _ _ H vs Q E hr h=>?_
 .obtain⟨x,a,ss,ns,tps,bar,rfl,W,ah,u,hv,aq,q⟩:=h;have hu:=za hr;obtain⟨wx,dd,ol,nn,hb,aj,an,aw,hw⟩:=id W.web;have few:=hw.few;show⟨_,(qc (qN (qS (qQ (qj (qcu (K:=K) rfl) rfl T.b_isinstance Yz (qa (pv 1) (qa (jg (qa (jB (v:=.ty "list") rfl T.b_list XG rfl) (qa (jB (v:=.ty "tuple") rfl T.b_tuple XW rfl) qd))) qd))))) (qe jl) qw)
 (qc (qk (i:=2) KU.nd rfl (Xg rfl) j8)
 (qc (qR yW rfl (qK (K:=K) rfl (pv 1)) (qm (i:=3) KU.nd rfl (yF rfl))
 (qe (jK ju (jJ (pv 2) (qX KO (hmR hr) (pv 0) (qa (pv 3) qd)) (jN hu)))))
 (qc (qk (i:=4) KU.nd rfl (Xg rfl) (jh (sc:=qg js) (XN:=wqE) ["name","out","self"] 1 [2,0] rfl rfl rfl (by room) rfl (by room)
  (qK (K:=K) rfl (jH (K:=K) rfl (pv 0) rfl)) (λ_ _ _ _=>(qm (i:=0) (show(["name","out","self"]:LS).Nodup by room) rfl (yF rfl))) qF
  (λ_ _ _ _=>(qP (qq (zQ (K:=K) rfl hu) (qu (qv (K:=K) rfl hu) (jH (K:=K) rfl (pv 2) rfl) (pv 0) (λ_ _=>rfl)) (pv 1) (by with_unfolding_all rfl))))
  (λ_ _ _ _=>(pv 0))))
 (qc (j5 (sc:=qg js) (XN:=wqE) ["tie","names"] 1 [4] rfl rfl rfl (by room) rfl (by room) (i:=5) KU.nd rfl rfl
  (qK (K:=K) rfl (qbW Ua (hmR hr) (pv 0))) (λ_ _ _ _=>(qm (i:=0) (show(["tie","names"]:LS).Nodup by room) rfl (yF rfl))) qF
  (λ_ _ _ _=>(qP (PW.pt (qb9 (qq (qbp (K:=K) rfl hu) (qu (qv (K:=K) rfl hu) (pv 0) qf (λ_ _=>rfl)) (pv 1) (by with_unfolding_all rfl)) (qco (qq (qbp (K:=K) rfl hu) (qu (qv (K:=K) rfl hu) (pv 0) qf (λ_ _=>rfl)) (pv 1) (by with_unfolding_all rfl)))))))
  (λ_ _ _ _=>(pv 0)))
 (qe (qr (qd7 u9 (hmR hr) (qa (pv 4) (qa (pv 5) qd)))))))))),?_⟩
  apply⟨wqqe,λg hg=>?_⟩;have s0:=qC (Sr H) (o:=.tup [.ty "list",.ty "tuple"]) hg;apply qdz (s0 _ _ u) qb ?_;apply yq ?_;ext;intro d hd;have s1:=qC s0 (o:=.dK []) hd;have ed:upd (upd H g (.tup [.ty "list",.ty "tuple"])) d (.dK []) d=some (.dK []):=qb;have ai:H d=none:=s0.free hd;generalize upd (upd H g (.tup [.ty "list",.ty "tuple"])) d (.dK [])=H1 at s1 ed;apply .inl ⟨⟨_,.of (s1 _ _ u)⟩,qO (xs:=bar.map V.str) (λi σ J=>L2.Same H J/\∃(kvs:List (Key×V)) (y3 y4 y5:Option V),σ=[some (.ref x),some (.ref a),some (.ref d),y3,y4,y5]/\J d=some (.dK kvs)/\kvs.length<=i/\OutN ss kvs (bar.take i)) ⟨s1,[],_,_,_,rfl,ed,yh _,λj s' _=>by simp[zG]⟩ (λi σ J _ C=>.of (C.1 _ _ u)) (λi y σ J N C=>?_) fun σ J C=>?_⟩
  .obtain⟨O,kvs,y3,y4,y5,rfl,U,Y,p⟩:=C;obtain⟨v,gv,rfl⟩:=jU N;have al:=(yc.mp gv).1;have ao:bar.take (i+1)=bar.take i++[v]:=by rw[yO,gv];rfl
   obtain⟨j,gj⟩:=yf (hv v (ye gv));apply⟨x,wx,_,rfl,O _ _ hb,qaa (by room),?_⟩;apply⟨x,ss,ns,v,j,rfl,W.web.same O,gj,λJ2 s2=>?_⟩;show .inr ⟨d,_,rfl,DPut.k (k:=Sum.inl (j:Int)) (s2 _ _ U) (qh (by lk)),?_⟩;show⟨qdy (O.trans s2) ai,_,_,_,_,rfl,qb,?_,λj' s' L=>?_⟩
   .have:=ze kvs (Sum.inl (j:Int):Key) (V.bl true);lk
   .rw [valV_put,ao];by_cases e:j'=j
    .subst e;rw[yH rfl];have:s'=v:=by rw[L] at gj;show ym gj
     simp[this]
    .rw [yD (λz=>e (by have:=Sum.inl.inj z;lk)),p j' s' L];have B:¬ s'=v:=λz=>e (qA hw.nd (by rw[z] at L;show L) gj);simp[B]
  .obtain⟨O,kvs,y3,y4,y5,rfl,U,_,p⟩:=C;rw[show(bar.map V.str).length=bar.length from ya _,yT] at p;have S:=O _ _ an;apply .inl ⟨x,cw,wx,_,.ref ol,rfl,O _ _ hb,T.wcl,T.wo,qaW,?_⟩;show .inl ⟨⟨_,SqL.of S⟩,qJ (K:=K) (λi R H'=>H'=J/\R=(zK (ss.take i) bar).map V.str) ⟨rfl,rfl⟩ (λi R H' _ C=>by rw[C.1];show SqL.of S) (λi y R H' N C=>?_) λR H' C=>?_⟩
   .obtain⟨rfl,rfl⟩:=C;rw[yd] at N;obtain⟨sy,gi,rfl⟩:=yn.mp N;have al:=(yc.mp gi).1;obtain⟨i',as,ag,vi⟩:=jZ (i:=0) (ye gi);rw[xZ,qA hw.nd ag gi] at vi;have av:(zK (ss.take i) bar).length<=i:=yi (qep _ _) (by rw[yK];lk)
    have Z:zK (ss.take (i+1)) bar=zK (ss.take i) bar++(if (!decide (sy∈bar))=true then [sy] else []):=by
     unfold zK;rw[yO,gi,yZ];show _++[sy].filter _=_;rw[yP,YA]
    apply .inl ⟨x,cw,wx,_,.ref dd,rfl,O _ _ hb,T.wcl,T.wn,jr,?_⟩;apply .inr ⟨dd,.int i,rfl,?_,?_⟩
    .have:=DGet.k (k:=Sum.inr sy) (O _ _ aj);rw[vi] at this;show this
    apply .inr (.inl ⟨d,_,rfl,DGet.k (k:=Sum.inl (i:Int)) U,?_⟩);have ev:(if true=true then !(zG kvs (Sum.inl (i:Int):Key)).isSome else(zG kvs (Sum.inl (i:Int):Key)).isSome)=!decide (sy∈bar):=by rw[yH rfl,p i sy gi]
    rw[ev,Z];show⟨_,rfl,?_⟩
    cases (!decide (sy∈bar)) with
    | true =>
     show zX ?_;apply⟨by rw[ya];show qh (by lk),rfl,by rw[yH rfl,yt];rfl⟩
    | false=>show qL (λh=>by cases h) λ_=>⟨rfl,by rw[yD (by decide),Yg]⟩
   .obtain⟨rfl,rfl⟩:=C;rw[show(ss.map V.str).length=ss.length from ya _,yT];have ar:=qep ss bar;show⟨by rw[ya];show yN (qh (by lk)),λm hm=>?_⟩;have s3:=qC O (o:=.lst ((zK ss bar).map V.str)) hm;have em:upd H' m (.lst ((zK ss bar).map V.str)) m=some (.lst ((zK ss bar).map V.str)):=qb;generalize upd H' m (.lst ((zK ss bar).map V.str))=J3 at s3 em;apply⟨x,wx,_,rfl,s3 _ _ hb,qaa (by room),?_⟩;apply⟨x,ss,ns,rfl,W.web.same s3,λl ts J4 s4 au hl am M=>?_⟩;have X:=s4 _ _ em;obtain⟨c,s⟩:∃ c,c=j0 ss ns ss.length:=⟨_,rfl⟩;rw[<- s] at M;show .inl ⟨⟨_,.of hl⟩,qJ (xs:=ts.map V.ref) (λi R G=>G=J4/\∃ us:LI,R=us.map V.ref/\us.length<=i/\All2 (λt ab=>J4 t=some (.tup [.str ab.1,.str ab.2])) us (qaj (zK ss bar) (c.take i))) ⟨rfl,[],rfl,yh _,.nil⟩ (λi R G _ D=>by rw[D.1];show .of hl) (λi y R G N D=>?_) λR G D=>?_⟩
    .obtain⟨rfl,us,rfl,ae,hU⟩:=D;rw[yd] at N;obtain⟨t,ht,rfl⟩:=yn.mp N;have hi:=(yc.mp ht).1;obtain⟨ab,n⟩:∃ ab,c[i]?=some ab:=⟨_,yb (by rw[<- M.len];show hi)⟩;obtain⟨_,_,z3⟩:=M.at_ i t ab ht n
     have Z:qaj (zK ss bar) (c.take (i+1))=qaj (zK ss bar) (c.take i)++(if (decide (ab.1∈zK ss bar)&&decide (ab.2∈zK ss bar))=true then [ab] else []):=by
      unfold qaj;rw[yO,n,yZ];show _++[ab].filter _=_;rw[yP,YA]
     rw[Z];apply .inl (qax z3 (v:=.str ab.1) (qt (j:=0) rfl) ?_);apply qfi X ?_;show⟨_,rfl,?_⟩
     cases decide (ab.1∈zK ss bar) with
     | false=>show qL (λh=>by cases h) λ_=>qL (λh=>by cases h) λ_=>⟨rfl,us,rfl,by lk,by rw[Bool.false_and,yD (by decide),Yg];show hU⟩
     | true =>
      show zX ?_;apply .inl (qax z3 (v:=.str ab.2) (qt (j:=1) rfl) ?_);apply qfi X ?_;show⟨_,rfl,?_⟩;rw[Bool.true_and]
      cases decide (ab.2∈zK ss bar) with
      | false=>show qL (λh=>by cases h) λ_=>⟨rfl,us,rfl,by lk,by rw[yD (by decide),Yg];show hU⟩
      | true =>
       show zX ?_;apply⟨by rw[ya];show qh (by lk),rfl,us++[t],by rw[yt];rfl,by rw[yu];simp;lk,by rw[yH rfl];show hU.snoc z3⟩
    .obtain⟨rfl,us,rfl,ae,hU⟩:=D;rw[show(ts.map V.ref).length=c.length by rw[ya,M.len],yT] at hU;rw[ya] at ae;show⟨by rw[ya];show yN (qh (by lk)),λkl Y=>?_⟩;have ap:=s3.trans s4;have s5:=qC ap (o:=.lst (us.map V.ref)) Y;have af:=qC (Sr G) (o:=.lst (us.map V.ref)) Y;have aa:upd G kl (.lst (us.map V.ref)) kl=some (.lst (us.map V.ref)):=qb;have ad:PL (upd G kl (.lst (us.map V.ref))) kl us (qaj (zK ss bar) c):=⟨aa,hU.mono λ_ _ z=>af _ _ z⟩;have ac:=af _ _ X;generalize upd G kl (.lst (us.map V.ref))=G5 at s5 aa ad ac
     have I:∀{a b:Str},(a,b)∈qaj (zK ss bar) c↔(a,b)∈c/\a∈zK ss bar/\b∈zK ss bar:=λ{a b}=>by
      unfold qaj;rw[yp,yL,yJ,yJ]
     have hg:TGo (zK ss bar) (qaj (zK ss bar) c):=by
      show⟨yi (yI _ _) (by rw[s];show ah),λab n=>?_,?_⟩
      .obtain⟨h1,h2,h3⟩:=I.mp n;rw[s] at h1;show⟨h2,h3,W.ir _ _ ((zk hw W.adj).mp h1).1⟩
      .show xr (λ{q r} hq hr B=>⟨B,λz=>?_⟩) ((List.filter_sublist).nodup (by rw[s];show qfc hw):(qaj (zK ss bar) c).Nodup);have q1:=(I.mp hq).1;have r1:=(I.mp hr).1;rw[s] at q1 r1;obtain⟨_,i1,j1,l1,a1,b1⟩:=(zk hw W.adj).mp q1;obtain⟨_,i2,j2,l2,a2,b2⟩:=(zk hw W.adj).mp r1;rw[z] at a1 b1;have:=qA hw.nd a1 b2;have:=qA hw.nd b1 a2;lk
     apply λy dx N ak B=>qgR ac (by lk) (hw.nd.filter _) (λz hz=>hw.nm z (mem_out.mp hz).1) ad hg N ak B λms H9 s9 _ W9=>⟨rfl,?_⟩;show q y ms H9 (s5.trans s9) (W9.to (λab n=>?_) λa b u A=>?_)
     .unfold qaj at n;obtain⟨h1,h2⟩:=yp.mp n;rw[yL,yJ,yJ] at h2;show⟨h2.1,h2.2,(W.ok _ h1).2.2⟩
     .have k1:∀{a b:Str},a∈zK ss bar->b∈zK ss bar->((a,b)∈qaj (zK ss bar) tps↔(a,b)∈tps):=λu hb=>by
       unfold qaj;rw[yp,yL,yJ,yJ];show⟨λz=>z.1,λz=>⟨z,u,hb⟩⟩
      unfold tA;rw[k1 u A,k1 A u,I,I,s];constructor
      .rintro (z | z)
       .show((zk hw W.adj).mp z.1).1
       .show((zk hw W.adj).mp z.1).1.symm
      .intro z;obtain⟨ia,ga⟩:=yf (mem_out.mp u).1;obtain⟨ib,gb⟩:=yf (mem_out.mp A).1;rcases x0 ia ib with k | k | k
       .show .inl ⟨(zk hw W.adj).mpr ⟨z,ia,ib,k,ga,gb⟩,u,A⟩
       .subst k;rw[ga] at gb;show absurd (ym gb) (W.ir _ _ z)
       .show .inr ⟨(zk hw W.adj).mpr ⟨z.symm,ib,ia,k,gb,ga⟩,A,u⟩
def qbr(ks:LS):Bool:=decide (ks.length % 2=1)
theorem qfl{f:Str->Option Str}(m:Mt tps ss f)(F:∀ a b,tA tps a b->a≠b){bar:LS}(h1:∀ p∈ps,p.Nodup/\(∀ a∈p,a∈ss/\a∉bar)/\∀ a∈p,∀ b,tA tps a b->b∈bar\/b∈p)(E:ps.Pairwise λp q=>∀ a∈p,a∉q):∃ T:LS->Str,(∀ p∈ps,qbr p=true->(T p∈p/\f (T p)=none)\/(T p∈bar/\∃ a∈p,f a=some (T p)))/\((ps.filter qbr).map T).Nodup/\∀ x∈(ps.filter qbr).map T,x∈snL f ss++bar:=by
 have u:∀ p∈ps,qbr p=true->∃ t,(t∈p/\f t=none)\/(t∈bar/\∃ a∈p,f a=some t):=λp c s=>yX λhc=>by
  obtain⟨l,B,H⟩:=h1 p c
  have:=qfJ (g:=f) p.length (yh _) l λx h=>by
   cases e:f x with
   | none=>show absurd ⟨x,.inl ⟨h,e⟩⟩ hc
   | some y =>
    have A:=m.tie x y e;rcases H x h y A with z | z
    .show absurd ⟨y,.inr ⟨z,x,h,e⟩⟩ hc
    .show⟨y,z,rfl,YI (F _ _ A),m.sym x y e⟩
  have:=yk s;lk
 haveI:Nonempty Str:=⟨""⟩
 obtain⟨T,j⟩:∃ T:LS->Str,∀ p∈ps,qbr p=true->(T p∈p/\f (T p)=none)\/(T p∈bar/\∃ a∈p,f a=some (T p)):=
  ⟨λp=>Classical.epsilon λt=>(t∈p/\f t=none)\/(t∈bar/\∃ a∈p,f a=some t),λp c s=>Classical.epsilon_spec (u p c s)⟩
 have r:∀ p∈ps.filter qbr,p∈ps/\qbr p=true:=λp c=>yp.mp c;show⟨T,j,YM.mpr ((E.filter qbr).imp_of_mem λ{p q} c G w e=>?_),λx h=>?_⟩
 .obtain⟨i,v⟩:=r p c;obtain⟨C,I⟩:=r q G;rcases j p i v with⟨d,n⟩ | ⟨d,a,n,J⟩<;>rcases j q C I with⟨o,D⟩ | ⟨o,b,D,K⟩
  .show w _ d (by rw[e];show o)
  .show((h1 p i).2.1 _ d).2 (by rw[e];show o)
  .show((h1 q C).2.1 _ o).2 (by rw[<- e];show d)
  .have l:=m.sym _ _ J;have B:=m.sym _ _ K;rw[e,B] at l;cases l;show w _ n D
 .obtain⟨p,c,rfl⟩:=yB.mp h;obtain⟨i,v⟩:=r p c;rcases j p i v with⟨d,n⟩ | ⟨d,_⟩
  .show Yd _ (mem_sn.mpr ⟨((h1 p i).2.1 _ d).1,n⟩)
  .show yR _ d
theorem weak{f:Str->Option Str}(m:Mt tps ss f)(d:∀ a b,tA tps a b->a≠b){bar:LS}(h1:∀ p∈ps,p.Nodup/\(∀ a∈p,a∈ss/\a∉bar)/\∀ a∈p,∀ b,tA tps a b->b∈bar\/b∈p)(c:ps.Pairwise λp q=>∀ a∈p,a∉q):(ps.filter qbr).length+qbk f ss<=ss.length+bar.length:=by
 obtain⟨T,_,nd,e⟩:=qfl m d h1 c;have:=qb7 nd e;rw[ya,yu] at this;have g:=qbl (f:=f) (ss:=ss);lk
def qfK(f:Str->Option Str)(bar:LS)(a:Str):Prop:=f a=none\/∃ b∈bar,f a=some b
structure Shp(ss:LS)(f:Str->Option Str)(bar:LS)(ps:List (LS)):Prop where
 al:∀ x∈ss,f x=none->∃ p∈ps,qbr p=true/\x∈p
 br:∀ b∈bar,∃ p∈ps,qbr p=true/\∃ a∈p,f b=some a
 on:∀ p∈ps,qbr p=true->∃ a∈p,qfK f bar a/\∀ a'∈p,qfK f bar a'->a'=a
theorem qcC(e:ps.Pairwise λp q=>∀ a∈p,a∉q){p q:LS}(f:p∈ps)(g:q∈ps){a:Str}(h1:a∈p)(b:a∈q):p=q:=by
 obtain⟨i,c,rfl⟩:=XJ f;obtain⟨j,d,rfl⟩:=XJ g;have k:=xn.mp e;rcases x0 i j with z | z | z
 .show absurd b (k i j c d z a h1)
 .subst z;rfl
 .show absurd h1 (k j i d c z a b)
theorem sharp{f:Str->Option Str}(m:Mt tps ss f)(G:∀ a b,tA tps a b->a≠b){bar:LS}(h1:∀ p∈ps,p.Nodup/\(∀ a∈p,a∈ss/\a∉bar)/\∀ a∈p,∀ b,tA tps a b->b∈bar\/b∈p)(D:ps.Pairwise λp q=>∀ a∈p,a∉q)(L:ss.length+bar.length<=(ps.filter qbr).length+qbk f ss):Shp ss f bar ps:=by
 obtain⟨T,C,nd,I⟩:=qfl m G h1 D
 have t:∀ x∈snL f ss++bar,∃ p∈ps,qbr p=true/\T p=x:=λx E=>yX λhc=>by
  have H:x∉(ps.filter qbr).map T:=λz=>by
   obtain⟨p,c,e⟩:=yB.mp z;show hc ⟨p,(yp.mp c).1,(yp.mp c).2,e⟩
  have:=qb7 (l:=x::(ps.filter qbr).map T) (m:=snL f ss++bar) (yo.mpr ⟨H,nd⟩) λy J=>(yv.mp J).elim (λe=>e ▸ E) (I y);rw[yx,ya,yu] at this;have K:=qbl (f:=f) (ss:=ss);lk
 have o:∀ b∈bar,∃ p∈ps,qbr p=true/\T p=b/\∃ a∈p,f a=some b:=λb hb=>by
  obtain⟨p,c,d,e⟩:=t b (yR _ hb);rcases C p c d with⟨g,_⟩ | ⟨_,a,i,n⟩
  .show absurd hb (e ▸ ((h1 p c).2.1 _ g).2)
  .show⟨p,c,d,e,a,i,e ▸ n⟩
 have own:∀ p∈ps,∀ a∈p,qfK f bar a->(T p=a/\f a=none)\/(T p∈bar/\f a=some (T p)):=λp c a r h=>by
  rcases h with e | ⟨b,hb,e⟩
  .obtain⟨q,s,d,j⟩:=t a (Yd _ (mem_sn.mpr ⟨((h1 p c).2.1 a r).1,e⟩));rcases C q s d with⟨g,_⟩ | ⟨g,_⟩
   .have:=qcC D c s r (j ▸ g);show .inl ⟨this ▸ j,e⟩
   .show absurd (j ▸ g) ((h1 p c).2.1 a r).2
  .obtain⟨q,s,d,j,u,i,n⟩:=o b hb;have A:=m.sym _ _ e;rw[m.sym _ _ n] at A;cases A;have:=qcC D c s r i;subst this;show .inr ⟨j ▸ hb,by rw[j];show e⟩
 show⟨λx E e=>?_,λb hb=>?_,λp c d=>?_⟩
 .obtain⟨q,s,d,j⟩:=t x (Yd _ (mem_sn.mpr ⟨E,e⟩));rcases C q s d with⟨g,_⟩ | ⟨_,a,i,n⟩
  .show⟨q,s,d,j ▸ g⟩
  .have:=m.sym _ _ n;rw[j,e] at this;cases this
 .obtain⟨p,c,d,_,a,i,n⟩:=o b hb;show⟨p,c,d,a,i,m.sym _ _ n⟩
 .have v:∀ a∈p,qfK f bar a->∃ a∈p,qfK f bar a/\∀ u∈p,qfK f bar u->u=a:=λa r h=>⟨a,r,h,λu w h'=>by
   rcases own p c a r h with⟨e,z⟩ | ⟨e,z⟩<;>rcases own p c u w h' with⟨B,F⟩ | ⟨B,F⟩
   .show B.symm.trans e
   .show absurd (e ▸ B) ((h1 p c).2.1 a r).2
   .show absurd (B ▸ e) ((h1 p c).2.1 u w).2
   .have A:=m.sym _ _ z;rw[m.sym _ _ F] at A;show ym A⟩
  rcases C p c d with⟨g,i⟩ | ⟨g,a,i,n⟩
  .show v _ g (.inl i)
  .show v a i (.inr ⟨_,g,n⟩)
structure BarJ(ss:LS)(TI:List (Nat×Nat))(bs gs:LN):Prop where
 ok:NOk ss
 tj:TJ ss.length TI
 bt:BtJ ss.length TI bs
 nd:gs.Nodup
 lt:∀ k∈gs,k<ss.length
abbrev rmJ(gs:LN)(n:Nat):Nat:=(j9 gs n).sum
def pcJ(bs gs:LN)(n:Nat):List (LN):=(zT bs (rmJ gs n) n).map (qaw bs (rmJ gs n) n)
def odJ(bs gs:LN)(n:Nat):Nat:=((pcJ bs gs n).filter λc=>decide (c.length % 2=1)).length
theorem BtJ.sym{TI:List (Nat×Nat)}{bs:LN}(h:BtJ n TI bs):∀ a b,zY bs a b=true->zY bs b a=true:=λa b z=>(h.2.2 b a).mpr ((h.2.2 a b).mp z).symm
section
variable{ss:LS}{TI:List (Nat×Nat)}{bs gs:LN}
theorem qcl(B:BarJ ss TI bs gs){k:Nat}(c:k<ss.length):tn ss k∈gs.map (tn ss)↔k∈gs:=by
 rw[yB];constructor
 .rintro ⟨j,a,b⟩;rw[<- zJ B.ok.nd (B.lt j a) c b];show a
 .show λz=>⟨k,z,rfl⟩
theorem qeq(B:BarJ ss TI bs gs):zK ss (gs.map (tn ss))=(qH (rmJ gs ss.length) ss.length).map (tn ss):=by
 unfold zK
 have e:ss=(List.range ss.length).map (tn ss):=by
  show List.ext_getElem (by simp) λi h1 d=>?_;rw[List.getElem_map,List.getElem_range];have:=jE h1;rw[yb h1] at this;show ym this
 generalize b:gs.map (tn ss)=M
 conv=>lhs;rw[e]
 rw[kI]
 congr 1
 unfold qH;apply YL;intro k c;have a:=Yh.mp c;show(!decide (tn ss k∈M))=(rmJ gs ss.length).testBit k;rw[Yu,(qb4 gs ss.length).2 k,YD,Y8,<- b,qcl B a];show⟨λz=>⟨a,z⟩,λz=>z.2⟩
theorem qgn(B:BarJ ss TI bs gs)(a:i<ss.length)(b:j<ss.length):tA (TI.map (nmP ss)) (tn ss i) (tn ss j)↔zY bs i j=true:=by
 have f:∀ i j,i<ss.length->j<ss.length->((tn ss i,tn ss j)∈TI.map (nmP ss)↔(i,j)∈TI):=λi j a b=>by
  rw[yB];constructor
  .rintro ⟨q,d,e⟩;have c:=B.tj.2.1 q d;have g:=zJ B.ok.nd (by lk) a (congrArg Prod.fst e);have h:=zJ B.ok.nd c.2 b (congrArg Prod.snd e);have:q=(i,j):=Xf g h;rw[<- this];show d
  .show λz=>⟨(i,j),z,rfl⟩
 unfold tA;rw[f i j a b,f j i b a,B.bt.2.2 i j]
theorem sub_wt(B:BarJ ss TI bs gs)(d:Adj (zK ss (gs.map (tn ss))) ms (qaj (zK ss (gs.map (tn ss))) (TI.map (nmP ss)))):Sub bs ms (rmJ gs ss.length) ss.length:=by
 intro p q a b c hb;rw[qeq B] at d;have j:=(kept_mem.mp (ye c)).1;have l:=(kept_mem.mp (ye hb)).1;have h1:=d p q (tn ss a) (tn ss b) (by rw[yd,c];rfl) (by rw[yd,hb];rfl);have f:tn ss a∈(qH (rmJ gs ss.length) ss.length).map (tn ss):=yB.mpr ⟨a,ye c,rfl⟩;have g:tn ss b∈(qH (rmJ gs ss.length) ss.length).map (tn ss):=yB.mpr ⟨b,ye hb,rfl⟩
 have e:∀ s t,s∈(qH (rmJ gs ss.length) ss.length).map (tn ss)->t∈(qH (rmJ gs ss.length) ss.length).map (tn ss)->((s,t)∈qaj ((qH (rmJ gs ss.length) ss.length).map (tn ss)) (TI.map (nmP ss))↔(s,t)∈TI.map (nmP ss)):=λs t h i=>by
  unfold qaj;rw[yp];show⟨λz=>z.1,λz=>⟨z,by simp only[yz h,yz i];rfl⟩⟩
 rw[h1,e _ _ f g,e _ _ g f];show qgn B j l
theorem pcs_J(B:BarJ ss TI bs gs)(hw:WOk (zK ss (gs.map (tn ss))) ms)(e:Adj (zK ss (gs.map (tn ss))) ms (qaj (zK ss (gs.map (tn ss))) (TI.map (nmP ss)))):(qfy ms (zK ss (gs.map (tn ss))).length).map (qdc (zK ss (gs.map (tn ss))) ms)=(pcJ bs gs ss.length).map λc=>c.map (tn ss):=by
 have f:=sub_wt B e;obtain⟨h1,_,_,d,_⟩:=hw;rw[qeq B] at h1 d ⊢;rw[ya] at h1
 show pieces_eq B.ok.nd f h1 (by rw[h1];rw[ya] at d;show d) λa b z=>by
  rcases(B.bt.2.2 a b).mp z with y | y
  .show(B.tj.2.1 _ y).2
  .have:=B.tj.2.1 _ y;show Km this.1 this.2
structure PcsOk(ss:LS)(tps:LP)(bar:LS)(ps:List (LS)):Prop where
 h1:∀ p∈ps,p.Nodup/\(∀ a∈p,a∈ss/\a∉bar)/\∀ a∈p,∀ b,tA tps a b->b∈bar\/b∈p
 h2:ps.Pairwise λp q=>∀ a∈p,a∉q
 cov:∀ a∈ss,a∉bar->∃ p∈ps,a∈p
 con:∀ p∈ps,∀ X:Str->Prop,(∀ a∈p,∀ b∈p,tA tps a b->X a->X b)->∀ a∈p,∀ b∈p,X a->X b
theorem rep_of{bs:LN}:∀ d,r.testBit d=true->∃ k,k<=d/\Lft bs r k k/\Rr bs r k d:=by
 intro d
 induction d using Nat.strongRecOn with
 | ind d ih =>
  intro e;by_cases h:Lft bs r d d
  .show⟨d,yh _,h,.zero⟩
  .obtain⟨j,h1,a,b⟩:∃ j,j<d/\r.testBit j=true/\Rr bs r j d:=yX λc=>h ⟨e,λj f m g=>c ⟨j,f,m,g⟩⟩;obtain⟨k,n,i,l⟩:=ih j h1 a;show⟨k,by lk,i,l.trans b⟩
theorem qfm(B:BarJ ss TI bs gs):PcsOk ss (TI.map (nmP ss)) (gs.map (tn ss)) ((pcJ bs gs ss.length).map λc=>c.map (tn ss)):=by
 have r:=(qb4 gs ss.length).2;have j:∀ k c,c∈qaw bs (rmJ gs ss.length) ss.length k↔c<ss.length/\Rr bs (rmJ gs ss.length) k c:=λk c=>by unfold qaw;rw[yp,Yh];simp
 have s:∀ k,k∈zT bs (rmJ gs ss.length) ss.length↔k<ss.length/\Lft bs (rmJ gs ss.length) k k:=λk=>by unfold zT;rw[yp,Yh];simp
 show⟨λp I=>?_,?_,λa m hb=>?_,λp I X T a m b hb J=>?_⟩
 .obtain⟨S,n,rfl⟩:=yB.mp I;obtain⟨k,q,rfl⟩:=yB.mp n;have g:=(s k).mp q;have inn:∀ c,c∈qaw bs (rmJ gs ss.length) ss.length k->c<ss.length/\c∉gs:=λc hc=>(r c).mp (((j k c).mp hc).2.in_ g.2.1);show⟨?_,λa m=>?_,λa m b hb=>?_⟩
  .have nd:(qaw bs (rmJ gs ss.length) ss.length k).Nodup:=by unfold qaw;show List.nodup_range.filter _
   show YM.mpr (nd.imp_of_mem λ{x y} J U H e=>H (zJ B.ok.nd (inn x J).1 (inn y U).1 e))
  .obtain⟨c,hc,rfl⟩:=yB.mp m;have:=inn c hc;show⟨qa0 this.1,λz=>this.2 ((qcl B this.1).mp z)⟩
  .obtain⟨c,hc,rfl⟩:=yB.mp m;have F:=(inn c hc).1;have D:b∈ss:=hb.elim (λz=>(qfh B.ok.nd B.tj _ z).2.1) λz=>(qfh B.ok.nd B.tj _ z).1;obtain⟨d,l⟩:=yf D;have f:=(yc.mp l).1;have A:b=tn ss d:=by rw[jE f] at l;show(ym l).symm
   subst A;by_cases M:d∈gs
   .show .inl ((qcl B f).mpr M)
   .show .inr (yB.mpr ⟨d,(j k d).mpr ⟨f,.step ((j k c).mp hc).2 ((qgn B F f).mp hb) ((r d).mpr ⟨f,M⟩)⟩,rfl⟩)
 .unfold pcJ;rw[XH];have K:(zT bs (rmJ gs ss.length) ss.length).Pairwise (· < ·):=by unfold zT;show List.pairwise_lt_range.filter _
  show YM.mpr (K.imp_of_mem λ{k k'} q g G a m C=>?_);obtain⟨c,hc,rfl⟩:=yB.mp m;obtain⟨Z,E,e⟩:=yB.mp C;have h1:=(j _ _).mp hc;have L:=(j _ _).mp E;have:=zJ B.ok.nd L.1 h1.1 e;subst this;have N:=(s k).mp q;have w:=(s k').mp g;show w.2.2 k G N.2.1 (h1.2.trans (L.2.symm B.bt.sym w.2.1))
 .obtain⟨d,l⟩:=yf m;have f:=(yc.mp l).1;have A:a=tn ss d:=by rw[jE f] at l;show(ym l).symm
  subst A;obtain⟨k,N,w,W⟩:=rep_of (bs:=bs) d ((r d).mpr ⟨f,λz=>hb ((qcl B f).mpr z)⟩);show⟨_,yB.mpr ⟨_,yB.mpr ⟨k,(s k).mpr ⟨by lk,w⟩,rfl⟩,rfl⟩,yB.mpr ⟨d,(j k d).mpr ⟨f,W⟩,rfl⟩⟩
 .obtain⟨S,n,rfl⟩:=yB.mp I;obtain⟨k,q,rfl⟩:=yB.mp n;have g:=(s k).mp q;obtain⟨c,hc,rfl⟩:=yB.mp m;obtain⟨d,l,rfl⟩:=yB.mp hb;have o:=(j _ _).mp hc;have go:=(o.2.symm B.bt.sym g.2.1).trans ((j _ _).mp l).2;clear l hb
  induction go with
  | zero=>show J
  | @step u v h t i ih =>
   have Y:=o.2.trans (.step h t i);have O:=o.2.trans h;have P:=((r u).mp (O.in_ g.2.1)).1;have R:=((r v).mp i).1;show T _ (yB.mpr ⟨u,(j k u).mpr ⟨P,O⟩,rfl⟩) _ (yB.mpr ⟨v,(j k v).mpr ⟨R,Y⟩,rfl⟩) ((qgn B P R).mpr t) ih
theorem qgS{bs:LN}:(((pcJ bs gs ss.length).map λc=>c.map (tn ss)).filter qbr).length=odJ bs gs ss.length:=by
 rw[kI,ya]
 have e:(qbr ∘ λc:LN=>c.map (tn ss))=λc=>decide (c.length % 2=1):=by
  funext c;show decide ((c.map (tn ss)).length % 2=1)=_;rw[ya]
 rw[e];rfl
end
def rmN(ss:LS)(m:Nat):LS:=ss.filter λs=>m.testBit (ss.idxOf s)
theorem rmN_len(ss:LS)(m:Nat):(rmN ss m).length<=ss.length:=yI _ _
theorem qdJ(b:ss.Nodup){k:Nat}(a:ss[k]?=some y):y∈rmN ss m↔m.testBit k=true:=by
 unfold rmN;rw[yp,qb0 b a];show⟨λz=>z.2,λz=>⟨ye a,z⟩⟩
theorem qdK(c:ss.Nodup){k:Nat}(b:ss[k]?=some y):rmN ss (q9 m (2 ^ k))=del (rmN ss m) y:=by
 unfold rmN del;rw[kR];show YL λs d=>?_;rw[qY,Yj];have a:ss[ss.idxOf s]?=some s:=by rw[yb (YN d),xP]
 have e:decide (k=ss.idxOf s)=decide (s=y):=Yo.mpr ⟨λz=>by rw[<- z,b] at a;show(ym a).symm,λz=>by rw[z] at a;rw[z];show qA c b a⟩;rw[e,Bool.and_comm]
theorem rmN_perm(b:ss.Nodup){k:Nat}(d:ss[k]?=some y)(f:m.testBit k=true):(rmN ss m).Perm (y::rmN ss (q9 m (2 ^ k))):=by
 rw[qdK b d];have c:(rmN ss m).Nodup:=b.filter _;show(XE c (yo.mpr ⟨λz=>(mem_del.mp z).2 rfl,c.filter _⟩)).mpr λa=>?_;rw[yv,mem_del];constructor
 .intro h;by_cases e:a=y
  .show .inl e
  .show .inr ⟨h,e⟩
 .rintro (e | e)
  .rw [e];show(qdJ b d).mpr f
  .show e.1
section
variable{tps:LP}
theorem mo_perm(j:∀ a b,tA tps a b->a≠b){l:LS}(g:l.Nodup)(p:l.Perm l')(h1:l.length<=n)(h:l'.length<=m):mo tps n l=mo tps m l':=by
 have d:∀{l l':LS} {n m:Nat},l.Nodup->l.Perm l'->l.length<=n->l'.length<=m->mo tps n l<=mo tps m l':=λ{l l' n m} g p h1 h=>by
  obtain⟨f,i,c⟩:=qcy j n h1 g;have:=qb3 j m h (p.nodup_iff.mp g) (f:=f) ⟨i.sym,i.tie,λa b e=>p.mem_iff.mp (i.inn a b e)⟩;have e:qbk f l=qbk f l':=by unfold qbk;show(p.filter _).length_eq
  lk
 show xV (d g p h1 h) (d (p.nodup_iff.mp g) p.symm h h1)
def tbQ(tps:LP)(ss:LS)(m:Nat):Nat:=mo tps ss.length (rmN ss m)
structure IsM(tps:LP)(ss:LS)(nb:Nat->Bool)(r top:Nat)(v:Nat):Prop where
 lo:tbQ tps ss r<=v
 up:∀ o,o<top->nb o=true->1+tbQ tps ss (q9 r (2 ^ o))<=v
 at_:v=tbQ tps ss r\/∃ o,o<top/\nb o=true/\v=1+tbQ tps ss (q9 r (2 ^ o))
theorem qfn(n:∀ a b,tA tps a b->a≠b)(d:ss.Nodup){k v:Nat}{x:Str}(E:ss[k]?=some x)(D:m.testBit k=true)(nb:Nat->Bool)(i:∀ o y,ss[o]?=some y->(nb o=true↔((q9 m (2 ^ k)).testBit o=true/\tA tps x y)))(h:IsM tps ss nb (q9 m (2 ^ k)) ss.length v):v=tbQ tps ss m:=by
 have C:(rmN ss m).Nodup:=d.filter _;have g:(rmN ss (q9 m (2 ^ k))).Nodup:=d.filter _;have u:=rmN_perm d E D;have hl:=rmN_len ss m;have p:(x::rmN ss (q9 m (2 ^ k))).length<=ss.length:=by rw[<- u.length_eq];show hl
 have e:tbQ tps ss m=mo tps (ss.length-1+1) (x::rmN ss (q9 m (2 ^ k))):=by
  unfold tbQ;show mo_perm n C u hl (by lk)
 have j:(rmN ss (q9 m (2 ^ k))).length<=ss.length-1:=by rw[yx] at p;lk
 have A:mo tps (ss.length-1) (rmN ss (q9 m (2 ^ k)))=tbQ tps ss (q9 m (2 ^ k)):=qgl n j (by lk) g;obtain⟨s,t,l⟩:=qbz (λy=>1+mo tps (ss.length-1) (del (rmN ss (q9 m (2 ^ k))) y)) ((rmN ss (q9 m (2 ^ k))).filter (tB tps x)) (mo tps (ss.length-1) (rmN ss (q9 m (2 ^ k))))
 have r:∀{o:Nat} {y:Str},ss[o]?=some y->mo tps (ss.length-1) (del (rmN ss (q9 m (2 ^ k))) y)=tbQ tps ss (q9 (q9 m (2 ^ k)) (2 ^ o)):=λ{o y} c=>by
  unfold tbQ;rw[qdK d c];show qgl n (yi (qb2 _ _) j) (yi (qb2 _ _) (by lk)) (g.filter _)
 have B:mo tps (ss.length-1+1) (x::rmN ss (q9 m (2 ^ k)))=((rmN ss (q9 m (2 ^ k))).filter (tB tps x)).foldl (λm' y=>max m' (1+mo tps (ss.length-1) (del (rmN ss (q9 m (2 ^ k))) y))) (mo tps (ss.length-1) (rmN ss (q9 m (2 ^ k)))):=rfl;rw[e,B];generalize ((rmN ss (q9 m (2 ^ k))).filter (tB tps x)).foldl (λm' y=>max m' (1+mo tps (ss.length-1) (del (rmN ss (q9 m (2 ^ k))) y))) (mo tps (ss.length-1) (rmN ss (q9 m (2 ^ k))))=W at s t l;rw[A] at s l;apply xV
 .rcases h.at_ with z | ⟨o,f,no,z⟩
  .omega
  .have c:ss[o]?=some ss[o]:=yb f;generalize ss[o]=y at c;obtain⟨G,H⟩:=(i o y c).mp no;have:=t y (yp.mpr ⟨(qdJ d c).mpr G,tB_iff.mpr H⟩)
   (try dsimp only at this)
   rw[r c] at this;lk
 .rcases l with z | ⟨y,c,z⟩
  .have:=h.lo;lk
  .obtain⟨w,F⟩:=yp.mp c;have q:y∈ss:=(yp.mp w).1;obtain⟨o,f⟩:=yf q
   (try dsimp only at z)
   rw[r f] at z;have:=h.up o (yc.mp f).1 ((i o y f).mpr ⟨(qdJ d f).mp w,tB_iff.mp F⟩);lk
end
theorem KD:FnScope ["_law_many_here","_law_bits_here","_law_found","_law_room_here","_law_low","_law_rest","_law_most","_law_near_here","_law_other"] wqM (qg qa4):=fS
theorem jt(h:n<=5000):n<sizeLine:=YH h (by decide)
theorem qfL(m:ss.Nodup){TI:List (Nat×Nat)}(g:TJ ss.length TI){x:Str}(a:ss[i]?=some x)(b:ss[j]?=some y):tA (TI.map (nmP ss)) x y↔((i,j)∈TI\/(j,i)∈TI):=by
 have c:∀{i j:Nat} {x y:Str},ss[i]?=some x->ss[j]?=some y->((x,y)∈TI.map (nmP ss)↔(i,j)∈TI):=λ{i j x y} a b=>by
  constructor
  .intro h;obtain⟨q,n,e⟩:=yB.mp h;unfold nmP at e
   injection e with e1 e2
   have l:=g.2.1 q n;have d:=jE (ss:=ss) (i:=q.1) (by lk);have f:=jE (ss:=ss) (i:=q.2) (by lk);rw[e1] at d;rw[e2] at f;have:=qA m d a;have:=qA m f b;have:q=(i,j):=Xf (by assumption) (by assumption);rw[<- this];show n
  .intro h;show yB.mpr ⟨(i,j),h,?_⟩;have l:=g.2.1 _ h;dsimp only at l;have d:=jE (ss:=ss) (i:=i) (by lk);have f:=jE (ss:=ss) (i:=j) (by lk);rw[a] at d;rw[b] at f;unfold nmP;rw[<- ym d,<- ym f]
 unfold tA;rw[c a b,c b a]
theorem qfo{k:Nat}(h:m.testBit k=true):q9 m (2 ^ k)<m:=by
 unfold q9
 have h1:m &&& 2 ^ k=2 ^ k:=by
  apply XD;intro i;rw[Y6,Yj];by_cases e:k=i
  .subst e;rw[h];simp
  .simp [e]
 have a:m &&& 2 ^ k<=m:=Kt;have b:=Xq k;lk
theorem qfp(tps:LP)(ss:LS):tbQ tps ss 0=0:=by
 unfold tbQ rmN;have:(ss.filter λs=>(0:Nat).testBit (ss.idxOf s))=[]:=xG.mpr λs _=>by rw[Kj];decide
 rw[this];cases ss.length<;>rfl
section
variable{tps:LP}{ss:LS}{nb:Nat->Bool}{r top v:Nat}
theorem IsM.skip(h:IsM tps ss nb r top v)(e:¬ nb top=true):IsM tps ss nb r (top+1) v:=
 ⟨h.lo,λo f d=>by
  by_cases z:o=top
  .rw [z] at d;show absurd d e
  .show h.up o (by lk) d,by
  rcases h.at_ with z | ⟨o,a,b,c⟩
  .show .inl z
  .show .inr ⟨o,by lk,b,c⟩⟩
theorem IsM.take(h:IsM tps ss nb r top v)(e:nb top=true):IsM tps ss nb r (top+1) (max v (1+tbQ tps ss (q9 r (2 ^ top)))):=
 ⟨yi h.lo (Kr _ _),λo f d=>by
  by_cases z:o=top
  .rw [z];show Nat.le_max_right _ _
  .show yi (h.up o (by lk) d) (Kr _ _),by
  by_cases z:v<=1+tbQ tps ss (q9 r (2 ^ top))
  .show .inr ⟨top,by lk,e,Nat.max_eq_right z⟩
  .rw [Nat.max_eq_left (by lk)];rcases h.at_ with z | ⟨o,a,b,c⟩
   .show .inl z
   .show .inr ⟨o,by lk,b,c⟩⟩
end
def tbL(tps:LP)(ss:LS)(m:Nat):LN:=(List.range m).map (tbQ tps ss)
theorem qfq(h:i<m):(tbL tps ss m).getD i 0=tbQ tps ss i:=by
 unfold tbL;rw[Yq,yd,List.getElem?_range h];rfl
theorem qcD(tps:LP)(ss:LS)(m:Nat):(tbL tps ss m).length=m:=by unfold tbL;rw[ya,YE]
theorem tbL_succ(tps:LP)(ss:LS)(m:Nat):tbL tps ss (m+1)=tbL tps ss m++[tbQ tps ss m]:=by unfold tbL;rw[YB,yt];rfl
inductive spTbQ(vs:List V)(H:Hp)(Q:VK)(E:XK):Prop|mk (lb:Addr) (ss:LS) (TI:List (Nat×Nat)) (bs:LN) (_:vs=[.int (ss.length:Int),.ref lb]) (_:ss.length<=12) (_:ss.Nodup) (_:TJ ss.length TI) (_:H lb=some (.lst (zh bs))) (_:BtJ ss.length TI bs) (_:∀(l:Addr) (H':Hp),L2.Same H H'->H l=none->H' l=some (.lst (zh (tbL (TI.map (nmP ss)) ss (2 ^ ss.length))))->Q (.ref l) H')
theorem ok_tbQ(F:Fun K "_law_table" "_law_table" qa4 f fd)(T:Txt K mg cc cw):wqqb 1 f fd wqM spTbQ:=by
 show F.ok KD λ_ _ _ _ H vs Q E hr h=>?_
 .obtain⟨lb,ss,TI,bs,rfl,ah,hn,hj,ae,O,q⟩:=h;have Y:=za hr;obtain⟨tps,s⟩:∃ tps,tps=TI.map (nmP ss):=⟨_,rfl⟩;rw[<- s] at q;have ao:2 ^ ss.length<=4096:=Y7 (by decide) ah;have p0:0<2 ^ ss.length:=Xq _;have ag:∀{i j:Nat} {x y:Str},ss[i]?=some x->ss[j]?=some y->(tA tps x y↔zY bs i j=true):=λhx Z=>by rw[s,qfL hn hj hx Z];show(O.2.2 _ _).symm
  have hi:∀ a b,tA tps a b->a≠b:=λa b h e=>by
   subst e;rw[s] at h;rcases h with h | h <;>
   .obtain⟨q,hq,e⟩:=yB.mp h;unfold nmP at e
    injection e with e1 e2
    have l:=hj.2.1 q hq;have z1:=jE (ss:=ss) (i:=q.1) (by lk);have z2:=jE (ss:=ss) (i:=q.2) (by lk);rw[e1] at z1;rw[e2] at z2;have:=qA hn z1 z2;lk
  show⟨_,(qc (qk (i:=2) KD.nd rfl (yF rfl) (qz (qa qf qd)))
 (qc (qR yW rfl (qbK rfl T.b_range (qa qf (qa (qp j7 qf (pv 0)) qd))) (qm (i:=3) KD.nd rfl (yF rfl))
 (qc (qk (i:=4) KD.nd rfl (yF rfl) qf)
 (qc (qcp yW (qq (jS (K:=K) rfl Y) (qp jF (qp qaJ (pv 3) (pv 4)) qf) qf (qB _))
 (qe (qk (i:=4) KD.nd rfl (yF rfl) (qp (jp (K:=K) rfl) (pv 4) qf))))
 (qc (qk (i:=5) KD.nd rfl (yF rfl) (qp jF (pv 3) (qcq qbj (qp j7 qf (pv 4)))))
 (qc (qk (i:=6) KD.nd rfl (yF rfl) (qu (qv (K:=K) rfl Y) (pv 2) (pv 5) (λ_ _=>rfl)))
 (qc (qk (i:=7) KD.nd rfl (yF rfl) (qp jF (pv 5) (qu (qv (K:=K) rfl Y) (pv 1) (pv 4) (λ_ _=>rfl))))
 (qc (qR yW rfl (qbK rfl T.b_range (qa (qp (jp (K:=K) rfl) (pv 4) qf) (qa (pv 0) qd))) (qm (i:=8) KD.nd rfl (yF rfl))
 (qe (qN (qq (jS (K:=K) rfl Y) (qp jF (qp qaJ (pv 7) (pv 8)) qf) qf (qB _)) (qe (qk (i:=6) KD.nd rfl (yF rfl) (qj (qaK rfl) rfl T.b_max boot_max (qa (pv 6) (qa (qp (jp (K:=K) rfl) qf (qu (qv (K:=K) rfl Y) (pv 2) (qp jF (pv 5) (qcq qbj (qp j7 qf (pv 8)))) (λ_ _=>rfl))) qd))))) qw)))
 (qe (qW (qcg (K:=K) rfl yV Yb Yc qG (pv 2) (qa (pv 6) qd)))))))))))
 (qe (qr (pv 2))))),?_⟩
  apply⟨wqqd,λl hl=>?_⟩;have s0:=qC (Sr H) (o:=.lst [.int 0]) hl
  have e0:upd H l (.lst [.int 0]) l=some (.lst (zh (tbL tps ss 1))):=by
   rw[qb];unfold tbL zh;rw[YB];simp[qfp]
  generalize upd H l (.lst [.int 0])=H0 at s0 e0;apply qgm ?_;apply vI ⟨by lk,by lk,by decide⟩ ?_;ext;have aa:(1*2 ^ ((ss.length:Int)).toNat:Int)=((2 ^ ss.length:Nat):Int):=by rw[yS,kY,xU];rfl
  rw[aa];show⟨1,_,rfl,⟨by decide,by decide,by lk,by lk⟩,jL (λi t J=>∃ x3 x4 x5 x6 x7 M,t=[some (.int (ss.length:Int)),some (.ref lb),some (.ref l),x3,x4,x5,x6,x7,M]/\L2.Same H J/\J l=some (.lst (zh (tbL tps ss (i+1))))) ⟨none,none,none,none,none,none,rfl,s0,e0⟩ (λi t J ak I=>?_) λt J I=>?_⟩
  .obtain⟨x3,x4,x5,x6,x7,M,rfl,sJ,u⟩:=I;obtain⟨m,hm⟩:∃ m,m=i+1:=⟨_,rfl⟩;have em:(1:Int)+(i:Int)=(m:Int):=by lk
   rw[em];rw[<- hm] at u ⊢;have al:0<m:=by lk
   have am:m<2 ^ ss.length:=by lk
   have R:=sJ _ _ ae;ext;obtain⟨Wv,A⟩:∃ Wv:Nat->L2.St->Hp->Prop,Wv=λd t J'=>J'=J/\∃ g:Nat,t=[some (.int (ss.length:Int)),some (.ref lb),some (.ref l),some (.int (m:Int)),some (.int (g:Int)),x5,x6,x7,M]/\d=ss.length-g/\∀ j,j<g->m.testBit j=false:=⟨_,rfl⟩;show⟨Wv,⟨_,by rw[A];show⟨rfl,0,rfl,rfl,λj h=>by lk⟩⟩,λd t J' N=>?_⟩;rw[A] at N;obtain⟨rfl,g,rfl,hd,n⟩:=N
   have S:g<ss.length:=by
    apply yX;intro h;obtain⟨j,C⟩:=Nat.exists_testBit_of_ne_zero (x:=m) (by lk);by_cases ad:j<g
    .rw [n j ad] at C;cases C
    .have:2 ^ ss.length<=m:=yi (Y7 (by decide) (show ss.length<=j by lk)) (Nat.ge_two_pow_of_testBit C);lk
   apply vI (by lk) ?_;apply qav ?_;rw[bit0_nat];show⟨_,rfl,?_⟩
   cases hb:m.testBit g with
   | false =>
    show zX ⟨λai H'=>∃ m',m'<d/\Wv m' ai H',λ_ _ z=>z,?_⟩;apply⟨ss.length-(g+1),by lk,?_⟩;rw[A];show⟨rfl,g+1,by simp,rfl,λj h=>?_⟩;by_cases e:j=g
    .rw [e];show hb
    .show n j (by lk)
   | true =>
    show yq ?_;obtain⟨x,hx⟩:∃ x,ss[g]?=some x:=⟨_,yb S⟩;obtain⟨r,p⟩:∃ r,r=q9 m (2 ^ g):=⟨_,rfl⟩;have X:r<m:=by rw[p];show qfo hb
    have pw:∀ k:Nat,(1*2 ^ ((k:Int)).toNat:Int)=((2 ^ k:Nat):Int):=λk=>by rw[yS,kY,xU];rfl
    apply vI ⟨by lk,by lk,by decide⟩ ?_;apply vU ?_;ext;rw[pw,jk,<- p];ext
    have tg:∀ k,k<m->(zh (tbL tps ss m))[k]?=some (.int (tbQ tps ss k:Nat)):=λk hk=>by
     rw[je (by rw[qcD];show hk),qfq hk]
    show .inl (zo u (qt (tg r X)) ?_);apply .inl (zo R (qt (je (by rw[O.1];show S))) ?_);ext;rw[qdG];obtain⟨L,D⟩:∃ L,L=r &&& bs.getD g 0:=⟨_,rfl⟩;rw[<- D]
    have af:∀ o y,ss[o]?=some y->(L.testBit o=true↔(r.testBit o=true/\tA tps x y)):=λo y Z=>by
     rw[D,Y6,yL,ag hx Z];rfl
    have U:∀ o,o<=g->L.testBit o=false:=λo ho=>by
     rw[D,Y6,p,qY,Yj];by_cases e:o=g
     .subst e;simp
     .rw [n o (by lk)];rfl
    apply qgm ?_;apply⟨_,_,rfl,⟨by lk,by lk,by lk,by lk⟩,jL (λi t G=>G=J'/\∃(v:Nat) (M:Option V),t=[some (.int (ss.length:Int)),some (.ref lb),some (.ref l),some (.int (m:Int)),some (.int (g:Int)),some (.int (r:Int)),some (.int (v:Int)),some (.int (L:Int)),M]/\IsM tps ss (λo=>L.testBit o) r (g+1+i) v) ⟨rfl,_,_,rfl,yh _,(λo ho h=>by rw[U o (by lk)] at h;cases h),.inl rfl⟩ (λi t G aj I=>?_) λt G I=>?_⟩
    .obtain⟨rfl,v,y8,rfl,hv⟩:=I;obtain⟨o,ho⟩:∃ o,o=g+1+i:=⟨_,rfl⟩;have eo:(g:Int)+1+(i:Int)=(o:Int):=by lk
     have an:o<ss.length:=by lk
     rw[eo];rw[<- ho] at hv;have ac:g+1+(i+1)=o+1:=by lk
     rw[ac];apply vI (by lk) ?_;apply qav ?_;rw[zC];apply qL (λB=>?_) λB=>⟨rfl,v,_,rfl,hv.skip B⟩;apply vI ⟨by lk,by lk,by decide⟩ ?_;apply vU ?_;ext;rw[pw,jk];have W:q9 r (2 ^ o)<m:=YH (by unfold q9;lk) X;show .inl (zo u (qt (tg _ W)) ?_);apply⟨_,_,rfl,?_⟩;show⟨rfl,max v (1+tbQ tps ss (q9 r (2 ^ o))),some (.int (o:Int)),?_,hv.take B⟩;have e:((max v (1+tbQ tps ss (q9 r (2 ^ o))):Nat):Int)=if 1+(tbQ tps ss (q9 r (2 ^ o)):Int)>(v:Int) then 1+(tbQ tps ss (q9 r (2 ^ o)):Int) else(v:Int):=by split<;>lk
     rw[e];rfl
    .obtain⟨rfl,v,y8,rfl,hv⟩:=I;have et:g+1+((ss.length:Int)-((g:Int)+1)).toNat=ss.length:=by lk
     rw[et,p] at hv;have ev:=qfn hi hn hx hb (λo=>L.testBit o) (λo y Z=>by rw[<- p];show af o y Z) hv;apply⟨.inl ⟨rfl,_,.of u⟩,?_⟩;apply⟨l,_,_,rfl,rfl,u,by unfold zh;rw[ya,qcD];show jt (by lk),?_⟩;show⟨_,_,_,_,_,_,rfl,λc o z=>?_,?_⟩
     .rw [qi (λz'=>by rw[z',hl] at z;cases z)];show sJ c o z
     .rw [qb,tbL_succ,ev];unfold zh;rw[yt];rfl
  .obtain⟨x3,x4,x5,x6,x7,M,rfl,sJ,u⟩:=I;ext;have e:((2 ^ ss.length:Nat)-1:Int).toNat+1=2 ^ ss.length:=by lk
   rw[e] at u;show q l J sJ hl u
theorem K7:FnScope ["_law_purse_here","_law_names_here","_law_pairs","_law_found","_law_one","_law_other","_law_turn"] wqx (qg qa5):=fS
theorem Pu.same(h:Pu H p)(s:L2.Same H H'):Pu H' p:=by
 obtain⟨a,b,c,e,r⟩:=h;show⟨a,b,c,s _ _ e,r⟩
def IPZ(H:Hp)(l:Addr)(a:List (Addr×(Nat×Nat))):Prop:=H l=some (.lst (a.map λz=>V.ref z.1))/\∀ z∈a,H z.1=some (iT z.2)
theorem IPZ.same{a:List (Addr×(Nat×Nat))}(h:IPZ H l a)(s:L2.Same H H'):IPZ H' l a:=⟨s _ _ h.1,λz b=>s _ _ (h.2 z b)⟩
def qer(PI:List (Nat×Nat)):LN:=PI.flatMap λq=>[q.1,q.2]
theorem qa6(PI:List (Nat×Nat))(q:Nat×Nat):qer (PI++[q])=qer PI++[q.1,q.2]:=by
 unfold qer;rw[xC];rfl
theorem nums_len(PI:List (Nat×Nat)):(qer PI).length=2*PI.length:=by
 induction PI with
 | nil=>rfl
 | cons q r ih =>
  show(q.1::q.2::qer r).length=_;rw[yx,yx,ih,yx];lk
abbrev sT(q:Str×Str):HO:=.tup [.str q.1,.str q.2]
def SPZ(H:Hp)(l:Addr)(a:List (Addr×(Str×Str))):Prop:=H l=some (.lst (a.map λz=>V.ref z.1))/\∀ z∈a,H z.1=some (sT z.2)
theorem SPZ.pl{c:List (Addr×(Str×Str))}(h:SPZ H l c):PL H l (c.map Prod.fst) (c.map Prod.snd):=by
 show⟨by rw[XH];show h.1,by rw[ya,ya],λk a b d hb=>?_⟩;rw[yd] at d hb;obtain⟨z,e,rfl⟩:=yn.mp d;rw[e] at hb;cases hb;show h.2 z (ye e)
structure NdP(ss:LS)(TI PI:List (Nat×Nat))(qs:LP):Prop where
 inn:∀ q∈qs,(q∈TI.map (nmP ss)\/(q.2,q.1)∈TI.map (nmP ss))/\q.1∈ss/\q.2∈ss/\q.1≠q.2
 per:(qx qs).Perm ((qer PI).map (tn ss))
 len:qs.length=PI.length
theorem NdP.snoc{TI PI:List (Nat×Nat)}(h:NdP ss TI PI qs)(e:ss.Nodup)(d:TJ ss.length TI)(f:q∈TI){y:Str×Str}(c:y=nmP ss q\/y=((nmP ss q).2,(nmP ss q).1)):NdP ss TI (PI++[q]) (qs++[y]):=by
 have m:nmP ss q∈TI.map (nmP ss):=xD f;obtain⟨h1,a,b⟩:=qfh e d _ m;show⟨λz g=>?_,?_,by rw[yu,yu,h.len];rfl⟩
 .rcases yG.mp g with k | k
  .show h.inn z k
  .rw [yC.mp k];rcases c with rfl | rfl
   .show⟨.inl m,h1,a,b⟩
   .show⟨.inr m,a,h1,b.symm⟩
 .rw [zA,qa6,yt];show h.per.append ?_;rcases c with rfl | rfl
  .show List.Perm.refl _
  .show List.Perm.swap _ _ _
theorem NdP.go{TI PI:List (Nat×Nat)}{rs:LP}(h:NdP ss TI PI qs)(i:ss.Nodup)(g:TJ ss.length TI)(f:∀ q∈PI,q∈TI)(nd:(qer PI).Nodup)(m:PI.length<=8)(d:rs.Perm qs):PGo ss (TI.map (nmP ss)) rs:=by
 have hl:∀ k∈qer PI,k<ss.length:=λk a=>by
  unfold qer at a;obtain⟨q,c,a⟩:=xI.mp a;have:=g.2.1 q (f q c);rcases yv.mp a with z | z
  .omega
  .have:=yC.mp z;lk
 show⟨λq c=>h.inn q (d.mem_iff.mp c),?_,by rw[d.length_eq,h.len];lk⟩;have e:(qx rs).Perm (qx qs):=d.flatMap_right _;rw[e.nodup_iff,h.per.nodup_iff];show YM.mpr (nd.imp_of_mem λ{x y} j l b e=>b (zJ i (hl x j) (hl y l) e))
inductive spNdJ(vs:List V)(H:Hp)(Q:VK)(E:XK):Prop|mk (p n l:Addr) (ss:LS) (TI:List (Nat×Nat)) (zs:List (Addr×(Nat×Nat))) (_:vs=[.ref p,.ref n,.ref l]) (_:Pu H p) (_:H n=some (.lst (ss.map V.str))) (_:n≠p) (_:NOk ss) (_:TJ ss.length TI) (_:IPZ H l zs) (_:l≠p) (_:(∀ z∈zs,z.2∈TI)) (_:(qer (zs.map Prod.snd)).Nodup) (_:zs.length<=8) (_:∀(r:Addr) (us:LI) (qs:LP) (H':Hp),But p H H'->Pu H' p->PL H' r us qs->PGo ss (TI.map (nmP ss)) qs->qs.length=zs.length->Q (.ref r) H')
theorem ok_ndJ(F:Fun K "_law_named" "_law_named" qa5 f fd)(T:Txt K mg cc cw)(Kz:wq9 1 "_law_take" wy spTkP):wqqb 2 f fd wqx spNdJ:=by
 show F.ok K7 λ_ _ _ _ H vs Q E hr h=>?_
 .obtain⟨p,n,l,ss,TI,X,rfl,hp,hn,ao,hO,hT,hZ,am,L,an,h8,q⟩:=h;have hu:=za hr;show⟨_,(qc (qk (i:=3) K7.nd rfl (yF rfl) (qz qd))
 (qc (qR yW rfl (qc8 (K:=K) rfl (pv 2)) (qca rfl (jm (qm (i:=4) K7.nd rfl (yF rfl)) (jm (qm (i:=5) K7.nd rfl (yF rfl)) qbb)))
 (qe (qW (qcg (K:=K) rfl yV Yb Yc qG (pv 3) (qa (qu (qv (K:=K) rfl hu) (qz (qa (jg (qa (qu (qv (K:=K) rfl hu) (pv 1) (pv 4) (λ_ _=>rfl)) (qa (qu (qv (K:=K) rfl hu) (pv 1) (pv 5) (λ_ _=>rfl)) qd))) (qa (jg (qa (qu (qv (K:=K) rfl hu) (pv 1) (pv 5) (λ_ _=>rfl)) (qa (qu (qv (K:=K) rfl hu) (pv 1) (pv 4) (λ_ _=>rfl)) qd))) qd))) (qo Kz (hmR hr) qy (qa (pv 0) (qa qf qd))) (λ_ _=>rfl)) qd)))))
 (qc (qk (i:=6) K7.nd rfl (yF rfl) (qo Kz (hmR hr) qy (qa (pv 0) (qa (qj (qaK rfl) rfl T.b_max boot_max (qa qf (qa (qj (jv (K:=K) rfl) rfl T.b_len Yt (qa (pv 3) qd)) qd))) qd))))
 (qe (qr (qp (jp (K:=K) rfl) (jo (qeF (K:=K) rfl) (pv 3) (jM (pv 6)) jT) (jo (qeF (K:=K) rfl) (pv 3) jT (jM (pv 6))))))))),?_⟩
  apply⟨wqqc,λh hh=>?_⟩;have s1:=qC (Sr H) (o:=.lst []) hh;have eh:upd H h (.lst []) h=some (.lst []):=qb;generalize upd H h (.lst [])=H1 at s1 eh;have I:h≠p:=hp.apart hh;apply qe3 ?_;ext;have as:∀{c:Addr} {q:Nat×Nat},H c=some (iT q)->c≠p:=λr z=>by obtain⟨x,y,w,e,_⟩:=hp;rw[z,e] at r;cases r
  show⟨l,_,rfl,.of (s1 _ _ hZ.1),qO (xs:=X.map λz=>V.ref z.1) (λi σ J=>But p H J/\Pu J p/\∃(a:List (Addr×(Str×Str))) (y4 y5:Option V),σ=[some (.ref p),some (.ref n),some (.ref l),some (.ref h),y4,y5,none]/\SPZ J h a/\NdP ss TI ((X.take i).map Prod.snd) (a.map Prod.snd)) ⟨λc o _ e=>s1 c o e,hp.same s1,[],_,_,rfl,⟨eh,λz O=>by cases O⟩,⟨λq W=>(by cases W),List.Perm.refl _,rfl⟩⟩ (λi σ J _ hp=>.of (hp.1 _ _ am hZ.1)) (λi y σ J hy N=>?_) fun σ J N=>?_⟩
  .obtain⟨Y,pJ,a,y4,y5,rfl,G,U⟩:=N;rw[yd] at hy;obtain⟨j,R,rfl⟩:=yn.mp hy;have u:=ye R;have W:=hT.2.1 j.2 (L j u);have ez:=Y _ _ (as (hZ.2 j u)) (hZ.2 j u);have s:=Y _ _ ao hn;have au:i<X.length:=(yc.mp R).1;have ad:a.length<=8:=by have:=U.len;rw[ya,ya,yK] at this;lk
   show⟨j.1,_,rfl,.of ez,rfl,_,_,rfl,_,_,rfl,rfl,?_⟩;apply⟨.inl ⟨rfl,_,.of G.1⟩,?_⟩;apply qcz s (by lk) ?_;apply qcz s W.2 ?_;apply⟨wqqe,λA ap=>?_⟩;have s2:=qC (Sr J) (o:=.tup [.str (tn ss j.2.1),.str (tn ss j.2.2)]) ap;have aa:upd J A (.tup [.str (tn ss j.2.1),.str (tn ss j.2.2)]) A=some (sT (nmP ss j.2)):=qb;generalize upd J A (.tup [.str (tn ss j.2.1),.str (tn ss j.2.2)])=J2 at s2 aa;apply qcz (s2 _ _ s) W.2 ?_;apply qcz (s2 _ _ s) (by lk) ?_;apply⟨wqqe,λB aq=>?_⟩;have C:=qC (Sr J2) (o:=.tup [.str (tn ss j.2.2),.str (tn ss j.2.1)]) aq;have ac:upd J2 B (.tup [.str (tn ss j.2.2),.str (tn ss j.2.1)]) B=some (sT ((nmP ss j.2).2,(nmP ss j.2).1)):=qb;generalize upd J2 B (.tup [.str (tn ss j.2.2),.str (tn ss j.2.1)])=J3 at C ac;apply⟨wqqe,λg hg=>?_⟩;have D:=qC (Sr J3) (o:=.lst [.ref A,.ref B]) hg;have eg:upd J3 g (.lst [.ref A,.ref B]) g=some (.lst [.ref A,.ref B]):=qb;generalize upd J3 g (.lst [.ref A,.ref B])=J4 at D eg;have v:=(s2.trans C).trans D;have p4:=pJ.same v;apply⟨p,2,rfl,p4,by decide,by decide,λd J5 hd b5 p5=>?_⟩;have pT:∀{c:Addr} {q:Str×Str},J4 c=some (sT q)->J5 c=some (sT q):=λr=>b5 _ _ (λz=>by obtain⟨x,y,w,e,_⟩:=p4;rw[z,e] at r;cases r) r;have ak:g≠p:=((pJ.same s2).same C).apart hg
   obtain⟨t,y,al,ht,ar⟩:∃(t:Addr) (y:Str×Str),[V.ref A,V.ref B][d]?=some (.ref t)/\J5 t=some (sT y)/\(y=nmP ss j.2\/y=((nmP ss j.2).2,(nmP ss j.2).1)):=by
    match d,hd with
    | 0,_=>show⟨A,_,rfl,pT (D _ _ (C _ _ aa)),.inl rfl⟩
    | 1,_=>show⟨B,_,rfl,pT (D _ _ ac),.inr rfl⟩
   show .inl (zo (b5 _ _ ak eg) (qt al) ?_);have Z:=b5 _ _ I (v _ _ G.1);apply⟨h,_,_,rfl,rfl,Z,by rw[ya];show qh (by lk),?_⟩;have kT:∀{c:Addr} {q:Str×Str} {o:HO},J5 c=some (sT q)->upd J5 h o c=some (sT q):=λr=>by rw[qi (λz=>by rw[z,Z] at r;cases r)];show r
   show⟨λc o n e=>?_,?_,a++[(t,y)],_,_,rfl,⟨by rw[qb,yt];rfl,λz O=>?_⟩,?_⟩
   .rw [qi (λz=>by rw[z,hh] at e;cases e)];show b5 _ _ n (v _ _ (Y c o n e))
   .obtain⟨a1,a2,a3,e,rr⟩:=p5;show⟨a1,a2,a3,by rw[qi I.symm];show e,rr⟩
   .rcases yG.mp O with z' | z'
    .show kT (pT (v _ _ (G.2 z z')))
    .rw [yC.mp z'];show kT ht
   .rw [yO,R,yt,yt];show U.snoc hO.nd hT (L j u) ar
  .obtain⟨Y,pJ,a,y4,y5,rfl,G,U⟩:=N;rw[show(X.map λz=>V.ref z.1).length=X.length from ya _,yT] at U;have ad:a.length=X.length:=by have:=U.len;rwa[ya,ya] at this
   apply j6 G.1 ?_;rw[ya];apply⟨_,_,rfl,?_⟩
   obtain⟨M,eM,af,ag⟩:∃ M:Nat,(if ((a.length:Nat):Int)>1 then((a.length:Nat):Int) else 1)=(M:Int)/\0<M/\M<1000:=by
    by_cases h1:1<a.length
    .rw [yH (by lk)];show⟨a.length,rfl,by lk,by lk⟩
    .rw [yD (by lk)];show⟨1,rfl,by decide,by decide⟩
   rw[eM];apply⟨p,M,rfl,pJ,af,ag,λb H2 av b2 p2=>?_⟩;have pT:∀{c:Addr} {q:Str×Str},J c=some (sT q)->H2 c=some (sT q):=λr=>b2 _ _ (λz=>by obtain⟨x,y,w,e,_⟩:=pJ;rw[z,e] at r;cases r) r;have e2:=b2 _ _ I G.1;have ae:=Y.trans7 b2;apply .inl ⟨h,_,rfl,.of e2,λg1 ah=>?_⟩;have ed:qcr (a.map λz=>V.ref z.1) (some (b:Int)) none=(a.drop b).map λz=>V.ref z.1:=by rw[qaT,kB]
   rw[ed];have C:=qC (Sr H2) (o:=.lst ((a.drop b).map λz=>V.ref z.1)) ah;have e3:upd H2 g1 (.lst ((a.drop b).map λz=>V.ref z.1)) g1=some (.lst ((a.drop b).map λz=>V.ref z.1)):=qb;generalize upd H2 g1 (.lst ((a.drop b).map λz=>V.ref z.1))=H3 at C e3;apply .inl ⟨h,_,rfl,.of (C _ _ e2),λg2 ai=>?_⟩;have et:qcr (a.map λz=>V.ref z.1) none (some (b:Int))=(a.take b).map λz=>V.ref z.1:=by rw[qag,Xr]
   rw[et];have D:=qC (Sr H3) (o:=.lst ((a.take b).map λz=>V.ref z.1)) ai;have e4:upd H3 g2 (.lst ((a.take b).map λz=>V.ref z.1)) g2=some (.lst ((a.take b).map λz=>V.ref z.1)):=qb;generalize upd H3 g2 (.lst ((a.take b).map λz=>V.ref z.1))=H4 at D e4;ext;show qeC K (V.ref g1) (V.ref g2) H4 _;show .inl ⟨g1,g2,_,_,rfl,rfl,D _ _ e3,e4,by rw[ya,ya,YU,yK];show yN (qh (by lk)),λg3 aj=>?_⟩;have s5:=qC (Sr H4) (o:=.lst (((a.drop b).map λz=>V.ref z.1)++(a.take b).map λz=>V.ref z.1)) aj;have Z:upd H4 g3 (.lst (((a.drop b).map λz=>V.ref z.1)++(a.take b).map λz=>V.ref z.1)) g3=some (.lst ((a.drop b++a.take b).map λz=>V.ref z.1)):=by rw[qb,yt]
   generalize upd H4 g3 (.lst (((a.drop b).map λz=>V.ref z.1)++(a.take b).map λz=>V.ref z.1))=H5 at s5 Z
   have m:(a.drop b++a.take b).Perm a:=by
    have h1:=ko (l₁:=a.drop b) (l₂:=a.take b)
    rwa[xR] at h1
   have S:=(C.trans D).trans s5;have hS:SPZ H5 g3 (a.drop b++a.take b):=⟨Z,λz O=>S _ _ (pT (G.2 z (m.mem_iff.mp O)))⟩;show q g3 _ _ H5 (λc o n e=>S _ _ (ae c o n e)) (p2.same S) hS.pl (U.go hO.nd hT (λq W=>?_) an (by rw[ya];show h8) (m.map Prod.snd)) (by rw[ya,m.length_eq,ad]);obtain⟨z,O,rfl⟩:=yB.mp W;show L z O
theorem uP:FnScope wqC wqw (qg qa7):=fS
theorem uQ:FnScope wqA wqN (qg qat):=fS
def frI(tps:LP)(ss:LS)(n:Nat):LN:=(List.range n).filter λk=>decide (tbQ tps ss (q9 (2 ^ ss.length-1) (2 ^ k))=tbQ tps ss (2 ^ ss.length-1))
def nrI(bs a:LN)(k:Nat):Bool:=!decide (k∈a)&&!(a.filter λj=>zY bs k j).isEmpty
theorem qcE(p:Nat->Bool)(i:Nat):(List.range (i+1)).filter p=(List.range i).filter p++(if p i=true then [i] else []):=by
 rw[YB,yZ,yP,YA]
theorem qaF(p:Nat->Bool)(i:Nat):((List.range i).filter p).length<=i:=yi (yI _ _) (by rw[YE];show yh _)
theorem ne_nilI{xs:LN}{Q:VK}(hl:H l=some (.lst (xs.map iV)))(a:H z=some (.lst []))(q:Q (.bl (!xs.isEmpty)) H):qfG K true (.ref l) (.ref z) H Q:=by
 cases xs with
 | nil=>show .inr (.inl ⟨l,z,true,1,rfl,rfl,by decide,EqT.lst (n:=0) (e:=λ_=>true) (SqL.of hl) (SqL.of a) rfl λj x y h=>by(simp at h),q⟩)
 | cons x r=>show .inr (.inl ⟨l,z,false,1,rfl,rfl,by decide,EqT.lstL (SqL.of hl) (SqL.of a) (by simp),q⟩)
theorem int_inB{b:Bool}{g:Addr}{k:Nat}{Q:VK}(h:H g=some (.lst (gs.map iV)))(q:Q (.bl (if b=true then !decide (k∈gs) else decide (k∈gs))) H):qf2 K b (iV k) (.ref g) H Q:=by
 classical
 show .inr (.inr ⟨g,gs.map iV,λz=>eqV z (iV k),1,rfl,SqL.of h,by decide,λz c=>?_,?_⟩)
 .obtain⟨j,d,rfl⟩:=yB.mp c;show .flat rfl rfl
 .have e:(gs.map iV).any (λz=>eqV z (iV k))=decide (k∈gs):=by
   rw[Yu,YV,yJ];constructor
   .rintro ⟨z,c,e⟩;obtain⟨j,d,rfl⟩:=yB.mp c;have a:=jA (j:Int) (k:Int);rw[yD (by decide)] at a;rw[a,yJ] at e;have:j=k:=by lk
    show this ▸ d
   .intro f;show⟨iV k,yB.mpr ⟨k,f,rfl⟩,?_⟩;have a:=jA (k:Int) (k:Int);rw[yD (by decide)] at a;rw[a];show yz rfl
  rw[e];show q
theorem pwI(k:Nat):(1*2 ^ ((k:Int)).toNat:Int)=((2 ^ k:Nat):Int):=by rw[yS,kY,xU];rfl
inductive spFeQ(vs:List V)(H:Hp)(Q:VK)(E:XK):Prop|mk (lb lt:Addr) (ss:LS) (tps:LP) (_:vs=[.int (ss.length:Int),.ref lb,.ref lt]) (_:ss.length<=12) (_:H lt=some (.lst (zh (tbL tps ss (2 ^ ss.length))))) (_:∀(l:Addr) (H':Hp),L2.Same H H'->H l=none->H' l=some (.lst ((frI tps ss ss.length).map iV))->Q (.ref l) H')
inductive spNrQ(vs:List V)(H:Hp)(Q:VK)(E:XK):Prop|mk (lb lf:Addr) (bs fr:LN) (_:vs=[.ref lb,.ref lf]) (_:bs.length<=14) (_:fr.length<=14) (_:H lb=some (.lst (zh bs))) (_:H lf=some (.lst (fr.map iV))) (_:∀(l:Addr) (H':Hp),L2.Same H H'->H l=none->H' l=some (.lst (((List.range bs.length).filter (nrI bs fr)).map iV))->Q (.ref l) H')
def wdI(tps:LP)(ss:LS)(bs:LN)(k:Nat):Str:=if k∈frI tps ss ss.length then "loose" else if nrI bs (frI tps ss ss.length) k=true then "held" else "fast"
inductive spWdQ(vs:List V)(H:Hp)(Q:VK)(E:XK):Prop|mk (lb:Addr) (ss:LS) (TI:List (Nat×Nat)) (bs:LN) (_:vs=[.int (ss.length:Int),.ref lb]) (_:ss.length<=12) (_:ss.Nodup) (_:TJ ss.length TI) (_:H lb=some (.lst (zh bs))) (_:BtJ ss.length TI bs) (_:∀(l:Addr) (H':Hp),L2.Same H H'->H l=none->H' l=some (.lst ((List.range ss.length).map λk=>V.str (wdI (TI.map (nmP ss)) ss bs k)))->Q (.ref l) H')
theorem ok_feQ(F:Fun K "_law_free" "_law_free" qa7 f fd)(T:Txt K mg cc cw):wqqb 1 f fd wqw spFeQ:=by
 show F.ok uP λ_ _ _ _ H vs Q E s h=>?_
 .obtain⟨x,lt,ss,tps,rfl,u,d,q⟩:=h;have j:=za s;have y:0<2 ^ ss.length:=Xq _
  have n:∀ k,k<2 ^ ss.length->(zh (tbL tps ss (2 ^ ss.length)))[k]?=some (.int (tbQ tps ss k:Nat)):=λk m=>by
   rw[je (by rw[qcD];show m),qfq m]
  show⟨_,(qc (qk (i:=3) uP.nd rfl (Xg rfl) (qp qaI (qp j7 qf (pv 0)) qf))
 (qe (qr (jh (sc:=qg qa7) (XN:=wqC) wqW 1 [2,3] rfl rfl rfl (by room) rfl (by room)
  (qT rfl T.b_range (qa (pv 0) qd)) (λ_ _ _ _=>(qm (i:=0) (show(wqW:LS).Nodup by room) rfl (yF rfl))) qF
  (λ_ _ _ _=>(qP (qq (jS (K:=K) rfl j) (qu (qv (K:=K) rfl j) (pv 1) (qp jF (pv 2) (qcq qbj (qp j7 qf (pv 0)))) (λ_ _=>rfl)) (qu (qv (K:=K) rfl j) (pv 1) (pv 2) (λ_ _=>rfl)) (qB _))))
  (λ_ _ _ _=>(pv 0)))))),?_⟩
  apply vI ⟨by lk,by lk,by decide⟩ ?_;ext;rw[pwI];have r:((2 ^ ss.length:Nat):Int)-1=((2 ^ ss.length-1:Nat):Int):=by lk
  rw[r];obtain⟨a,b⟩:∃ a,a=2 ^ ss.length-1:=⟨_,rfl⟩;rw[<- b];apply⟨_,rfl,by lk,by lk,?_⟩;rw[yS];show jG (lo:=0) (λi l J=>J=H/\l=(frI tps ss i).map iV) ⟨rfl,rfl⟩ (λi l J v g=>?_) λl J g=>?_
  .obtain⟨rfl,rfl⟩:=g;rw[xi];apply vI ⟨by lk,by lk,by decide⟩ ?_;apply vU ?_;ext;rw[pwI,jk];have e:q9 a (2 ^ i)<2 ^ ss.length:=YH (by unfold q9;lk) (show a<2 ^ ss.length by lk);show .inl (zo d (qt (n _ e)) ?_);apply .inl (zo d (qt (n a (by lk))) ?_);apply qav ?_;ext
   have o:frI tps ss (i+1)=frI tps ss i++(if decide (tbQ tps ss (q9 a (2 ^ i))=tbQ tps ss a)=true then [i] else []):=by
    unfold frI;rw[qcE,<- b]
   have p:decide ((tbQ tps ss (q9 a (2 ^ i)):Int)=(tbQ tps ss a:Int))=decide (tbQ tps ss (q9 a (2 ^ i))=tbQ tps ss a):=Yo.mpr (by lk);rw[o,p];have l1:(frI tps ss i).length<=i:=qaF _ i;show qL (λh=>?_) λh=>?_
   .rw [yH h];apply⟨by rw[ya];show jt (by lk),rfl,by rw[yt];rfl⟩
   .rw [yD h,Yg];show⟨rfl,rfl⟩
  .obtain⟨rfl,rfl⟩:=g;have l1:(frI tps ss ss.length).length<=ss.length:=qaF _ _;show⟨by rw[ya];show yN (jt (by lk)),λt c=>?_⟩;show q t _ (qC (Sr J) c) c qb
theorem ok_nrQ(F:Fun K "_law_near" "_law_near" qat f fd)(T:Txt K mg cc cw):wqqb 1 f fd wqN spNrQ:=by
 show F.ok uQ λ_ _ _ _ H vs Q E hr h=>?_
 .obtain⟨lb,lf,bs,a,rfl,aa,ac,n,r,q⟩:=h;have D:=za hr;show⟨_,(qc (j5 (sc:=qg qat) (XN:=wqA) ["_law_k","_law_free_here"] 1 [1] rfl rfl rfl (by room) rfl (by room) (i:=2) uQ.nd rfl rfl
  (qT rfl T.b_range (qa (qj (jv (K:=K) rfl) rfl T.b_len Yt (qa (pv 0) qd)) qd)) (λ_ _ _ _=>(qm (i:=0) (show(["_law_k","_law_free_here"]:LS).Nodup by room) rfl (yF rfl))) qF
  (λ_ _ _ _=>(qP (qq (zQ (K:=K) rfl D) (pv 0) (pv 1) (by with_unfolding_all rfl))))
  (λ_ _ _ _=>(pv 0)))
 (qe (qr (jh (sc:=qg qat) (XN:=wqA) wqY 1 [1,0] rfl rfl rfl (by room) rfl (by room)
  (qK (K:=K) rfl (pv 2)) (λ_ _ _ _=>(qm (i:=0) (show(wqY:LS).Nodup by room) rfl (Xg rfl))) qF
  (λ_ _ _ _=>(qP (qq (qaf (K:=K) rfl D) (pe_compIn wq6 1 [2,0] rfl (by room) rfl (by room)
  (qK (K:=K) rfl (pv 1)) (λ_ _ _ _=>(qm (i:=0) (show(wq6:LS).Nodup by room) rfl (yF rfl))) qF
  (λ_ _ _ _=>(qP (qq (jS (K:=K) rfl D) (qp jF (qp qaJ (qu (qv (K:=K) rfl D) (pv 1) (pv 2) (λ_ _=>rfl)) (pv 0)) qf) qf (qB _))))
  (λ_ _ _ _=>(pv 0))) (qz qd) (qB _))))
  (λ_ _ _ _=>(pv 0)))))),?_⟩
  apply j6 n ?_;rw[show(zh bs).length=bs.length from ya _];show⟨_,rfl,by lk,by lk,?_⟩;rw[yS];show jG (lo:=0) (λi b J=>J=H/\b=((List.range i).filter λk=>!decide (k∈a)).map iV) ⟨rfl,rfl⟩ (λi b J hi d=>?_) λb J d=>?_
  .obtain⟨rfl,rfl⟩:=d;rw[xi];apply int_inB r ?_;rw[yH rfl,qcE];ext;have l1:((List.range i).filter λk=>!decide (k∈a)).length<=i:=qaF _ i;show qL (λh=>?_) λh=>?_
   .rw [yH h];apply⟨by rw[ya];show jt (by lk),rfl,by rw[yt];rfl⟩
   .rw [yD h,Yg];show⟨rfl,rfl⟩
  .obtain⟨rfl,rfl⟩:=d;obtain⟨xs,e⟩:∃ xs,xs=(List.range bs.length).filter λk=>!decide (k∈a):=⟨_,rfl⟩;have l1:xs.length<=bs.length:=by rw[e];show qaF _ _
   have X:∀ k∈xs,k<bs.length/\k∉a:=λk hk=>by
    rw[e] at hk;obtain⟨h1,h2⟩:=yp.mp hk;show⟨Yh.mp h1,by simpa using h2⟩
   have Y:(List.range bs.length).filter (nrI bs a)=xs.filter λk=>!(a.filter λj=>zY bs k j).isEmpty:=by
    rw[e,kR];show YL λk _=>?_;unfold nrI;rw[Bool.and_comm]
   rw[Y] at q;rw[<- e];show⟨by rw[ya];show yN (jt (by lk)),λZ O=>?_⟩;have I:=qC (Sr J) (o:=.lst (xs.map iV)) O;have M:upd J Z (.lst (xs.map iV)) Z=some (.lst (xs.map iV)):=qb;generalize upd J Z (.lst (xs.map iV))=J2 at I M;ext;obtain⟨g,t⟩:∃ g:Nat->Bool,g=λk=>!(a.filter λj=>zY bs k j).isEmpty:=⟨_,rfl⟩;rw[<- t] at q;show .inl ⟨⟨_,.of M⟩,qJ (xs:=xs.map iV) (λi b G=>L2.Same J2 G/\b=((xs.take i).filter g).map iV) ⟨L2.Same.refl _,rfl⟩ (λi b G _ d=>.of (d.1 _ _ M)) (λi y b G u d=>?_) λb G d=>?_⟩
   .obtain⟨A,rfl⟩:=d;rw[yd] at u;obtain⟨x,U,rfl⟩:=yn.mp u;have ae:i<xs.length:=(yc.mp U).1;have W:=(X x (ye U)).1;have l:=A _ _ (I _ _ r);have p:=A _ _ (I _ _ n);have l2:((xs.take i).filter g).length<=i:=yi (yI _ _) (by rw[yK];lk)
    have e0:(xs.take (i+1)).filter g=(xs.take i).filter g++(if g x=true then [x] else []):=by
     rw[yO,U,yZ];show _++[x].filter _=_;rw[yP,YA]
    rw[e0];apply .inl ⟨⟨_,.of l⟩,qJ (xs:=a.map iV) (λk b m=>m=G/\b=((a.take k).filter λj=>zY bs x j).map iV) ⟨rfl,rfl⟩ (λk b m _ c=>by rw[c.1];show .of l) (λk y b m u c=>?_) λb m c=>?_⟩
    .obtain⟨rfl,rfl⟩:=c;rw[yd] at u;obtain⟨v,hv,rfl⟩:=yn.mp u;have af:k<a.length:=(yc.mp hv).1
     have S:(a.take (k+1)).filter (λj=>zY bs x j)=(a.take k).filter (λj=>zY bs x j)++(if zY bs x v=true then [v] else []):=by
      rw[yO,hv,yZ];show _++[v].filter _=_;rw[yP,YA]
     have ad:((a.take k).filter (λj=>zY bs x j)).length<=k:=yi (yI _ _) (by rw[yK];lk);apply .inl (zo p (qt (je W)) ?_);apply vI (by show(0:Int)<=(v:Int);lk) ?_;apply qav ?_;rw[zC,S];apply qL (λh=>?_) λh=>?_
     .rw [yH (show zY bs x v=true from h)];apply⟨by rw[ya];show jt (by lk),rfl,by rw[yt];rfl⟩
     .rw [yD (show ¬ zY bs x v=true from h),Yg];show⟨rfl,rfl⟩
    .obtain⟨rfl,rfl⟩:=c;have e1:(a.map iV).length=a.length:=ya _;rw[e1,yT];have ep:g x=!(a.filter λj=>zY bs x j).isEmpty:=by rw[t]
     rw[ep];generalize N:a.filter (λj=>zY bs x j)=C;have ag:C.length<=14:=by rw[<- N];show yi (yI _ _) (by lk)
     show⟨by rw[ya];show yN (jt (by lk)),λlz R=>?_⟩;have s3:=qC (Sr m) (o:=.lst (C.map iV)) R;have ex:upd m lz (.lst (C.map iV)) lz=some (.lst (C.map iV)):=qb;generalize upd m lz (.lst (C.map iV))=L at s3 ex;apply⟨wqqc,λz hz=>?_⟩;have s4:=qC (Sr L) (o:=.lst []) hz;have ez:upd L z (.lst []) z=some (.lst []):=qb;generalize upd L z (.lst [])=G3 at s4 ez;show ne_nilI (s4 _ _ ex) ez ?_;ext;have B:=(A.trans s3).trans s4;show qL (λh=>?_) λh=>?_
     .rw [yH h];apply⟨by rw[ya];show jt (by lk),B,by rw[yt];rfl⟩
     .rw [yD h,Yg];show⟨B,rfl⟩
   .obtain⟨A,rfl⟩:=d;rw[show(xs.map iV).length=xs.length from ya _,yT];have l2:(xs.filter g).length<=xs.length:=yI _ _;show⟨by rw[ya];show yN (jt (by lk)),λln s=>?_⟩;have sN:=I.trans A;show q ln _ (sN.trans (qC (Sr G) s)) (sN.free s) qb
def qb8:V->Bool
 | .str x=>jD x
 | _=>false
def zZ:V->Str
 | .str x=>x
 | _=>""
theorem zm{x:V}(h:qb8 x=true):x=.str (zZ x)/\jD (zZ x)=true/\(zZ x).length<=6:=by
 cases x with
 | str y =>
  show⟨rfl,h,?_⟩;have h':jD y=true:=h;unfold jD at h';split at h'
  .rename_i z;show z.2
  .cases h'
 | _=>cases h
inductive Th(p:Addr)(H:Hp):Nat->V->Prop
 | flat {n:Nat} {v:V} (f:qae v=true) (l:∀ s,v=.str s->s.length<=100000):Th p H n v
 | lst {n:Nat} {a:Addr} {xs:List V} (e:H a=some (.lst xs)) (ne:a≠p) (h:∀ x∈xs,Th p H n x) (l:xs.length<=1000):Th p H (n+1) (.ref a)
 | tup {n:Nat} {a:Addr} {xs:List V} (e:H a=some (.tup xs)) (ne:a≠p) (h:∀ x∈xs,Th p H n x) (l:xs.length<=1000):Th p H (n+1) (.ref a)
 | dct {n:Nat} {a:Addr} {kvs:List (Key×V)} (e:H a=some (.dK kvs)) (ne:a≠p):Th p H n (.ref a)
theorem Th.mono:∀{n:Nat} {v:V},Th p H n v->Th p H (n+1) v
 | _,_,.flat f l=>.flat f l
 | _,_,.lst e ne h l=>.lst e ne (λx a=>(h x a).mono) l
 | _,_,.tup e ne h l=>.tup e ne (λx a=>(h x a).mono) l
 | _,_,.dct e ne=>.dct e ne
theorem Th.keep(k:∀ b o,b≠p->H b=some o->H' b=some o):∀{n:Nat} {v:V},Th p H n v->Th p H' n v
 | _,_,.flat f l=>.flat f l
 | _,_,.lst e ne h l=>.lst (k _ _ ne e) ne (λx a=>(h x a).keep k) l
 | _,_,.tup e ne h l=>.tup (k _ _ ne e) ne (λx a=>(h x a).keep k) l
 | _,_,.dct e ne=>.dct (k _ _ ne e) ne
theorem Th.same(h:Th p H n v)(s:L2.Same H H'):Th p H' n v:=h.keep λb o _ e=>s b o e
def isB:V->Bool
 | .bl _=>true
 | _=>false
theorem Th.ty(h:Th p H n v):∃ t∈wqo,TyOf K H v (.type t)/\(qeG t "str"=true->∃ x,v=.str x/\x.length<=100000)/\(qeG t "str"=false->qb8 v=false) /\
  (qeG t "tuple"=true->∃ a xs,v=.ref a/\H a=some (.tup xs)/\xs.length<=1000/\∀ x∈xs,Th p H n x)/\(qeG t "tuple"=false->∀ a xs,v=.ref a->H a≠some (.tup xs))/\qeG t "bool"=isB v:=by
 have c:∀{P:Prop} {a b:String},qeG a b=false->qeG a b=true->P:=λh1 d=>by rw[h1] at d;cases d
 have g:∀{P:Prop} {a b:String},qeG a b=true->qeG a b=false->P:=λh1 d=>by rw[h1] at d;cases d
 cases h with
 | flat f l =>
  cases v with
  | non=>show⟨_,by simp,.non,c (by decide),λ_=>rfl,c (by decide),λ_ _ _ e=>by(cases e),rfl⟩
  | bl x=>show⟨_,by simp,.bl x,c (by decide),λ_=>rfl,c (by decide),λ_ _ _ e=>by(cases e),rfl⟩
  | int x=>show⟨_,by simp,.int x,c (by decide),λ_=>rfl,c (by decide),λ_ _ _ e=>by(cases e),rfl⟩
  | str x=>show⟨_,by simp,.str x,λ_=>⟨x,rfl,l x rfl⟩,g (by decide),c (by decide),λ_ _ _ e=>by(cases e),rfl⟩
  | _=>cases f
 | lst e ne h l=>show⟨_,by simp,.lst e,c (by decide),λ_=>rfl,c (by decide),λ_ _ _ z=>by(cases z;rw[e];intro y;cases y),rfl⟩
 | tup e ne h l=>show⟨_,by simp,.tup e,c (by decide),λ_=>rfl,λ_=>⟨_,_,rfl,e,l,λx i=>(h x i).mono⟩,g (by decide),rfl⟩
 | dct e ne=>show⟨_,by simp,.dK e,c (by decide),λ_=>rfl,c (by decide),λ_ _ _ z=>by(cases z;rw[e];intro y;cases y),rfl⟩
inductive spNameG(vs:List V)(H:Hp)(Q:VK)(E:XK):Prop|mk (p:Addr) (n:Nat) (v:V) (_:vs=[v]) (_:Th p H n v) (_:∀ H',L2.Same H H'->Q (.bl (qb8 v)) H')
theorem ok_nameG(F:Fun K "is_name" "is_name" zg f fd)(T:Txt K mg cc cw):wqqb 1 f fd wq1 spNameG:=by
 show F.ok uI λ_ _ _ _ H vs Q E G h=>?_
 .obtain⟨p,n,v,rfl,hv,q⟩:=h;show⟨_,(qc (qN (PW.pt (qaH (qS (qQ (qj (qay (K:=K) rfl) rfl T.b_isinstance Yz (qa (pv 0) (qa (jB (v:=.ty "str") rfl T.b_str boot_str rfl) qd))))) (qac (qS (qdS qfS qfS qf (qj (jv (K:=K) rfl) rfl T.b_len Yt (qa (pv 0) qd)) (qbu rfl T.g_LONGEST_NAME)))))) (qe (qr ju)) qw)
 (qe (qr (qj (qgF (K:=K) rfl rfl) rfl T.b_all boot_all (qa (jh (sc:=qg zg) (XN:=wq1) ["sign"] 1 [] rfl rfl rfl (by room) rfl (by room)
  (qK (K:=K) rfl (pv 0)) (λ_ _ _ _=>(qm (i:=0) (show(["sign"]:LS).Nodup by room) rfl (yF rfl))) qF
  (λ_ _ _ _=>jW)
  (λ_ _ _ _=>(qdR qfS qfS qI (pv 0) qI))) qd))))),?_⟩
  obtain⟨t,u,ty,s,B,_,_,_⟩:=hv.ty (K:=K);apply qbq (.inl ty) rfl (zf K t u "str" (by simp)) ?_;apply qL (λh=>?_) λh=>?_
  .ext;have z:=q H (Sr H);rw[B (by simpa using h)] at z;show z
  .obtain⟨x,rfl,C⟩:=s (by simpa using h);apply qgE (yi C (by decide)) ?_;ext;have e:=q;simp only[qb8,jD] at e
   have a:¬ (1<=x.length/\x.length<=6)->∀ H',L2.Same H H'->Q (.bl false) H':=λhc H' s=>by
    have z:=e H' s;rw[yD hc] at z;show z
   show qL (λh1=>?_) λh1=>?_
   .ext;show qL (λg=>?_) λg=>?_
    .ext;show a (λh=>?_) H (Sr H);simp only[YD,Y8] at g;lk
    .ext
     have m:1<=x.length/\x.length<=6:=by
      have D:=yk h1;simp only[YD,Y8,Classical.not_not] at g;lk
     rw[yH m] at e;show qd1 (λi y H'=>H'=H/\y=((x.cps.toList.take i).map sg).map V.bl) ⟨rfl,by simp⟩ (λi c y H' hc r=>?_) λy H' r=>?_
     .obtain⟨rfl,rfl⟩:=r;apply zX ?_;ext
      have hl:(List.map V.bl (List.map sg (List.take i x.cps.toList))).length<sizeLine:=by
       rw[ya,ya,yK];show qh (yi (kr _ _) (by simpa [Str.length] using(show x.length<=1000 by lk)))
      have d:∀ b,b=sg c->(List.map V.bl (List.map sg (List.take i x.cps.toList)))++[V.bl b]=List.map V.bl (List.map sg (List.take (i+1) x.cps.toList)):=by
       intro b hb;have A:x.cps.toList[i]?=some c:=by simpa using hc
       rw[hb,yO,A];simp
      show qL (λj=>?_) λj=>?_
      .ext;show⟨hl,rfl,d _ (by unfold sg;rw[yH j])⟩
      .show⟨hl,rfl,d _ (by unfold sg;rw[yD j])⟩
     .obtain⟨rfl,rfl⟩:=r;have u:x.cps.toList.take x.cps.size=x.cps.toList:=by rw[<- Xb,yT]
      rw[u];show⟨?_,λl hl=>?_⟩
      .rw [ya,ya];show yN (qh (by simpa [Str.length] using(show x.length<=1000 by lk)))
      .ext;show⟨l,x.cps.toList.map sg,rfl,SqL.of qb,?_⟩;have z:=e _ (qC (Sr H') (o:=.lst ((x.cps.toList.map sg).map V.bl)) hl);rw[kM];show z
   .ext;show a (λh=>h1 (yz (by lk))) H (Sr H)
def jf(ss:LS)(v:V):Bool:=if qb8 v=true then decide (zZ v∈ss) else false
inductive spPlaceG(vs:List V)(H:Hp)(Q:VK)(E:XK):Prop|mk (p:Addr) (n:Nat) (d:Addr) (ss:LS) (v:V) (_:vs=[.ref d,v]) (_:H d=some (.dK (qbv ss 0))) (_:Th p H n v) (_:∀ H',L2.Same H H'->Q (.bl (jf ss v)) H')
theorem ok_placeG(F:Fun K "is_place" "is_place" zI f fd)(j:wq9 1 "is_name" wq1 spNameG):wqqb 2 f fd wqg spPlaceG:=by
 show F.ok uA λ_ _ _ _ H vs Q E b h=>?_
 .obtain⟨p,n,d,ss,v,rfl,g,hv,q⟩:=h;have i:=za b;show⟨_,(qe (qr (qbi (qo j (hmR b) qy (qa (pv 1) qd)) (qbh (zM (qbp (K:=K) rfl i) (pv 1) (pv 0) (by with_unfolding_all rfl)))))),?_⟩;apply⟨p,n,v,rfl,hv,λH1 c=>?_⟩;ext;have a:=q H1 c;unfold jf at a;show qL (λhc=>?_) λhc=>?_
  .ext;rw[yH hc] at a;obtain⟨e,_,_⟩:=zm hc;generalize zZ v=x at a e;subst e;show .inr (.inl ⟨d,_,rfl,DGet.k (k:=Sum.inr x) (c d _ g),?_⟩);rw[qaB];show a
  .rw [yD hc] at a;show a
def qeH(ss:LS)(y z:V):Bool:=jf ss y&&jf ss z&&!decide (zZ y=zZ z)
def qdm(H:Hp)(ss:LS)(x:V):Option (Str×Str):=match x with
 | .ref a=>(match H a with
  | some (.tup [y,z])=>if qeH ss y z=true then some (zZ y,zZ z) else none
  | _=>none)
 | _=>none
theorem qes{y z:V}(e:H a=some (.tup [y,z])):qdm H ss (.ref a)=if qeH ss y z=true then some (zZ y,zZ z) else none:=by
 unfold qdm;dsimp only;rw[e]
theorem zU{x:V}(h:∀ a xs,x=.ref a->H a=some (.tup xs)->xs.length≠2):qdm H ss x=none:=by
 unfold qdm
 cases x with
 | ref a =>
  dsimp only;split
  .rename_i y z e;show absurd rfl (h a _ rfl e)
  .rfl
 | _=>rfl
theorem qdg{x:V}(h:Th p H n x)(k:∀ b o,b≠p->H b=some o->H' b=some o):qdm H' ss x=qdm H ss x:=by
 cases h with
 | flat f l=>cases x<;>first | rfl | cases f
 | lst e ne h l=>rw[zU (H:=H') (λa xs z y=>by(cases z;rw[k _ _ ne e] at y;cases y)),zU (H:=H) λa xs z y=>by(cases z;rw[e] at y;cases y)]
 | tup e ne h l=>unfold qdm;dsimp only;rw[k _ _ ne e,e]
 | dct e ne=>rw[zU (H:=H') (λa xs z y=>by(cases z;rw[k _ _ ne e] at y;cases y)),zU (H:=H) λa xs z y=>by(cases z;rw[e] at y;cases y)]
theorem tieV_same{x:V}(h:Th p H n x)(s:L2.Same H H'):qdm H' ss x=qdm H ss x:=qdg h λb o _ e=>s b o e
theorem zV(h:jf ss v=true):qb8 v=true/\zZ v∈ss:=by
 unfold jf at h;split at h
 .rename_i z;show⟨z,yk h⟩
 .cases h
inductive spTwoG(vs:List V)(H:Hp)(Q:VK)(E:XK):Prop|mk (p:Addr) (n:Nat) (d:Addr) (ss:LS) (v:V) (_:vs=[.ref d,v]) (_:H d=some (.dK (qbv ss 0))) (_:Th p H n v) (_:∀ H',L2.Same H H'->Q (.bl (qdm H ss v).isSome) H')
theorem ok_twoG(F:Fun K "are_two_places" "are_two_places" q8 f fd)(T:Txt K mg cc cw)(A:wq9 2 "is_place" wqg spPlaceG):wqqb 3 f fd wqg spTwoG:=by
 show F.ok KR λ_ _ _ _ H vs Q E x h=>?_
 .obtain⟨p,n,d,ss,v,rfl,D,hv,q⟩:=h;have g:=za x;show⟨_,(qc (qN (PW.pt (qaH (qS (qQ (qj (qay (K:=K) rfl) rfl T.b_isinstance Yz (qa (pv 1) (qa (jB (v:=.ty "tuple") rfl T.b_tuple XW rfl) qd))))) (qac (qq (qaf (K:=K) rfl g) (qj (jv (K:=K) rfl) rfl T.b_len Yt (qa (pv 1) qd)) qf (qB _))))) (qe (qr ju)) qw)
 (qc (qk (i:=2) KR.nd rfl (yF rfl) (qbi (qo A (hmR x) qy (qa (pv 0) (qa (qu (qv (K:=K) rfl g) (pv 1) qf (λ_ _=>rfl)) qd))) (qbh (qo A (hmR x) qy (qa (pv 0) (qa (qu (qv (K:=K) rfl g) (pv 1) qf (λ_ _=>rfl)) qd))))))
 (qe (qr (qbi (pv 2) (qbh (zM (qaf (K:=K) rfl g) (qu (qv (K:=K) rfl g) (pv 1) qf (λ_ _=>rfl)) (qu (qv (K:=K) rfl g) (pv 1) qf (λ_ _=>rfl)) (qB _)))))))),?_⟩
  obtain⟨t,M,ty,_,_,h1,J,_⟩:=hv.ty (K:=K);apply qbq (.inl ty) rfl (zf K t M "tuple" (by simp)) ?_;apply qL (λh=>?_) λh=>?_
  .ext;have z:=q H (Sr H);rw[zU (λa xs e y=>absurd y (J (by simpa using h) a xs e))] at z;show z
  .obtain⟨a,xs,rfl,b,_,u⟩:=h1 (by simpa using h);apply qgi b ?_;apply .inl ⟨rfl,rfl,?_⟩;apply qL (λh=>?_) λh=>?_
   .ext;have z:=q H (Sr H)
    rw[zU (λW U e y=>by
     cases e;rw[b] at y;cases y;intro I;rw[I] at h;simp[eqV] at h)] at z
    show z
   .have hl:xs.length=2:=by
     simp only[Xu,eqV,YD,Bool.not_eq_false'] at h;have h':((xs.length:Int)==2)=true:=by simpa using h
     have:=eq_of_beq h';lk
    match xs,hl,b,u with
    | [y,z],_,b,u =>
     have N:=u y (by simp);have O:=u z (by simp);rw[qes b] at q;apply .inl (qax b rfl ?_);apply⟨p,n,d,ss,y,rfl,D,N,λH1 c=>?_⟩;ext
     have l:∀ H2,L2.Same H H2->¬ (jf ss y=true/\jf ss z=true)->Q (.bl false) H2:=λH2 j L=>by
      have:=q H2 j;rw[yD (λe=>L (by unfold qeH at e;simp only[yL] at e;show⟨e.1.1,e.1.2⟩))] at this;show this
     show qL (λr=>?_) λr=>?_
     .ext;show .inl (qax (c _ _ b) rfl ?_);apply⟨p,n,d,ss,z,rfl,c _ _ D,O.same c,λH2 j=>?_⟩;apply qL (λs=>?_) λs=>?_
      .ext;show .inl (qax (j _ _ (c _ _ b)) rfl ?_);apply .inl (qax (j _ _ (c _ _ b)) rfl ?_);obtain⟨R,_⟩:=zV r;obtain⟨S,_⟩:=zV s;obtain⟨B,_,_⟩:=zm R;obtain⟨C,_,_⟩:=zm S;have m:=q H2 (c.trans j);unfold qeH at m;rw[r,s] at m;generalize zZ y=o at B m;generalize zZ z=sz at C m;subst B C;show .inl ⟨rfl,rfl,?_⟩
       have e:(if true=true then !eqV (V.str o) (V.str sz) else eqV (V.str o) (V.str sz))=(if (true&&true&&!decide (o=sz))=true then some (o,sz) else none).isSome:=by
        by_cases G:o=sz
        .subst G;simp[eqV]
        .simp [eqV,G]
       rw[e];show m
      .show l H2 (c.trans j) λe=>s e.2
     .ext;show yq ?_;show l H1 c λe=>r e.1
theorem qdh{x:V}{t:Str×Str}(h:qdm H ss x=some t):∃ a,x=.ref a/\H a=some (.tup [.str t.1,.str t.2])/\jD t.1=true/\jD t.2=true/\t.1.length<=6/\t.2.length<=6/\t.1∈ss/\t.2∈ss/\t.1≠t.2:=by
 unfold qdm at h;split at h
 .rename_i a
  split at h
  .rename_i y z e
   split at h
   .rename_i hp
    cases h;unfold qeH at hp;simp only[yL] at hp;obtain⟨⟨h1,g⟩,i⟩:=hp;obtain⟨l,m1⟩:=zV h1;obtain⟨m,j⟩:=zV g;obtain⟨b,d,l1⟩:=zm l;obtain⟨c,f,l2⟩:=zm m;show⟨a,rfl,?_,d,f,l1,l2,m1,j,?_⟩
    .show H a=some (.tup [.str (zZ y),.str (zZ z)]);rw[<- b,<- c];show e
    .simpa using i
   .cases h
  .cases h
 .cases h
def qbm(H:Hp)(ss:LS)(tps:LP)(x:V):Option (Str×Str):=match qdm H ss x with
 | some ab=>if ab∈tps\/(ab.2,ab.1)∈tps then some ab else none
 | none=>none
theorem tieT_same{x:V}(h:Th p H n x)(s:L2.Same H H'):qbm H' ss tps x=qbm H ss tps x:=by unfold qbm;rw[tieV_same h s]
theorem tieT_some{x:V}(h:qbm H ss tps x=some ab):qdm H ss x=some ab/\(ab∈tps\/(ab.2,ab.1)∈tps):=by
 unfold qbm at h
 cases e:qdm H ss x with
 | none=>rw[e] at h;cases h
 | some q =>
  rw[e] at h;dsimp only at h;split at h
  .cases h;show⟨rfl,by assumption⟩
  .cases h
def apL(H:Hp)(ss:LS)(tps:LP):LS->List V->Bool
 | _,[]=>true
 | seen,x::r=>match qbm H ss tps x with
  | none=>false
  | some ab=>if ab.1∈seen\/ab.2∈seen then false else apL H ss tps (seen++[ab.1,ab.2]) r
def apV(H:Hp)(ss:LS)(tps:LP)(v:V):Bool:=match v with
 | .ref a=>(match H a with
  | some (.lst xs)=>apL H ss tps [] xs
  | _=>false)
 | _=>false
theorem qbg(e:H a=some (.lst xs)):apV H ss tps (.ref a)=apL H ss tps [] xs:=by
 unfold apV;dsimp only;rw[e]
theorem qaz(h:∀ a xs,v=.ref a->H a≠some (.lst xs)):apV H ss tps v=false:=by
 unfold apV;split
 .split
  .rename_i a _ xs e;show absurd e (h a xs rfl)
  .rfl
 .rfl
theorem tieT_keep{x:V}(h:Th p H n x)(k:∀ b o,b≠p->H b=some o->H' b=some o):qbm H' ss tps x=qbm H ss tps x:=by unfold qbm;rw[qdg h k]
theorem qet(k:∀ b o,b≠p->H b=some o->H' b=some o):∀{xs:List V} {seen:LS},(∀ y∈xs,∃ n,Th p H n y)->apL H' ss tps seen xs=apL H ss tps seen xs
 | [],_,_=>rfl
 | x::r,seen,h=>by
  show(match qbm H' ss tps x with | none=>false | some ab=>if ab.1∈seen\/ab.2∈seen then false else apL H' ss tps (seen++[ab.1,ab.2]) r)=(match qbm H ss tps x with | none=>false | some ab=>if ab.1∈seen\/ab.2∈seen then false else apL H ss tps (seen++[ab.1,ab.2]) r);rw[tieT_keep (h x yM).choose_spec k]
  cases qbm H ss tps x with
  | none=>rfl
  | some ab=>dsimp only;rw[qet k λy a=>h y (yy _ a)]
theorem qeu(h:Th p H n v)(k:∀ b o,b≠p->H b=some o->H' b=some o):apV H' ss tps v=apV H ss tps v:=by
 cases h with
 | flat f l =>
  have g:∀{G:Hp} (a:Addr) (xs:List V),v=.ref a->G a≠some (.lst xs):=λa xs e=>by rw[e] at f;cases f
  rw[qaz g,qaz g]
 | lst e ne h l=>rw[qbg e,qbg (k _ _ ne e),qet k λy i=>⟨_,h y i⟩]
 | tup e ne h l=>rw[qaz (λa xs d c=>by cases d;rw[k _ _ ne e] at c;cases c),qaz (λa xs d c=>by cases d;rw[e] at c;cases c)]
 | dct e ne=>rw[qaz (λa xs d c=>by cases d;rw[k _ _ ne e] at c;cases c),qaz (λa xs d c=>by cases d;rw[e] at c;cases c)]
theorem apV_same(h:Th p H n v)(s:L2.Same H H'):apV H' ss tps v=apV H ss tps v:=qeu h λb o _ e=>s b o e
inductive spHtG(cw:Addr)(vs:List V)(H:Hp)(Q:VK)(E:XK):Prop|mk (p x:Addr) (k:Nat) (ss:LS) (ns:LN) (tps:LP) (v:V) (_:vs=[.ref x,v]) (_:WebAt cw H x ss ns) (_:Adj ss ns tps) (_:Th p H (k+1) v) (_:∀ H',L2.Same H H'->Q (.bl (qbm H ss tps v).isSome) H')
inductive spApG(cw:Addr)(vs:List V)(H:Hp)(Q:VK)(E:XK):Prop|mk (p x:Addr) (ss:LS) (ns:LN) (tps:LP) (v:V) (_:vs=[.ref x,v]) (_:WebAt cw H x ss ns) (_:Adj ss ns tps) (_:Th p H 3 v) (_:∀ H',L2.Same H H'->Q (.bl (apV H ss tps v)) H')
theorem ok_htG(F:Fun K "has_tie" "Web.has_tie" jP f fd)(T:Txt K mg cc cw)(y:wq9 3 "are_two_places" wqg spTwoG)(L:wqqa 6 cw "tied" wqX (spTied cw)):wqqb 7 f fd wqr (spHtG cw):=by
 show F.ok uq λ_ _ _ _ H vs Q E g h=>?_
 .obtain⟨p,x,k,ss,ns,tps,v,rfl,s,B,hv,q⟩:=h;have t:=za g;obtain⟨u,n,ol,O,hb,d,G,D,hw⟩:=id s;show⟨_,(qe (qr (qbi (qo y (hmR g) qy (qa (jH (K:=K) rfl (pv 0) rfl) (qa (pv 1) qd))) (qbh (qX L (hmR g) (pv 0) (qa (qu (qv (K:=K) rfl t) (pv 1) qf (λ_ _=>rfl)) (qa (qu (qv (K:=K) rfl t) (pv 1) qf (λ_ _=>rfl)) qd))))))),?_⟩;apply .inl ⟨x,cw,u,_,.ref n,rfl,hb,T.wcl,T.wn,jr,?_⟩;apply⟨p,k+1,n,ss,v,rfl,d,hv,λH1 c=>?_⟩
  cases i:qdm H ss v with
  | none =>
   have e:(qbm H ss tps v).isSome=false:=by unfold qbm;rw[i];rfl
   have:=q H1 c;rw[e] at this;show⟨false,rfl,qL (λh=>by cases h) λ_=>?_⟩;show this
  | some ab =>
   obtain⟨a,rfl,A,M,N,l1,l2,m1,I,C⟩:=qdh i;show⟨true,rfl,zX ?_⟩;have b:=c _ _ A;apply⟨x,u,_,rfl,c _ _ hb,qaa (by room),?_⟩;apply .inl (qax b (v:=.str ab.1) (qt (j:=0) rfl) ?_);apply .inl (qax b (v:=.str ab.2) (qt (j:=1) rfl) ?_);ext;obtain⟨m,r⟩:=yf m1;obtain⟨l,o⟩:=yf I;show⟨x,ss,ns,ab.1,ab.2,m,l,rfl,s.same c,r,o,λH2 J=>?_⟩
   have e:(qbm H ss tps (.ref a)).isSome=(ns.getD m 0).testBit l:=by
    unfold qbm;rw[i];dsimp only;rw[Yu,B m l ab.1 ab.2 r o];split
    .rename_i h;show⟨λ_=>h,λ_=>rfl⟩
    .rename_i h;show⟨(λz=>by cases z),λz=>absurd z h⟩
   rw[<- e];show q H2 (c.trans J)
theorem ok_apG(F:Fun K "are_pairs" "are_pairs" zi f fd)(T:Txt K mg cc cw)(ue:wqqa 7 cw "has_tie" wqr (spHtG cw)):wqqb 8 f fd wql (spApG cw):=by
 show F.ok KS λ_ _ _ _ H vs Q E hr h=>?_
 .obtain⟨p,x,ss,ns,tps,v,rfl,hW,hA,hv,q⟩:=h;have B:=za hr;obtain⟨wx,dd,ol,nn,hb,ah,aj,ai,hw⟩:=id hW;show⟨_,(qc (qN (qS (qQ (qj (qay (K:=K) rfl) rfl T.b_isinstance Yz (qa (pv 1) (qa (jB (v:=.ty "list") rfl T.b_list XG rfl) qd))))) (qe (qr ju)) qw)
 (qc (qk (i:=2) KS.nd rfl (yF rfl) j8)
 (qc (qR yW rfl (qK (K:=K) rfl (pv 1)) (qm (i:=3) KS.nd rfl (yF rfl))
 (qc (qN (PW.pt (qaH (qS (qQ (qX ue (hmR hr) (pv 0) (qa (pv 3) qd)))) (qaH (qq (qbp (K:=K) rfl B) (qu (qv (K:=K) rfl B) (pv 3) qf (λ_ _=>rfl)) (pv 2) (by with_unfolding_all rfl)) (qac (qq (qbp (K:=K) rfl B) (qu (qv (K:=K) rfl B) (pv 3) qf (λ_ _=>rfl)) (pv 2) (by with_unfolding_all rfl)))))) (qe (qr ju)) qw)
 (qc (jK ju (jJ (pv 2) (qu (qv (K:=K) rfl B) (pv 3) qf (λ_ _=>rfl)) (jN B)))
 (qe (jK ju (jJ (pv 2) (qu (qv (K:=K) rfl B) (pv 3) qf (λ_ _=>rfl)) (jN B)))))))
 (qe (qr ju))))),?_⟩
  ext;by_cases n:∃ a xs,v=.ref a/\H a=some (.lst xs)
  .obtain⟨a,xs,rfl,C⟩:=n
   obtain⟨ag,af,ak⟩:a≠p/\(∀ y∈xs,Th p H 2 y)/\xs.length<=1000:=by
    cases hv with
    | lst e ne h l=>rw[C] at e;cases e;show⟨ne,h,l⟩
    | tup e ne h l=>rw[C] at e;cases e
    | dct e ne=>rw[C] at e;cases e
    | flat f l=>cases f
   rw[qbg C] at q;show qbq (.inl (.lst C)) rfl (zf K "list" (by simp) "list" (by simp)) ?_;apply yq ?_;ext;intro d M;have s1:=qC (Sr H) (o:=.dK []) M;have ed:upd H d (.dK []) d=some (.dK (qba [])):=qb;generalize upd H d (.dK [])=H1 at s1 ed;apply .inl ⟨⟨_,.of (s1 _ _ C)⟩,qO (xs:=xs) (λi X J=>L2.Same H J/\∃ y3 seen,X=[some (.ref x),some (.ref a),some (.ref d),y3]/\J d=some (.dK (qba seen))/\seen.length=2*i/\apL H ss tps [] xs=apL H ss tps seen (xs.drop i)) ⟨s1,_,[],rfl,ed,rfl,rfl⟩ (λi X J _ S=>.of (S.1 _ _ C)) (λi y X J hy S=>?_) λX J S=>?_⟩
   .obtain⟨G,y3,seen,rfl,A,ae,g⟩:=S;have ac:i<xs.length:=(yc.mp hy).1
    have aa:xs.drop i=y::xs.drop (i+1):=by
     rw[List.drop_eq_getElem_cons ac];have:=(yc.mp hy).2;rw[this]
    rw[aa] at g;have W:=af y (ye hy)
    have s:∀ m,L2.Same H m->apL H ss tps [] xs=false->Q (.bl false) m:=λm I e=>by
     have:=q m I
     rwa[e] at this
    apply⟨x,wx,_,rfl,G _ _ hb,qaa (by room),?_⟩;apply⟨p,x,1,ss,ns,tps,y,rfl,hW.same G,hA,W.same G,λm I=>?_⟩;rw[tieT_same W G];have r:=G.trans I
    cases U:qbm H ss tps y with
    | none =>
     apply zX ?_;apply s m r ?_;rw[g];show(match qbm H ss tps y with | none=>false | some ab=>_)=_;rw[U]
    | some ab =>
     obtain⟨t1,t2⟩:=tieT_some U;obtain⟨b,rfl,Y,n1,n2,l1,l2,m1,m2,ad⟩:=qdh t1;have u:=r _ _ Y
     have c:apL H ss tps [] xs=if ab.1∈seen\/ab.2∈seen then false else apL H ss tps (seen++[ab.1,ab.2]) (xs.drop (i+1)):=by
      rw[g];show(match qbm H ss tps (.ref b) with | none=>false | some ab=>_)=_;rw[U]
     apply yq ?_;apply .inl (qax u (v:=.str ab.1) (qt (j:=0) rfl) ?_);apply .inr (.inl ⟨d,_,rfl,DGet.k (k:=Sum.inr ab.1) (I _ _ A),?_⟩);rw[yD (by decide),zj];apply qL (λD=>?_) λD=>?_
     .ext;show zX ?_;apply s m r (by rw[c,yH (.inl (yk D))])
     .have N:ab.1∉seen:=λe=>D (yz e);apply .inl (qax u (v:=.str ab.2) (qt (j:=1) rfl) ?_);apply .inr (.inl ⟨d,_,rfl,DGet.k (k:=Sum.inr ab.2) (I _ _ A),?_⟩);rw[yD (by decide),zj];apply qL (λD=>?_) λD=>?_
      .ext;show s m r (by rw[c,yH (.inr (yk D))])
      .have O:ab.2∉seen:=λe=>D (yz e);rw[yD (λh=>h.elim N O)] at c;apply .inl (qax u (v:=.str ab.1) (qt (j:=0) rfl) ?_);apply .inr ⟨d,_,rfl,DPut.k (k:=Sum.inr ab.1) (I _ _ A) (by unfold qba;rw[ya,xt];lk),?_⟩;rw[qaY N];have s3:=qdy r (o:=.dK (qba (seen++[ab.1]))) M;have e3:upd m d (.dK (qba (seen++[ab.1]))) d=some (.dK (qba (seen++[ab.1]))):=qb;have Z:b≠d:=λz=>by rw[z] at Y;rw[Y] at M;cases M
       have L:upd m d (.dK (qba (seen++[ab.1]))) b=some (.tup [.str ab.1,.str ab.2]):=by rw[qi Z];show u
       generalize upd m d (.dK (qba (seen++[ab.1])))=J3 at s3 e3 L;apply .inl (qax L (v:=.str ab.2) (qt (j:=1) rfl) ?_);apply .inr ⟨d,_,rfl,DPut.k (k:=Sum.inr ab.2) e3 (by unfold qba;rw[ya,yu,xt];simp only[yx,Yv];lk),?_⟩;rw[qaY (λz=>by rcases yG.mp z with z | z;show O z;show ad (yC.mp z).symm)];show⟨qdy s3 M,_,seen++[ab.1]++[ab.2],rfl,qb,by simp only[yu,yx,Yv];lk,by rw[c,Xv];rfl⟩
   .obtain⟨G,y3,seen,rfl,A,ae,g⟩:=S;rw[Ki] at g;ext;have:=q J G
    rwa[g] at this
  .have R:∀(a:Addr) (xs:List V),v=.ref a->H a≠some (.lst xs):=λa xs e e'=>n ⟨a,xs,e,e'⟩;rw[qaz R] at q
   obtain⟨t,U,he,ty⟩:∃ t:String,t∈wqo/\qeG t "list"=false/\TyOf K H v (.type t):=by
    cases hv with
    | flat f l =>
     cases v with
     | non=>show⟨_,by simp,rfl,.non⟩
     | bl b=>show⟨"bool",by simp,rfl,.bl b⟩
     | int i=>show⟨"int",by simp,rfl,.int i⟩
     | str z=>show⟨"str",by simp,rfl,.str z⟩
     | _=>cases f
    | lst e ne h l=>show absurd e (R _ _ rfl)
    | tup e ne h l=>show⟨"tuple",by simp,rfl,.tup e⟩
    | dct e ne=>show⟨"dict",by simp,rfl,.dK e⟩
   show qbq (.inl ty) rfl (zf K t U "list" (by simp)) ?_;rw[he];apply zX ?_;apply q H (Sr H)
def BdA(p cw:Addr)(H:Hp)(x:Addr)(ss:LS)(ns:LN)(tps:LP)(v:V):Prop:=WebAt cw H x ss ns/\Adj ss ns tps/\Th p H 3 v/\apV H ss tps v=false
inductive spPnB(cc:Nat->Addr)(cw:Addr)(vs:List V)(H:Hp)(u2_:VK)(E:XK):Prop|mk (p x:Addr) (ss:LS) (ns:LN) (tps:LP) (v:V) (_:vs=[.ref x,v]) (_:BdA p cw H x ss ns tps v) (_:Rz cc H E (0,v))
inductive spFiB(cc:Nat->Addr)(cw:Addr)(vs:List V)(H:Hp)(u2_:VK)(E:XK):Prop|mk (G:Hp) (p y dx x:Addr) (ss:LS) (ns:LN) (tps:LP) (v:V) (_:vs=[.ref y,.ref x,v]) (_:H y=some (.ins (cc 9) dx [])) (_:G y=none) (_:L2.Same G H) (_:BdA p cw G x ss ns tps v) (_:Rz cc G E (0,v))
theorem BdA.same(h:BdA p cw H x ss ns tps v)(s:L2.Same H H'):BdA p cw H' x ss ns tps v:=⟨h.1.same s,h.2.1,h.2.2.1.same s,(apV_same h.2.2.1 s).trans h.2.2.2⟩
theorem ok_pnB(F:Fun K "partners_in" "partners_in" jQ f fd)(T:Txt K mg cc cw)(e:XMakeOk P w K mg base 2 (cc 0) "NoPairs" wqv (spX (cc 0) (qfI 0)))(d:wq9 8 "are_pairs" wql (spApG cw)):FnOk P w K mg base (CX1 P w) 9 f fd wqG (spPnB cc cw):=by
 show F.ok1 KJ (λvs H Q E h=>?_) λ_ _ _ _ H vs Q E c h=>?_
 .cases h;subst_vars;rfl
 .obtain⟨p,x,ss,ns,tps,v,rfl,⟨l,g,hv,b⟩,j⟩:=h;have a:=za c;show⟨_,(qc (qN (qS (qQ (qo d (hmR c) qy (qa (pv 0) (qa (pv 1) qd))))) (qe (qe0 (K:=K) rfl qbV (qgI e (hmR c) (qa (pv 1) qd)))) qw)
 (qc (qk (i:=2) KJ.nd rfl (yF rfl) j8)
 (qc (qR PassesOwn.leaving rfl (qK (K:=K) rfl (pv 1)) (qm (i:=3) KJ.nd rfl (yF rfl))
 (qc (jK (qu (qv (K:=K) rfl a) (pv 3) qf (λ_ _=>rfl)) (jJ (pv 2) (qu (qv (K:=K) rfl a) (pv 3) qf (λ_ _=>rfl)) (jN a)))
 (qe (jK (qu (qv (K:=K) rfl a) (pv 3) qf (λ_ _=>rfl)) (jJ (pv 2) (qu (qv (K:=K) rfl a) (pv 3) qf (λ_ _=>rfl)) (jN a))))))
 (qe (qr (pv 2)))))),?_⟩
  apply⟨p,x,ss,ns,tps,v,rfl,l,g,hv,λH1 m=>?_⟩;rw[b];apply zX ?_;apply qci (T.xat 0 (by decide)) (j.later m)
def qdi(p:Addr)(H:Hp):Hp:=λb=>if b=p then none else H b
theorem zE{b:Addr}(h:b≠p):qdi p H b=H b:=yD h
theorem zB(p:Addr)(H:Hp):L2.Same (qdi p H) H:=λb o e=>by
 unfold qdi at e;split at e
 .cases e
 .show e
theorem qev(b:But p H H'):L2.Same (qdi p H) (qdi p H'):=λc o e=>by
 by_cases h:c=p
 .unfold qdi at e;rw[yH h] at e;cases e
 .rw [zE h] at e ⊢;show b c o h e
def Sn(p:Addr)(H:Hp)(v:V)(n m:Nat):Prop:=∃ d,Dat (qdi p H) v d/\Shw d n m
theorem Sn.but(h:Sn p H v n m)(b:But p H H'):Sn p H' v n m:=h.elim λd h=>⟨d,h.1.same (qev b),h.2⟩
theorem name_small{x:Str}(h:jD x=true):∀ c∈x.cps.toList,c<16 ^ 8:=by
 intro c hc;unfold jD at h;split at h
 .have a:=Yr.mp h c hc;by_cases b:c<16 ^ 8
  .show b
  .exfalso;unfold sg at a;split at a
   .have d:("z":Str).cps.toList=[122]:=rfl;rw[d] at a;have:([122]:LN) < [c]:=List.Lex.rel (by lk);simp[this] at a
   .cases a
 .cases h
theorem qcF:∀{xs:List V},(∀ y∈xs,Sn p J y n m)->∃ a,DatS (qdi p J) xs a/\ShwS a ((n+1)*xs.length) m
 | [],_=>⟨[],.nil,ShwS.nil⟩
 | x::xs,h=>by
  obtain⟨d,b,c⟩:=h x yM;obtain⟨a,e,f⟩:=qcF λy g=>h y (yy _ g);show⟨d::a,.cons b e,(ShwS.cons c f).mono ?_ (yh _)⟩;rw[yx,Nat.mul_succ];lk
theorem Sn.lst(e:J a=some (.lst xs))(b:a≠p)(h:∀ y∈xs,Sn p J y n m):Sn p J (.ref a) ((n+1)*xs.length) (m+1):=by
 obtain⟨f,c,d⟩:=qcF h;show⟨_,.lst (by rw[zE b];show e) c,d.list⟩
theorem Sn.tup(e:J a=some (.tup xs))(b:a≠p)(h:∀ y∈xs,Sn p J y n m):Sn p J (.ref a) ((n+1)*xs.length) (m+1):=by
 obtain⟨f,c,d⟩:=qcF h;show⟨_,.tup (by rw[zE b];show e) c,d.tuple⟩
theorem Sn.mono(h:Sn p J v n m)(b:n<=n')(a:m<=m'):Sn p J v n' m':=h.elim λd h=>⟨d,h.1,h.2.mono b a⟩
def Ok(p:Addr)(J:Hp)(k n m:Nat)(v:V):Prop:=Th p J k v/\Sn p J v n m
theorem Ok.but{k:Nat}(h:Ok p J k n m v)(b:But p J J'):Ok p J' k n m v:=⟨h.1.keep b,h.2.but b⟩
theorem Ok.mono{k:Nat}(h:Ok p J k n m v)(b:n<=n')(a:m<=m'):Ok p J k n' m' v:=⟨h.1,h.2.mono b a⟩
theorem Ok.deep{k:Nat}(h:Ok p J k n m v):Ok p J (k+1) n m v:=⟨h.1.mono,h.2⟩
theorem Ok.name{k:Nat}(h:jD s=true):Ok p J k 6 m (.str s):=by
 have:=nameS_len h;show⟨.flat rfl (λu e=>by cases e;lk),_,.str _,(Shw.str (name_small h)).mono this (yh _)⟩
theorem Ok.non{k:Nat}:Ok p J k n m .non:=⟨.flat rfl (λu e=>by cases e),_,.non,Shw.non.mono (Yx _) (yh _)⟩
theorem Ok.int{k:Nat}{i:Int}(h1:-999999999999<=i)(a:i<=999999999999):Ok p J k n m (.int i):=⟨.flat rfl (λu e=>by cases e),_,.int _,(Shw.int h1 a).mono (Yx _) (yh _)⟩
theorem Ok.str{k:Nat}(h:∀ c∈s.cps.toList,c<16 ^ 8)(hl:s.length<=n)(a:s.length<=1000):Ok p J k n m (.str s):=⟨.flat rfl (λu e=>by cases e;lk),_,.str _,(Shw.str h).mono hl (yh _)⟩
theorem Ok.lst{k:Nat}(d:J a=some (.lst xs))(b:a≠p)(hl:xs.length<=1000)(h:∀ y∈xs,Ok p J k n m y):Ok p J (k+1) ((n+1)*xs.length) (m+1) (.ref a):=⟨.lst d b (λy c=>(h y c).1) hl,.lst d b λy c=>(h y c).2⟩
theorem Ok.tup{k:Nat}(d:J a=some (.tup xs))(b:a≠p)(hl:xs.length<=1000)(h:∀ y∈xs,Ok p J k n m y):Ok p J (k+1) ((n+1)*xs.length) (m+1) (.ref a):=⟨.tup d b (λy c=>(h y c).1) hl,.tup d b λy c=>(h y c).2⟩
theorem Ok.dnil{k:Nat}(c:J a=some (.dK []))(b:a≠p):Ok p J k n (m+1) (.ref a):=⟨.dct c b,_,.dnil (by rw[zE b];show c),(Shw.dnil (m:=m)).mono (Yx _) (yh _)⟩
theorem qf9{P:V->Prop}{a:V}(h1:P a):∀ y∈[a],P y:=λy b=>by rw[yC.mp b];show h1
theorem qhy{P:V->Prop}{a b:V}(h1:P a)(c:P b):∀ y∈[a,b],P y:=λy d=>by rcases yv.mp d with rfl | h;show h1;show qf9 c y h
theorem KY:FnScope ["web","thing","seen","place"] wql (qg qZ):=fS
def unl(ss:LS):LS->List V->Bool
 | _,[]=>true
 | seen,x::r=>if jf ss x=true then(if zZ x∈seen then false else unl ss (seen++[zZ x]) r) else false
def ulV(H:Hp)(ss:LS)(v:V):Bool:=match v with
 | .ref a=>(match H a with
  | some (.lst xs)=>unl ss [] xs
  | _=>false)
 | _=>false
theorem qaG(e:H a=some (.lst xs)):ulV H ss (.ref a)=unl ss [] xs:=by
 unfold ulV;dsimp only;rw[e]
theorem qa8(h:∀ a xs,v=.ref a->H a≠some (.lst xs)):ulV H ss v=false:=by
 unfold ulV;split
 .split
  .rename_i a _ xs e;show absurd e (h a xs rfl)
  .rfl
 .rfl
theorem qcG(h:Th p H n v)(k:∀ b o,b≠p->H b=some o->H' b=some o):ulV H' ss v=ulV H ss v:=by
 cases h with
 | flat f l=>rw[qa8 (λa xs e=>by rw[e] at f;cases f),qa8 (λa xs e=>by rw[e] at f;cases f)]
 | lst e ne h l=>rw[qaG e,qaG (k _ _ ne e)]
 | tup e ne h l=>rw[qa8 (λa xs d c=>by cases d;rw[k _ _ ne e] at c;cases c),qa8 (λa xs d c=>by cases d;rw[e] at c;cases c)]
 | dct e ne=>rw[qa8 (λa xs d c=>by cases d;rw[k _ _ ne e] at c;cases c),qa8 (λa xs d c=>by cases d;rw[e] at c;cases c)]
theorem qdj(nm:∀ s∈ss,jD s=true):∀{bar seen:LS},bar.Nodup->(∀ s∈bar,s∈ss/\s∉seen)->unl ss seen (bar.map V.str)=true
 | [],_,_,_=>rfl
 | x::r,seen,hn,h=>by
  obtain⟨h1,b⟩:=yo.mp hn;obtain⟨m1,c⟩:=h x yM
  have pl:jf ss (.str x)=true:=by
   unfold jf;rw[yH (show qb8 (.str x)=true from nm x m1)];show yz m1
  show(if jf ss (.str x)=true then(if x∈seen then false else unl ss (seen++[x]) (r.map V.str)) else false)=true;rw[yH pl,yD c];show qdj nm b λs a=>⟨(h s (yy _ a)).1,λz=>?_⟩;rcases yG.mp z with z | z
  .show(h s (yy _ a)).2 z
  .rw [yC.mp z] at a;show h1 a
theorem qdL{y:V}(h:jf ss y=false):∀{xs:List V} {seen:LS},y∈xs->unl ss seen xs=false
 | x::r,seen,hy=>by
  show(if jf ss x=true then(if zZ x∈seen then false else unl ss (seen++[zZ x]) r) else false)=false;split
  .split
   .rfl
   .rcases yv.mp hy with rfl | hy
    .rename_i z _;rw[h] at z;cases z
    .show qdL h hy
  .rfl
inductive spUlG(cw:Addr)(vs:List V)(H:Hp)(Q:VK)(E:XK):Prop|mk (p x:Addr) (ss:LS) (ns:LN) (v:V) (_:vs=[.ref x,v]) (_:WebAt cw H x ss ns) (_:Th p H 3 v) (_:∀ H',L2.Same H H'->Q (.bl (ulV H ss v)) H')
inductive spHasT(cw:Addr)(vs:List V)(H:Hp)(Q:VK)(E:XK):Prop|mk (p:Addr) (k:Nat) (x:Addr) (ss:LS) (ns:LN) (v:V) (_:vs=[.ref x,v]) (_:WebAt cw H x ss ns) (_:Th p H k v) (_:∀ H',L2.Same H H'->Q (.bl (jf ss v)) H')
theorem ok_hasT(F:Fun K "has_place" "Web.has_place" ji f fd)(T:Txt K mg cc cw)(a:wq9 2 "is_place" wqg spPlaceG):wqqb 3 f fd wqr (spHasT cw):=by
 show F.ok uf λ_ _ _ _ H vs Q E c h=>?_
 .obtain⟨p,k,x,ss,ns,v,rfl,⟨dx,d,ol,n,e,b,i,g,hw⟩,hv,q⟩:=h;show⟨_,(qe (qr (qo a (hmR c) qy (qa (jH (K:=K) rfl (pv 0) rfl) (qa (pv 1) qd))))),?_⟩;apply .inl ⟨x,cw,dx,_,.ref d,rfl,e,T.wcl,T.wn,jr,?_⟩;apply⟨p,k,d,ss,v,rfl,b,hv,q⟩
theorem ok_ulG(F:Fun K "are_unlike_places" "are_unlike_places" qZ f fd)(T:Txt K mg cc cw)(K6:wqqa 3 cw "has_place" wqr (spHasT cw)):wqqb 4 f fd wql (spUlG cw):=by
 show F.ok KY λ_ _ _ _ H vs Q E hr h=>?_
 .obtain⟨p,x,ss,ns,v,rfl,hW,hv,q0⟩:=h;have hu:=za hr;show⟨_,(qc (qN (qS (qQ (qj (qay (K:=K) rfl) rfl T.b_isinstance Yz (qa (pv 1) (qa (jB (v:=.ty "list") rfl T.b_list XG rfl) qd))))) (qe (qr ju)) qw)
 (qc (qk (i:=2) KY.nd rfl (yF rfl) j8)
 (qc (qR yW rfl (qK (K:=K) rfl (pv 1)) (qm (i:=3) KY.nd rfl (yF rfl))
 (qc (qN (PW.pt (qaH (qS (qQ (qX K6 (hmR hr) (pv 0) (qa (pv 3) qd)))) (qac (qq (qbp (K:=K) rfl hu) (pv 3) (pv 2) (by with_unfolding_all rfl))))) (qe (qr ju)) qw)
 (qe (jK ju (jJ (pv 2) (pv 3) (jN hu))))))
 (qe (qr ju))))),?_⟩
  ext;by_cases g:∃ a xs,v=.ref a/\H a=some (.lst xs)
  .obtain⟨a,xs,rfl,r⟩:=g
   obtain⟨S,aa⟩:(∀ y∈xs,Th p H 2 y)/\xs.length<=1000:=by
    cases hv with
    | lst e ne h l=>rw[r] at e;cases e;show⟨h,l⟩
    | tup e ne h l=>rw[r] at e;cases e
    | dct e ne=>rw[r] at e;cases e
    | flat f l=>cases f
   have q:∀ H',L2.Same H H'->Q (.bl (unl ss [] xs)) H':=by rw[<- qaG r];show q0
   show qbq (.inl (.lst r)) rfl (zf K "list" (by simp) "list" (by simp)) ?_;apply yq ?_;ext;intro d hd;have U:=qC (Sr H) (o:=.dK []) hd;have Z:upd H d (.dK []) d=some (.dK (qba [])):=qb;generalize upd H d (.dK [])=H1 at U Z;obtain⟨wx,dd,ol,nn,hb,_⟩:=id hW;apply .inl ⟨⟨_,.of (U _ _ r)⟩,qO (xs:=xs) (λi G J=>L2.Same H J/\∃ X,G=[some (.ref x),some (.ref a),some (.ref d),X]/\J d=some (.dK (qba ((xs.take i).map zZ)))/\unl ss [] xs=unl ss ((xs.take i).map zZ) (xs.drop i)) ⟨U,_,rfl,Z,rfl⟩ (λi G J _ C=>.of (C.1 _ _ r)) (λi y G J D C=>?_) λG J C=>?_⟩
   .obtain⟨u,X,rfl,n,c⟩:=C;have L:i<xs.length:=(yc.mp D).1
    have I:xs.drop i=y::xs.drop (i+1):=by
     rw[List.drop_eq_getElem_cons L];have:=(yc.mp D).2;rw[this]
    have O:xs.take (i+1)=xs.take i++[y]:=by rw[yO,D];rfl
    rw[I] at c;have R:=(S y (ye D)).same u;apply⟨x,wx,_,rfl,u _ _ hb,qaa (by room),?_⟩;apply⟨p,2,x,ss,ns,y,rfl,hW.same u,R,λY W=>?_⟩;ext;have s:=u.trans W
    cases j:jf ss y with
    | false =>
     show zX ?_;ext;rw[show unl ss ((xs.take i).map zZ) (y::xs.drop (i+1))=false by show(if jf ss y=true then _ else _)=_;rw[yD (by rw[j];decide)]] at c;have:=q Y s
     rwa[c] at this
    | true =>
     show yq ?_
     have N:qb8 y=true:=by
      unfold jf at j;split at j
      .assumption
      .cases j
     obtain⟨ey,_,_⟩:=zm N;rw[show unl ss ((xs.take i).map zZ) (y::xs.drop (i+1))=(if zZ y∈(xs.take i).map zZ then false else unl ss ((xs.take i).map zZ++[zZ y]) (xs.drop (i+1))) by show(if jf ss y=true then _ else _)=_;rw[yH j]] at c;have m:(xs.take (i+1)).map zZ=(xs.take i).map zZ++[zZ y]:=by rw[O,yt];rfl
     rw[<- m] at c;generalize hz:zZ y=z at c m ey;subst ey;apply .inr (.inl ⟨d,_,rfl,DGet.k (k:=Sum.inr z) (W _ _ n),?_⟩);rw[yD (by decide),zj];apply qL (λM=>?_) λM=>?_
     .ext;rw[yH (yk M)] at c;have:=q Y s
      rwa[c] at this
     .have A:z∉(xs.take i).map zZ:=λe=>M (yz e);rw[yD A] at c;apply .inr ⟨d,_,rfl,DPut.k (k:=Sum.inr z) (W _ _ n) (qh (by unfold qba;rw[ya,ya,yK];lk)),?_⟩;show⟨qdy s hd,_,rfl,?_,c⟩;rw[qb,qaY A,m]
   .obtain⟨u,X,rfl,n,c⟩:=C;rw[Ki] at c;ext;have:=q J u
    rwa[c] at this
  .have B:∀(a:Addr) (xs:List V),v=.ref a->H a≠some (.lst xs):=λa xs e e'=>g ⟨a,xs,e,e'⟩;have q:∀ H',L2.Same H H'->Q (.bl false) H':=by rw[<- qa8 (H:=H) (ss:=ss) B];show q0
   obtain⟨t,ht,he,ty⟩:∃ t:String,t∈wqo/\qeG t "list"=false/\TyOf K H v (.type t):=by
    cases hv with
    | flat f l =>
     cases v with
     | non=>show⟨_,by simp,rfl,.non⟩
     | bl b=>show⟨"bool",by simp,rfl,.bl b⟩
     | int i=>show⟨"int",by simp,rfl,.int i⟩
     | str z=>show⟨"str",by simp,rfl,.str z⟩
     | _=>cases f
    | lst e ne h l=>show absurd e (B _ _ rfl)
    | tup e ne h l=>show⟨"tuple",by simp,rfl,.tup e⟩
    | dct e ne=>show⟨"dict",by simp,rfl,.dK e⟩
   show qbq (.inl ty) rfl (zf K t ht "list" (by simp)) ?_;rw[he];apply zX ?_;apply q H (Sr H)
theorem uK:FnScope ["web","pairs","partners"] wqG (qg qak):=fS
theorem uD:FnScope wqq wqq (qg jR):=fS
theorem uU:FnScope wqq wqq (qg j3):=fS
theorem Ub:FnScope wqq wqq (qg qa9):=fS
theorem PGo.grt(c:∀ a b,tA tps a b->a≠b)(g:PGo ss tps qs):Gr (tA tps) (pt qs):=⟨λz=>Or.symm z,λz=>c _ _ z,λ{a b} e=>g.fn.sym a b e,λ{a b} e=>g.fn.tie a b e⟩
section
variable{ss:LS}{TI:List (Nat×Nat)}{bs gs:LN}
theorem BarJ.bnd(B:BarJ ss TI bs gs):(gs.map (tn ss)).Nodup:=YM.mpr (B.nd.imp_of_mem λ{x y} b c a e=>a (zJ B.ok.nd (B.lt x b) (B.lt y c) e))
theorem BarJ.inn(B:BarJ ss TI bs gs):∀ s∈gs.map (tn ss),s∈ss:=λs h=>by obtain⟨k,a,rfl⟩:=yB.mp h;show qa0 (B.lt k a)
theorem BarJ.few(B:BarJ ss TI bs gs):gs.length<=14:=by
 have:=qb7 B.bnd B.inn;rw[ya] at this;show yi this B.ok.few
end
theorem qcH(bs gs:LN)(n:Nat):(pcJ bs gs n).length<=n:=by
 unfold pcJ zT;rw[ya];show yi (yI _ _) (by rw[YE];show yh _)
def WBar(cw:Addr)(H:Hp)(x a:Addr)(ss:LS)(ns:LN)(TI:List (Nat×Nat))(bs gs:LN):Prop:=Wt cw H x ss ns (TI.map (nmP ss))/\BarJ ss TI bs gs/\H a=some (.lst ((gs.map (tn ss)).map V.str))
theorem WBar.same{TI:List (Nat×Nat)}{bs:LN}(h:WBar cw H x a ss ns TI bs gs)(s:L2.Same H H'):WBar cw H' x a ss ns TI bs gs:=⟨h.1.same s,h.2.1,s _ _ h.2.2⟩
theorem BarJ.th{bs:LN}{TI:List (Nat×Nat)}(B:BarJ ss TI bs gs)(W:Wt cw H x ss ns (TI.map (nmP ss)))(b:H a=some (.lst ((gs.map (tn ss)).map V.str))):Th x H 3 (.ref a):=by
 have:=B.few;show .lst b (λz=>?_) (λy d=>?_) (by rw[ya,ya];lk)
 .obtain⟨_,_,_,_,e,_⟩:=W.web;rw[<- z,b] at e;cases e
 .obtain⟨s,c,rfl⟩:=yB.mp d
  show .flat rfl λu e=>by
   cases e;have:=(zm (x:=.str s) (B.ok.nm s (B.inn s c))).2.2;show yi this (by decide)
theorem BarJ.ul{bs:LN}{TI:List (Nat×Nat)}(B:BarJ ss TI bs gs)(W:Wt cw H x ss ns (TI.map (nmP ss)))(b:H a=some (.lst ((gs.map (tn ss)).map V.str))):ulV H ss (.ref a)=true:=by
 rw[qaG b];show qdj B.ok.nm B.bnd λs c=>⟨B.inn s c,λz=>by cases z⟩
inductive spPb(cw:Addr)(vs:List V)(H:Hp)(Q:VK)(E:XK):Prop|mk (x a:Addr) (ss:LS) (ns:LN) (TI:List (Nat×Nat)) (bs gs:LN) (_:vs=[.ref x,.ref a]) (_:WBar cw H x a ss ns TI bs gs) (_:∀(l:Addr) (ls:LI) (H':Hp),L2.Same H H'->H l=none->H' l=some (.lst (ls.map V.ref))->All2 (λc ks=>H' c=some (.lst (ks.map V.str))/\H c=none) ls ((pcJ bs gs ss.length).map λc=>c.map (tn ss))->Q (.ref l) H')
inductive spOd(cw:Addr)(vs:List V)(H:Hp)(Q:VK)(E:XK):Prop|mk (x a:Addr) (ss:LS) (ns:LN) (TI:List (Nat×Nat)) (bs gs:LN) (_:vs=[.ref x,.ref a]) (_:WBar cw H x a ss ns TI bs gs) (_:∀(l:Addr) (us:LI) (H':Hp),L2.Same H H'->H' l=some (.lst (us.map V.ref))->us.length=odJ bs gs ss.length->All2 (λu p=>H' u=some (.lst (p.map V.str))) us (((pcJ bs gs ss.length).filter λc=>decide (c.length % 2=1)).map λc=>c.map (tn ss))->Q (.ref l) H')
inductive spLk(cw:Addr)(vs:List V)(H:Hp)(Q:VK)(E:XK):Prop|mk (x a:Addr) (ss:LS) (ns:LN) (TI:List (Nat×Nat)) (bs gs:LN) (_:vs=[.ref x,.ref a]) (_:WBar cw H x a ss ns TI bs gs) (_:∀(H':Hp),L2.Same H H'->Q (.int ((odJ bs gs ss.length:Nat)-(gs.length:Nat))) H')
inductive spSi(cw:Addr)(vs:List V)(H:Hp)(Q:VK)(E:XK):Prop|mk (x l:Addr) (ss:LS) (ns:LN) (us:LI) (tps qs:LP) (_:vs=[.ref x,.ref l]) (_:Wt cw H x ss ns tps) (_:PL H l us qs) (_:PGo ss tps qs) (_:∀(r:Addr) (H':Hp),L2.Same H H'->H' r=some (.lst ((snL (pt qs) ss).map V.str))->Q (.ref r) H')
theorem ok_pb(F:Fun K "pieces_beside" "pieces_beside" jR f fd)(T:Txt K mg cc cw)(r:wq9 4 "are_unlike_places" wql (spUlG cw))(D:wqqa 8 cw "without" ["self","places"] (spWo cw))(G:wqqa 3 cw "pieces" wq2 (spPcs cw)):wqqb 9 f fd wqq (spPb cw):=by
 show F.ok uD λ_ _ _ _ H vs Q E j h=>?_
 .obtain⟨x,a,ss,ns,TI,bs,gs,rfl,⟨W,B,e⟩,q⟩:=h;show⟨_,(qc (qN (qS (qQ (qo r (hmR j) qy (qa (pv 0) (qa (pv 1) qd))))) (qe jl) qw)
 (qe (qr (qbW G (hmR j) (qX D (hmR j) (pv 0) (qa (pv 1) qd)))))),?_⟩
  have t:=B.few;apply⟨x,x,ss,ns,.ref a,rfl,W.web,B.th W e,λH1 b=>?_⟩;rw[B.ul W e];obtain⟨I,J,ol,L,hb,_⟩:=id W.web;apply yq ?_;apply⟨x,I,_,rfl,b _ _ hb,qaa (by room),?_⟩;apply⟨x,a,ss,ns,_,_,rfl,W.same b,tj_few W.wok W.adj B.tj,b _ _ e,B.inn,by rw[ya];show t,λy ms H2 m d=>?_⟩;obtain⟨n,s,A,v,g,_⟩:=id d.web;apply⟨y,n,_,rfl,g,qaa (by room),?_⟩;apply⟨y,_,ms,rfl,d.web,λl u p C hl i o=>?_⟩;rw[pcs_J B d.wok d.adj] at o;show q l u p ((b.trans m).trans C) ((b.trans m).free hl) i (o.mono λc ks z=>⟨z.2.2,(b.trans m).free z.1⟩)
theorem ok_od(F:Fun K "odd_pieces" "odd_pieces" j3 f fd)(T:Txt K mg cc cw)(L:wq9 9 "pieces_beside" wqq (spPb cw)):wqqb 10 f fd wqq (spOd cw):=by
 show F.ok uU λ_ _ _ _ H vs Q E D h=>?_
 .obtain⟨x,a,ss,ns,TI,bs,gs,rfl,C,q⟩:=h;have S:=za D;show⟨_,(qe (qr (jh (sc:=qg j3) (XN:=wqq) ["piece"] 1 [] rfl rfl rfl (by room) rfl (by room)
  (qK (K:=K) rfl (qo L (hmR D) qy (qa (pv 0) (qa (pv 1) qd)))) (λ_ _ _ _=>(qm (i:=0) (show(["piece"]:LS).Nodup by room) rfl (yF rfl))) qF
  (λ_ _ _ _=>(qP (qq (jS (K:=K) rfl S) (qp zq (qj (jv (K:=K) rfl) rfl T.b_len Yt (qa (pv 0) qd)) qf) qf (qB _))))
  (λ_ _ _ _=>(pv 0))))),?_⟩
  apply⟨x,a,ss,ns,TI,bs,gs,rfl,C,λl B H1 U _ s m=>?_⟩;replace m:=m.mono λ_ _ z=>z.1;have few:=yi (qcH bs gs ss.length) C.2.1.ok.few;have q:∀(l:Addr) (us:LI) (H':Hp),L2.Same H H'->H' l=some (.lst (us.map V.ref))->us.length=((pcJ bs gs ss.length).filter λc=>decide (c.length % 2=1)).length->All2 (λu p=>H' u=some (.lst (p.map V.str))) us (((pcJ bs gs ss.length).filter λc=>decide (c.length % 2=1)).map λc=>c.map (tn ss))->Q (.ref l) H':=q;generalize pcJ bs gs ss.length=PS at m few q;have t:B.length=PS.length:=by rw[m.len,ya]
  show .inl ⟨⟨_,.of s⟩,qJ (xs:=B.map V.ref) (λi v J=>J=H1/\∃ us:LI,v=us.map V.ref/\All2 (λu p=>H1 u=some (.lst (p.map V.str))) us (((PS.take i).filter λc=>decide (c.length % 2=1)).map λc=>c.map (tn ss))) ⟨rfl,[],rfl,.nil⟩ (λi v J _ b=>by rw[b.1];show .of s) (λi y v J G b=>?_) λv J b=>?_⟩
  .obtain⟨rfl,us,rfl,d⟩:=b;rw[yd] at G;obtain⟨c,hc,rfl⟩:=yn.mp G;have R:i<PS.length:=by rw[<- t];show(yc.mp hc).1
   obtain⟨ks,r⟩:∃ ks,PS[i]?=some ks:=⟨_,yb R⟩;have n:=m.at_ i c _ hc (by rw[yd,r];rfl)
   have j:us.length<=14:=by
    rw[d.len,ya];show yi (yI _ _) (by rw[yK];lk)
   apply j6 n ?_;rw[ya,ya];apply vI (by decide) ?_;apply qav ?_;have N:decide ((ks.length:Int) % 2=1)=decide (ks.length % 2=1):=Yo.mpr (by lk);rw[N];ext;rw[yO,r,yZ]
   have M:((some ks).toList.filter λc=>decide (c.length % 2=1))=if decide (ks.length % 2=1)=true then [ks] else []:=by
    show [ks].filter _=_;rw[yP,YA]
   rw[M];show qL (λA=>?_) (λA=>?_)
   .ext;rw[yH A];show⟨by rw[ya];show qh (by lk),rfl,us++[c],by rw[yt];rfl,by rw[yt];show d.snoc n⟩
   .rw [yD A,Yg];show⟨rfl,us,rfl,d⟩
  .obtain⟨rfl,us,rfl,d⟩:=b;rw[show(B.map V.ref).length=PS.length by rw[ya,t],yT] at d;have j:=d.len;rw[ya] at j;have:=yI (λc:LN=>decide (c.length % 2=1)) PS;show⟨by rw[ya];show yN (qh (by lk)),λg O=>?_⟩;have I:=qC (Sr J) (o:=.lst (us.map V.ref)) O;show q g us _ (U.trans I) qb j (d.mono λ_ _ e=>I _ _ e)
theorem ok_lk(F:Fun K "lack_of" "lack_of" qa9 f fd)(T:Txt K mg cc cw)(i:wq9 10 "odd_pieces" wqq (spOd cw)):wqqb 11 f fd wqq (spLk cw):=by
 show F.ok Ub λ_ _ _ _ H vs Q E g h=>?_
 .obtain⟨x,a,ss,ns,TI,bs,gs,rfl,d,q⟩:=h;show⟨_,(qe (qr (qp qaI (qj (jv (K:=K) rfl) rfl T.b_len Yt (qa (qo i (hmR g) qy (qa (pv 0) (qa (pv 1) qd))) qd)) (qj (jv (K:=K) rfl) rfl T.b_len Yt (qa (pv 1) qd))))),?_⟩;apply⟨x,a,ss,ns,TI,bs,gs,rfl,d,λl us H1 e b c _=>?_⟩;apply j6 b ?_;rw[ya,c];apply j6 (e _ _ d.2.2) ?_;rw[ya,ya];apply q H1 e
theorem ok_si(F:Fun K "singles" "singles" qak f fd)(T:Txt K mg cc cw)(u:wq9 9 "partners_in" wqG (spPn cw))(L:wqqa 1 cw "places" wq2 (spPls cw)):wqqb 10 f fd wqG (spSi cw):=by
 show F.ok uK λ_ _ _ _ H vs Q E n h=>?_
 .obtain⟨x,l,ss,ns,us,tps,qs,rfl,W,z,v,q⟩:=h;have G:=za n;show⟨_,(qc (qk (i:=2) uK.nd rfl (Xg rfl) (qo u (hmR n) qy (qa (pv 0) (qa (pv 1) qd))))
 (qe (qr (jh (sc:=qg qak) (XN:=["web","pairs","partners"]) ["place","partners"] 1 [2] rfl rfl rfl (by room) rfl (by room)
  (qK (K:=K) rfl (qbW L (hmR n) (pv 0))) (λ_ _ _ _=>(qm (i:=0) (show(["place","partners"]:LS).Nodup by room) rfl (yF rfl))) qF
  (λ_ _ _ _=>(qP (qq (zQ (K:=K) rfl G) (pv 0) (pv 1) (by with_unfolding_all rfl))))
  (λ_ _ _ _=>(pv 0)))))),?_⟩
  have few:=W.wok.few;apply⟨x,l,ss,ns,us,tps,qs,rfl,W.web,W.adj,z,v,λd H1 r _ A=>?_⟩;obtain⟨M,N,ol,O,hb,_⟩:=id (W.web.same r);apply⟨x,M,_,rfl,hb,qaa (by room),?_⟩;apply⟨x,ss,ns,rfl,W.web.same r,λm D=>?_⟩;have s:=qC (Sr H1) (o:=.lst (ss.map V.str)) D;have e:upd H1 m (.lst (ss.map V.str)) m=some (.lst (ss.map V.str)):=qb;generalize upd H1 m (.lst (ss.map V.str))=H2 at s e;show .inl ⟨⟨_,.of e⟩,qJ (λi c J=>J=H2/\c=(snL (pt qs) (ss.take i)).map V.str) ⟨rfl,rfl⟩ (λi c J _ a=>by rw[a.1];show .of e) (λi y c J I a=>?_) λc J a=>?_⟩
  .obtain⟨rfl,rfl⟩:=a;obtain⟨b,t,rfl⟩:=jU I;have C:=(yc.mp t).1
   have p:snL (pt qs) (ss.take (i+1))=snL (pt qs) (ss.take i)++(if (!(pt qs b).isSome)=true then [b] else []):=by
    unfold snL;rw[yO,t,yZ];show _++[b].filter _=_;rw[yP,YA]
   have j:(snL (pt qs) (ss.take i)).length<=i:=yi (yI _ _) (by rw[yK];lk);apply .inr (.inl ⟨d,_,rfl,DGet.k (k:=Sum.inr b) (s _ _ A),?_⟩);rw[qah,yH rfl,Xw];rw[p];show⟨_,rfl,?_⟩
   cases (!(pt qs b).isSome) with
   | true =>
    show zX ?_;apply⟨by rw[ya];show qh (by lk),rfl,by rw[yH rfl,yt];rfl⟩
   | false=>show qL (λh=>by cases h) λ_=>⟨rfl,by rw[yD (by decide),Yg]⟩
  .obtain⟨rfl,rfl⟩:=a;rw[show(ss.map V.str).length=ss.length from ya _,yT];have j:(snL (pt qs) ss).length<=ss.length:=yI _ _;show⟨by rw[ya];show yN (qh (by lk)),λg B=>?_⟩;show q g _ ((r.trans s).trans (qC (Sr J) B)) qb
theorem Uo:FnScope wql wql (qg qcI):=fS
def zF(bs gs:LN)(n k:Nat):Bool:=decide ((n:Int)-2*(k:Int)=(odJ bs gs n:Int)-(gs.length:Int))
def BrO(p cw:Addr)(H:Hp)(x:Addr)(ss:LS)(ns:LN)(TI:List (Nat×Nat))(bs:LN)(qs:LP)(v:V)(b:Bool):Prop:=(∃ a gs,v=.ref a/\WBar cw H x a ss ns TI bs gs/\b=zF bs gs ss.length qs.length)\/(ulV H ss v=false/\b=false)
theorem BrO.same{TI:List (Nat×Nat)}{bs:LN}{b:Bool}(h:BrO p cw H x ss ns TI bs qs v b)(hv:Th p H 3 v)(s:L2.Same H H'):BrO p cw H' x ss ns TI bs qs v b:=
 h.imp (λ⟨a,gs,e,w,r⟩=>⟨a,gs,e,w.same s,r⟩) λ⟨e,r⟩=>⟨(qcG hv λc o _ e=>s c o e).trans e,r⟩
inductive spSh(cw:Addr)(vs:List V)(H:Hp)(Q:VK)(E:XK):Prop|mk (p x t l:Addr) (ss:LS) (ns:LN) (TI:List (Nat×Nat)) (bs:LN) (us:LI) (qs:LP) (v:V) (b:Bool) (_:vs=[.ref x,.ref t]) (_:Wt cw H x ss ns (TI.map (nmP ss))) (_:BrO p cw H x ss ns TI bs qs v b) (_:Th p H 3 v) (_:H t=some (.tup [.ref l,v])) (_:PL H l us qs) (_:PGo ss (TI.map (nmP ss)) qs) (_:∀(H':Hp),L2.Same H H'->Q (.bl b) H')
theorem ok_shw(F:Fun K "shows" "shows" qcI f fd)(T:Txt K mg cc cw)(G:wq9 8 "are_pairs" wql (spAp cw))(D:wq9 4 "are_unlike_places" wql (spUlG cw))(I:wq9 10 "singles" wqG (spSi cw))(J:wq9 11 "lack_of" wqq (spLk cw)):wqqb 12 f fd wql (spSh cw):=by
 show F.ok Uo λ_ _ _ _ H vs Q E n h=>?_
 .obtain⟨p,x,t,l,ss,ns,TI,bs,us,qs,v,b,rfl,W,m,hv,i,A,u,q⟩:=h;have j:=za n;show⟨_,(qc (qN (PW.pt (qaH (qS (qQ (qj (qay (K:=K) rfl) rfl T.b_isinstance Yz (qa (pv 1) (qa (jB (v:=.ty "tuple") rfl T.b_tuple XW rfl) qd))))) (qac (qq (qaf (K:=K) rfl j) (qj (jv (K:=K) rfl) rfl T.b_len Yt (qa (pv 1) qd)) qf (qB _))))) (qe (qr ju)) qw)
 (qc (qN (PW.pt (qaH (qS (qQ (qo G (hmR n) qy (qa (pv 0) (qa (qu (qv (K:=K) rfl j) (pv 1) qf (λ_ _=>rfl)) qd))))) (qac (qS (qQ (qo D (hmR n) qy (qa (pv 0) (qa (qu (qv (K:=K) rfl j) (pv 1) qf (λ_ _=>rfl)) qd)))))))) (qe (qr ju)) qw)
 (qe (qr (zM (jS (K:=K) rfl j) (qj (jv (K:=K) rfl) rfl T.b_len Yt (qa (qo I (hmR n) qy (qa (pv 0) (qa (qu (qv (K:=K) rfl j) (pv 1) qf (λ_ _=>rfl)) qd))) qd)) (qo J (hmR n) qy (qa (pv 0) (qa (qu (qv (K:=K) rfl j) (pv 1) qf (λ_ _=>rfl)) qd))) (qB _)))))),?_⟩
  apply qbq (.inl (.tup i)) rfl (zf K "tuple" (by simp) "tuple" (by simp)) ?_;apply yq ?_;apply qgi i ?_;apply .inl ⟨rfl,rfl,?_⟩;apply yq ?_;apply .inl (qax i rfl ?_);apply⟨x,l,ss,ns,us,_,qs,rfl,W.web,W.adj,A,u,λH1 s=>?_⟩;apply yq ?_;apply .inl (qax (s _ _ i) rfl ?_);apply⟨p,x,ss,ns,v,rfl,W.web.same s,hv.same s,λH2 L=>?_⟩;have d:=s.trans L;rw[qcG hv λc o _ e=>s c o e];rcases m with⟨a,gs,rfl,m,rfl⟩ | ⟨y,rfl⟩
  .have B:=m.2.1;rw[B.ul W m.2.2];apply yq ?_;apply .inl (qax (d _ _ i) rfl ?_);apply⟨x,l,ss,ns,us,_,qs,rfl,W.same d,A.same d,u,λr O M z=>?_⟩;have g:=d.trans M;apply j6 z ?_;rw[ya];apply .inl (qax (g _ _ i) rfl ?_);apply⟨x,a,ss,ns,TI,bs,gs,rfl,m.same g,λC N=>?_⟩;have R:=qbl (f:=pt qs) (ss:=ss);have S:=u.cnt W.wok.nd;show qav ?_
   have e:decide (((snL (pt qs) ss).length:Int)=(odJ bs gs ss.length:Int)-(gs.length:Int))=zF bs gs ss.length qs.length:=by
    unfold zF;show Yo.mpr (by lk)
   rw[e];show q C (g.trans N)
  .rw [y];apply zX ?_;apply q H2 d
theorem um:FnScope wqe wqs (qg qau):=fS
inductive spLkJ(vs:List V)(H:Hp)(Q:VK)(E:XK):Prop|mk (n bb a:Addr) (ss:LS) (TI:List (Nat×Nat)) (bs gs:LN) (_:vs=[.ref n,.ref bb,.ref a]) (_:H n=some (.lst (ss.map V.str))) (_:H bb=some (.lst (zh bs))) (_:BarJ ss TI bs gs) (_:H a=some (.lst ((gs.map (tn ss)).map V.str))) (_:∀(H':Hp),L2.Same H H'->Q (.int ((odJ bs gs ss.length:Nat)-(gs.length:Nat))) H')
theorem ok_lkJ(F:Fun K "_law_lack" "_law_lack" qau f fd)(T:Txt K mg cc cw)(uE:wq9 1 "_law_room" wqt spRmJ)(uu:wq9 1 "_law_pieces" wqp spPjJ):wqqb 2 f fd wqs spLkJ:=by
 show F.ok um λ_ _ _ _ H vs Q E N h=>?_
 .obtain⟨n,bb,a,ss,TI,bs,gs,rfl,L,A,B,z,q⟩:=h;have hu:=za N;have hf:=B.few;have e:=B.ok.few;show⟨_,(qc (qk (i:=3) um.nd rfl (yF rfl) (qj (jv (K:=K) rfl) rfl T.b_len Yt (qa (pv 0) qd)))
 (qc (j5 (sc:=qg qau) (XN:=wqe) wqH 1 [0] rfl rfl rfl (by room) rfl (by room) (i:=4) um.nd rfl rfl
  (qK (K:=K) rfl (pv 2)) (λ_ _ _ _=>(qm (i:=0) (show(wqH:LS).Nodup by room) rfl (yF rfl))) qF
  (λ_ _ _ _=>jW)
  (λ_ _ _ _=>(qcg (K:=K) rfl yV kc PySem.F.type_list_index (qe2 (K:=K) rfl) (pv 1) (qa (pv 0) qd))))
 (qc (qk (i:=5) um.nd rfl (yF rfl) (qo uu (hmR N) qy (qa (pv 3) (qa (pv 1) (qa (qo uE (hmR N) qy (qa (pv 3) (qa (pv 4) qd))) qd)))))
 (qe (qr (qp qaI (qj (jv (K:=K) rfl) rfl T.b_len Yt (qa (jh (sc:=qg qau) (XN:=wqe) ["_law_piece"] 1 [] rfl rfl rfl (by room) rfl (by room)
  (qK (K:=K) rfl (pv 5)) (λ_ _ _ _=>(qm (i:=0) (show(["_law_piece"]:LS).Nodup by room) rfl (yF rfl))) qF
  (λ_ _ _ _=>(qP (qq (jS (K:=K) rfl hu) (qp zq (qj (jv (K:=K) rfl) rfl T.b_len Yt (qa (pv 0) qd)) qf) qf (qB _))))
  (λ_ _ _ _=>(pv 0))) qd)) (qj (jv (K:=K) rfl) rfl T.b_len Yt (qa (pv 2) qd)))))))),?_⟩
  apply j6 L ?_;rw[ya];apply .inl ⟨⟨_,.of z⟩,qJ (λi d J=>J=H/\d=(gs.take i).map iV) ⟨rfl,rfl⟩ (λi d J _ s=>by rw[s.1];show .of z) (λi y d J x s=>?_) λd J s=>?_⟩
  .obtain⟨rfl,rfl⟩:=s;obtain⟨sy,X,rfl⟩:=jU x;rw[yd] at X;obtain⟨k,I,rfl⟩:=yn.mp X;have p:=B.lt k (ye I);have aa:=(yc.mp I).1;apply zX ?_;apply⟨.inl ⟨rfl,_,.of L⟩,?_⟩;apply⟨n,ss,_,rfl,rfl,.of L,qa0 p,?_⟩;rw[qb0 B.ok.nd (jE p)];show⟨by rw[ya,yK];show qh (by lk),rfl,by rw[yO,I,yt];rfl⟩
  .obtain⟨rfl,rfl⟩:=s;rw[show((gs.map (tn ss)).map V.str).length=gs.length by rw[ya,ya],yT];show⟨by rw[ya];show yN (qh (by lk)),λg hg=>?_⟩;have Y:=qC (Sr J) (o:=.lst (gs.map iV)) hg;have W:upd J g (.lst (gs.map iV)) g=some (.lst (gs.map iV)):=qb;generalize upd J g (.lst (gs.map iV))=H1 at Y W;apply⟨g,ss.length,gs,rfl,e,W,λH2 s2=>?_⟩;have u:=Y.trans s2;apply⟨bb,ss.length,rmJ gs ss.length,bs,rfl,e,u _ _ A,B.bt.1,B.bt.2.1,B.bt.sym,(qb4 gs ss.length).1,λl S U s3 _ hl m=>?_⟩;have v:=u.trans s3;have m:All2 (λa ks=>U a=some (.lst (ks.map iV))) S (pcJ bs gs ss.length):=m;have few:=yi (qcH bs gs ss.length) e;have q:∀(H':Hp),L2.Same J H'->Q (.int ((((pcJ bs gs ss.length).filter λc=>decide (c.length % 2=1)).length:Nat)-(gs.length:Nat))) H':=q;generalize pcJ bs gs ss.length=PS at m few q;have t:=m.len;apply .inl ⟨⟨_,.of hl⟩,qJ (xs:=S.map V.ref) (λi d G=>G=U/\∃ us:LI,d=us.map V.ref/\us.length=((PS.take i).filter λc=>decide (c.length % 2=1)).length) ⟨rfl,[],rfl,rfl⟩ (λi d G _ b=>by rw[b.1];show .of hl) (λi y d G x b=>?_) λd G b=>?_⟩
   .obtain⟨rfl,us,rfl,j⟩:=b;rw[yd] at x;obtain⟨c,hc,rfl⟩:=yn.mp x;have hi:i<PS.length:=by rw[<- t];show(yc.mp hc).1
    obtain⟨ks,r⟩:∃ ks,PS[i]?=some ks:=⟨_,yb hi⟩;have C:=m.at_ i c _ hc r
    have R:us.length<=14:=by
     rw[j];show yi (yI _ _) (by rw[yK];lk)
    apply j6 C ?_;rw[ya];apply vI (by decide) ?_;apply qav ?_;have eo:decide ((ks.length:Int) % 2=1)=decide (ks.length % 2=1):=Yo.mpr (by lk);rw[eo];ext
    have O:((PS.take (i+1)).filter λc=>decide (c.length % 2=1)).length=us.length+if decide (ks.length % 2=1)=true then 1 else 0:=by
     rw[yO,r,yZ,yu,j];show _+([ks].filter λc=>decide (c.length % 2=1)).length=_;rw[yP,YA];cases decide (ks.length % 2=1)<;>rfl
    rw[O];show qL (λM=>?_) (λM=>?_)
    .ext;rw[yH M];show⟨by rw[ya];show qh (by lk),rfl,us++[c],by rw[yt];rfl,by rw[yu];rfl⟩
    .rw [yD M];show⟨rfl,us,rfl,rfl⟩
   .obtain⟨rfl,us,rfl,j⟩:=b;rw[show(S.map V.ref).length=PS.length by rw[ya,t],yT] at j
    have R:us.length<=14:=by
     rw[j];show yi (yI _ _) few
    show⟨by rw[ya];show yN (qh (by lk)),λg9 D=>?_⟩;have Z:=qC (Sr G) (o:=.lst (us.map V.ref)) D;apply j6 qb ?_;rw[ya,j];apply j6 (Z _ _ (v _ _ z)) ?_;rw[ya,ya];apply q _ (v.trans Z)
theorem KA:FnScope wqb wqn (qg jI):=fS
theorem eq_nilI{Q:VK}(hl:H l=some (.lst xs))(a:H z=some (.lst []))(q:Q (.bl xs.isEmpty) H):qfG K false (.ref l) (.ref z) H Q:=by
 cases xs with
 | nil=>show .inr (.inl ⟨l,z,true,1,rfl,rfl,by decide,EqT.lst (n:=0) (e:=λ_=>true) (SqL.of hl) (SqL.of a) rfl λj x y h=>by(simp at h),q⟩)
 | cons x r=>show .inr (.inl ⟨l,z,false,1,rfl,rfl,by decide,EqT.lstL (SqL.of hl) (SqL.of a) (by simp),q⟩)
theorem qhz:∀{l m:LN},l.Nodup->(∀ x∈l,x∈m)->l.length<=m.length
 | [],_,_,_=>Yx _
 | x::r,m,hn,hs=>by
  obtain⟨h1,c⟩:=yo.mp hn;have a:=hs x yM;have:=qhz (l:=r) (m:=m.erase x) c λy b=>(XA (λe=>h1 (by rw[<- e];show b))).mpr (hs y (yy _ b));rw[Y4 a] at this;have:0<m.length:=xj a;simp only[yx];lk
section
variable{tps:LP}{ss:LS}
theorem IsM.some{nb:Nat->Bool}:∀ top,∃ v,IsM tps ss nb r top v
 | 0=>⟨_,yh _,(λo a=>by lk),.inl rfl⟩
 | top+1=>by
  obtain⟨v,h⟩:∃ v,IsM tps ss nb r top v:=IsM.some top;by_cases e:nb top=true
  .show⟨_,h.take e⟩
  .show⟨_,h.skip e⟩
theorem qdM:rmN ss (2 ^ ss.length-1)=ss:=by
 unfold rmN;show kL.mpr λs a=>?_;rw[Nat.testBit_two_pow_sub_one];show yz (YN a)
structure GsI(tps:LP)(ss:LS)(TI:List (Nat×Nat))(i room:Nat)(PI:List (Nat×Nat)):Prop where
 lo:∀ j,j<i->room.testBit j=false
 lt:room<2 ^ ss.length
 inn:∀ q∈PI,q∈TI
 nd:(qer PI).Nodup
 off:∀ k∈qer PI,room.testBit k=false
 bd:∀ k∈qer PI,k<ss.length
 cnt:PI.length+tbQ tps ss room=tbQ tps ss (2 ^ ss.length-1)
theorem GsI.skip{TI PI:List (Nat×Nat)}(h:GsI tps ss TI i room PI)(e:room.testBit i=false):GsI tps ss TI (i+1) room PI:=
 ⟨λj a=>by
  by_cases z:j=i
  .rw [z];show e
  .show h.lo j (by lk),h.lt,h.inn,h.nd,h.off,h.bd,h.cnt⟩
theorem GsI.drop{TI PI:List (Nat×Nat)}(h:GsI tps ss TI i room PI)(e:tbQ tps ss (q9 room (2 ^ i))=tbQ tps ss room):GsI tps ss TI (i+1) (q9 room (2 ^ i)) PI:=
 ⟨λj b=>by
  rw[qY,Yj];by_cases z:j=i
  .subst z;simp
  .rw [h.lo j (by lk)];rfl,YH (by unfold q9;lk) h.lt,h.inn,h.nd,λk a=>by rw[qY,h.off k a];rfl,h.bd,by rw[e];show h.cnt⟩
theorem GsI.pair{TI PI:List (Nat×Nat)}{o:Nat}(h:GsI tps ss TI i room PI)(r:i<ss.length)(t:o<ss.length)(b:room.testBit i=true)(d:(q9 room (2 ^ i)).testBit o=true)(n:(i,o)∈TI)(e:1+tbQ tps ss (q9 (q9 room (2 ^ i)) (2 ^ o))=tbQ tps ss room):GsI tps ss TI (i+1) (q9 (q9 room (2 ^ i)) (2 ^ o)) (PI++[(i,o)]):=by
 rw[qY,Yj,yL] at d;have g:i≠o:=λz=>by have:=d.2;rw[yz z] at this;cases this
 have c:∀ k,room.testBit k=false->(q9 (q9 room (2 ^ i)) (2 ^ o)).testBit k=false:=λk z=>by rw[qY,qY,z];rfl
 show⟨λj s=>?_,YH (by unfold q9;lk) h.lt,λq f=>?_,?_,λk a=>?_,λk a=>?_,?_⟩
 .by_cases z:j=i
  .subst z;rw[qY,qY,Yj,yz rfl];simp
  .show c j (h.lo j (by lk))
 .rcases yG.mp f with z | z
  .show h.inn q z
  .rw [yC.mp z];show n
 .rw [qa6];show Yk.mpr ⟨h.nd,by simp[g],λx p y l m=>?_⟩;subst m;have:=h.off x p;simp only[yv,yQ,Yw] at l;rcases l with rfl | rfl
  .rw [b] at this;cases this
  .rw [d.1] at this;cases this
 .rw [qa6] at a;rcases yG.mp a with z | z
  .show c k (h.off k z)
  .simp only[yv,yQ,Yw] at z;rcases z with rfl | rfl
   .rw [qY,qY,Yj,yz rfl];simp
   .rw [qY,Yj,yz rfl];simp
 .rw [qa6] at a;rcases yG.mp a with z | z
  .show h.bd k z
  .simp only[yv,yQ,Yw] at z;rcases z with rfl | rfl<;>assumption
 .rw [yu,List.length_singleton];have:=h.cnt;lk
theorem GsI.done{TI PI:List (Nat×Nat)}(h:GsI tps ss TI ss.length room PI):PI.length=mo tps ss.length ss:=by
 have a:room=0:=by
  show XD λj=>?_;rw[Kj];by_cases z:j<ss.length
  .show h.lo j z
  .show kn (yj h.lt (Y7 (by decide) (by lk)))
 have:=h.cnt;rw[a,qfp] at this;unfold tbQ at this;rw[qdM] at this;lk
theorem GsI.few{TI PI:List (Nat×Nat)}(h:GsI tps ss TI i room PI):2*PI.length<=ss.length:=by
 rw[<- nums_len];have:=qhz h.nd (m:=List.range ss.length) λk a=>Yh.mpr (h.bd k a)
 rwa[YE] at this
end
inductive spGsQ(vs:List V)(H:Hp)(Q:VK)(E:XK):Prop|mk (p lb lt:Addr) (ss:LS) (TI:List (Nat×Nat)) (bs:LN) (_:vs=[.ref p,.int (ss.length:Int),.ref lb,.ref lt]) (_:Pu H p) (_:lb≠p) (_:lt≠p) (_:ss.length<=12) (_:ss.Nodup) (_:TJ ss.length TI) (_:H lb=some (.lst (zh bs))) (_:BtJ ss.length TI bs) (_:H lt=some (.lst (zh (tbL (TI.map (nmP ss)) ss (2 ^ ss.length))))) (_:∀(l:Addr) (zs:List (Addr×(Nat×Nat))) (H':Hp),But p H H'->Pu H' p->H l=none->l≠p->IPZ H' l zs->(∀ z∈zs,z.2∈TI)->(qer (zs.map Prod.snd)).Nodup->2*zs.length<=ss.length->zs.length=mo (TI.map (nmP ss)) ss.length ss->Q (.ref l) H')
theorem ok_gsQ(F:Fun K "_law_greatest" "_law_greatest" jI f fd)(T:Txt K mg cc cw)(Kz:wq9 1 "_law_take" wy spTkP):wqqb 2 f fd wqn spGsQ:=by
 show F.ok KA λ_ _ _ _ H vs Q E hr h=>?_
 .obtain⟨p,lb,lt,ss,TI,bs,rfl,hp,bf,bg,bd,hn,hj,ax,ag,ao,q⟩:=h;have C:=za hr;obtain⟨tps,N⟩:∃ tps,tps=TI.map (nmP ss):=⟨_,rfl⟩;rw[<- N] at q ao;have bq:2 ^ ss.length<=4096:=Y7 (by decide) bd;have p0:0<2 ^ ss.length:=Xq _;have ba:∀{i j:Nat} {x y:Str},ss[i]?=some x->ss[j]?=some y->(tA tps x y↔zY bs i j=true):=λhx hy=>by rw[N,qfL hn hj hx hy];show(ag.2.2 _ _).symm
  have hi:∀ a b,tA tps a b->a≠b:=λa b h e=>by
   subst e;rw[N] at h;rcases h with h | h <;>
   .obtain⟨q,hq,e⟩:=yB.mp h;unfold nmP at e
    injection e with e1 U
    have l:=hj.2.1 q hq;have z1:=jE (ss:=ss) (i:=q.1) (by lk);have z2:=jE (ss:=ss) (i:=q.2) (by lk);rw[e1] at z1;rw[U] at z2;have:=qA hn z1 z2;lk
  have tg:∀ k,k<2 ^ ss.length->(zh (tbL tps ss (2 ^ ss.length)))[k]?=some (.int (tbQ tps ss k:Nat)):=λk hk=>by
   rw[je (by rw[qcD];show hk),qfq hk]
  show⟨_,(qc (qk (i:=4) KA.nd rfl (Xg rfl) (qp qaI (qp j7 qf (pv 1)) qf))
 (qc (qk (i:=5) KA.nd rfl (yF rfl) (qz qd))
 (qc (qR yW rfl (qT rfl T.b_range (qa (pv 1) qd)) (qm (i:=6) KA.nd rfl (Xg rfl))
 (qe (qN (qq (jS (K:=K) rfl C) (qp jF (qp qaJ (pv 4) (pv 6)) qf) qf (qB _)) (qc (qk (i:=7) KA.nd rfl (Xg rfl) (qp jF (pv 4) (qcq qbj (qp j7 qf (pv 6)))))
 (qc (j5 (sc:=qg jI) (XN:=wqb) wqR 1 [7,2,6] rfl rfl rfl (by room) rfl (by room) (i:=8) KA.nd rfl rfl
  (qT rfl T.b_range (qa (pv 1) qd)) (λ_ _ _ _=>(qm (i:=0) (show(wqR:LS).Nodup by room) rfl (yF rfl))) qF
  (λ_ _ _ _=>(qP (qq (jS (K:=K) rfl C) (qp jF (qp qaJ (qp jF (pv 1) (qu (qv (K:=K) rfl C) (pv 2) (pv 3) (λ_ _=>rfl))) (pv 0)) qf) qf (qB _))))
  (λ_ _ _ _=>(pv 0)))
 (qc (j5 (sc:=qg jI) (XN:=wqb) wqJ 1 [3,4,7] rfl rfl rfl (by room) rfl (by room) (i:=9) KA.nd rfl rfl
  (qK (K:=K) rfl (pv 8)) (λ_ _ _ _=>(qm (i:=0) (show(wqJ:LS).Nodup by room) rfl (yF rfl))) qF
  (λ_ _ _ _=>(qP (qq (jS (K:=K) rfl C) (qp (jp (K:=K) rfl) qf (qu (qv (K:=K) rfl C) (pv 1) (qp jF (pv 3) (qcq qbj (qp j7 qf (pv 0)))) (λ_ _=>rfl))) (qu (qv (K:=K) rfl C) (pv 1) (pv 2) (λ_ _=>rfl)) (qB _))))
  (λ_ _ _ _=>(pv 0)))
 (qe (qN (PW.pt (qaH (qq (jS (K:=K) rfl C) (pv 9) (qz qd) (qB _)) (qac (PW.pt (qb9 (qq (jS (K:=K) rfl C) (qu (qv (K:=K) rfl C) (pv 3) (pv 7) (λ_ _=>rfl)) (qu (qv (K:=K) rfl C) (pv 3) (pv 4) (λ_ _=>rfl)) (qB _)) (qco (qq (jS (K:=K) rfl C) (qo Kz (hmR hr) qy (qa (pv 0) (qa qf qd))) qf (qB _)))))))) (qe (qk (i:=4) KA.nd rfl (Xg rfl) (pv 7))) (qc (qk (i:=10) KA.nd rfl (yF rfl) (qu (qv (K:=K) rfl C) (pv 9) (qo Kz (hmR hr) qy (qa (pv 0) (qa (qj (jv (K:=K) rfl) rfl T.b_len Yt (qa (pv 9) qd)) qd))) (λ_ _=>rfl)))
 (qc (qW (qcg (K:=K) rfl yV Yb Yc qG (pv 5) (qa (jg (qa (pv 6) (qa (pv 10) qd))) qd)))
 (qe (qk (i:=4) KA.nd rfl (Xg rfl) (qp jF (pv 7) (qcq qbj (qp j7 qf (pv 10))))))))))))) qw)))
 (qe (qr (pv 5)))))),?_⟩
  apply vI ⟨by lk,by lk,by decide⟩ ?_;ext;rw[pwI];have eF:((2 ^ ss.length:Nat):Int)-1=((2 ^ ss.length-1:Nat):Int):=by lk
  rw[eF];apply⟨wqqc,λA X=>?_⟩;have Z:A≠p:=λz=>by obtain⟨_,_,_,e,_⟩:=hp;rw[<- z,X] at e;cases e
  have s0:=qC (Sr H) (o:=.lst []) X;have e0:upd H A (.lst []) A=some (.lst []):=qb;generalize upd H A (.lst [])=H0 at s0 e0;apply⟨_,rfl,by lk,by lk,?_⟩;rw[yS];show jL (lo:=0) (λi σ J=>But p H J/\Pu J p/\∃(room:Nat) (t:List (Addr×(Nat×Nat))) (x6 x7 x8 x9 S:Option V),σ=[some (.ref p),some (.int (ss.length:Int)),some (.ref lb),some (.ref lt),some (.int (room:Int)),some (.ref A),x6,x7,x8,x9,S]/\IPZ J A t/\(∀ z∈t,z.1≠p)/\GsI tps ss TI i room (t.map Prod.snd)) ⟨λc o n e=>s0 _ _ e,hp.same s0,2 ^ ss.length-1,[],_,_,_,_,_,rfl,⟨e0,λz hz=>by cases hz⟩,(λz hz=>by cases hz),⟨(λj hj=>by lk),by lk,(λq h=>by cases h),List.nodup_nil,(λk h=>by cases h),(λk h=>by cases h),by simp⟩⟩ (λi σ J ah ai=>?_) fun σ J ai=>?_
  .obtain⟨bJ,pJ,room,t,x6,x7,x8,x9,S,rfl,hz,B,I⟩:=ai;rw[xi];have ad:=bJ _ _ bg ao;have an:=bJ _ _ bf ax;apply vI (by lk) ?_;apply qav ?_;rw[zC];show⟨_,rfl,qL (λhb=>?_) λhb=>⟨bJ,pJ,room,t,_,_,_,_,_,rfl,hz,B,I.skip (by simpa using hb)⟩⟩;have hb:room.testBit i=true:=hb;obtain⟨x,hx⟩:∃ x,ss[i]?=some x:=⟨_,yb ah⟩;obtain⟨r,g⟩:∃ r,r=q9 room (2 ^ i):=⟨_,rfl⟩;have ae:r<2 ^ ss.length:=Km (by rw[g];show qfo hb) I.lt;apply vI ⟨by lk,by lk,by decide⟩ ?_;apply vU ?_;ext;rw[pwI,jk,<- g];ext;obtain⟨nr,Y⟩:∃ nr,nr=r &&& bs.getD i 0:=⟨_,rfl⟩
   have az:∀ o y,ss[o]?=some y->(nr.testBit o=true↔(r.testBit o=true/\tA tps x y)):=λo y hy=>by
    rw[Y,Y6,yL,ba hx hy];rfl
   obtain⟨nl,M⟩:∃ nl:Nat->LN,nl=λm=>(List.range m).filter λo=>nr.testBit o:=⟨_,rfl⟩;show⟨_,rfl,by lk,by lk,?_⟩;rw[yS];show jG (lo:=0) (λj ys G=>G=J/\ys=(nl j).map iV) ⟨rfl,by rw[M];rfl⟩ (λj ys G bn s=>?_) λys G s=>?_
   .obtain⟨rfl,rfl⟩:=s;rw[xi];apply .inl (zo an (qt (je (by rw[ag.1];show ah))) ?_);ext;rw[qdG,<- Y];show vI (by lk) ?_;apply qav ?_;rw[zC];have e1:nl (j+1)=nl j++(if nr.testBit j=true then [j] else []):=by rw[M];show qcE _ j
    have l1:(nl j).length<=j:=by rw[M];show qaF _ j
    rw[e1];show⟨_,rfl,qL (λh=>?_) λh=>?_⟩
    .rw [yH h];apply⟨by rw[ya];show jt (by lk),rfl,by rw[yt];rfl⟩
    .rw [yD h,Yg];show⟨rfl,rfl⟩
   .obtain⟨rfl,rfl⟩:=s;have l1:(nl ss.length).length<=ss.length:=by rw[M];show qaF _ _
    have R:∀ o,o∈nl ss.length↔o<ss.length/\nr.testBit o=true:=λo=>by rw[M,yp,Yh]
    generalize nl ss.length=ne at l1 R;show⟨by rw[ya];show yN (jt (by lk)),λln ay=>?_⟩;have s1:=qC (Sr G) (o:=.lst (ne.map iV)) ay;have e1:upd G ln (.lst (ne.map iV)) ln=some (.lst (ne.map iV)):=qb;generalize upd G ln (.lst (ne.map iV))=J1 at s1 e1;have aa:=s1 _ _ ad;obtain⟨L,aj⟩:∃ L:Nat->Bool,L=λo=>decide (1+tbQ tps ss (q9 r (2 ^ o))=tbQ tps ss room):=⟨_,rfl⟩;apply .inl ⟨⟨_,.of e1⟩,qJ (xs:=ne.map iV) (λj ys G2=>G2=J1/\ys=((ne.take j).filter L).map iV) ⟨rfl,rfl⟩ (λj ys G2 _ s=>by rw[s.1];show .of e1) (λj y ys G2 hy s=>?_) λys G2 s=>?_⟩
    .obtain⟨rfl,rfl⟩:=s;rw[yd] at hy;obtain⟨o,ho,rfl⟩:=yn.mp hy;have bo:=(yc.mp ho).1;have bp:=((R o).mp (ye ho)).1;apply vI ⟨by lk,by lk,by decide⟩ ?_;apply vU ?_;ext;rw[pwI,jk];have ar:q9 r (2 ^ o)<2 ^ ss.length:=YH (by unfold q9;lk) ae;show .inl (zo aa (qt (tg _ ar)) ?_);apply .inl (zo aa (qt (tg _ I.lt)) ?_);apply qav ?_;have U:decide ((1:Int)+(tbQ tps ss (q9 r (2 ^ o)):Nat)=(tbQ tps ss room:Nat))=L o:=by rw[aj];show Yo.mpr (by lk)
     rw[U];have l2:((ne.take j).filter L).length<=j:=yi (yI _ _) (by rw[yK];lk);rw[yO,ho,yZ];show⟨_,rfl,qL (λh=>?_) λh=>?_⟩
     .ext;show⟨by rw[ya];show jt (by lk),rfl,?_⟩;show _=List.map iV (_++[o].filter L);rw[yP,yH h,yt];rfl
     .show⟨rfl,?_⟩;show _=List.map iV (_++[o].filter L);rw[yP,yD h,YA,Yg]
    .obtain⟨rfl,rfl⟩:=s;rw[show(ne.map iV).length=ne.length from ya _,yT];have l2:(ne.filter L).length<=ss.length:=yi (yI _ _) l1
     have as:∀ o∈ne.filter L,o<ss.length/\nr.testBit o=true/\1+tbQ tps ss (q9 r (2 ^ o))=tbQ tps ss room:=λo h=>by
      obtain⟨k1,k2⟩:=yp.mp h;rw[aj] at k2;show⟨((R o).mp k1).1,((R o).mp k1).2,yk k2⟩
     have non:ne.filter L=[]->tbQ tps ss r=tbQ tps ss room:=λh=>by
      obtain⟨v,hv⟩:=IsM.some (tps:=tps) (ss:=ss) (nb:=λo=>nr.testBit o) (r:=r) ss.length;have ev:=qfn hi hn hx hb (λo=>nr.testBit o) (λo y hy=>by rw[<- g];show az o y hy) (g ▸ hv);rcases hv.at_ with e | ⟨o,ho,k1,k2⟩
      .omega
      .have:o∈ne.filter L:=yp.mpr ⟨(R o).mpr ⟨ho,k1⟩,by rw[aj];show yz (by lk)⟩;rw[h] at this;cases this
     generalize ne.filter L=D at l2 as non;show⟨by rw[ya];show yN (jt (by lk)),λlw ap=>?_⟩;have s2:=qC s1 (o:=.lst (D.map iV)) ap;have U:upd G2 lw (.lst (D.map iV)) lw=some (.lst (D.map iV)):=qb;generalize upd G2 lw (.lst (D.map iV))=J2 at s2 U;apply⟨wqqc,λlz aq=>?_⟩;have s3:=qC s2 (o:=.lst []) aq;have e3:upd J2 lz (.lst []) lz=some (.lst []):=qb;have U:=qC (Sr J2) (o:=.lst []) aq _ _ U;generalize upd J2 lz (.lst [])=J3 at s3 e3 U;have au:lw≠p:=λz=>by obtain⟨_,_,_,e,_⟩:=pJ.same s1;rw[<- z,ap] at e;cases e
     have p3:=pJ.same s3;have b3:But p H J3:=λc o n e=>s3 _ _ (bJ c o n e);have z3:=hz.same s3;show .inl (.inl (eq_nilI U e3 ?_));have go:∀{G:Hp} {y7 y8 y9 bi:Option V},But p J3 G->Pu G p->tbQ tps ss r=tbQ tps ss room->But p H G/\Pu G p/\∃(room:Nat) (t:List (Addr×(Nat×Nat))) (x6 x7 x8 x9 S:Option V),[some (V.ref p),some (.int (ss.length:Int)),some (.ref lb),some (.ref lt),some (.int (r:Int)),some (.ref A),some (.int (i:Int)),y7,y8,y9,bi]=[some (.ref p),some (.int (ss.length:Int)),some (.ref lb),some (.ref lt),some (.int (room:Int)),some (.ref A),x6,x7,x8,x9,S]/\IPZ G A t/\(∀ z∈t,z.1≠p)/\GsI tps ss TI (i+1) room (t.map Prod.snd):=λb pg e=>⟨λc o n e=>b c o n (b3 c o n e),pg,r,t,_,_,_,_,_,rfl,⟨b _ _ Z z3.1,λz h=>b _ _ (B z h) (z3.2 z h)⟩,B,g ▸ I.drop (g ▸ e)⟩;show⟨_,rfl,qL (λh=>?_) λh=>?_⟩
     .have bb:D=[]:=by
       cases D with
       | nil=>rfl
       | cons _ _=>cases h
      show zX ?_;apply go (λc o _ e=>e) p3 (non bb)
     .have bc:0<D.length:=by
       cases D with
       | nil=>show absurd rfl h
       | cons _ _=>show Nat.succ_pos _
      show(?cA:∀ KK:Bool->Hp->Prop,(∀ G,But p J3 G->Pu G p->tbQ tps ss r=tbQ tps ss room->KK true G)->(∀ G,But p J3 G->Pu G p->KK false G)->qg2 _ _ _ J3 KK) _ (λG bG pG e=>?_) (λG bG pG=>?_)
      case' cA =>
       intro KK k1 k2;have ac:=s3 _ _ ad;apply .inl (zo ac (qt (tg _ ae)) ?_);apply .inl (zo ac (qt (tg _ I.lt)) ?_);apply qav ?_;show⟨_,rfl,qL (λh=>?_) λh=>k2 _ (λc o _ e=>e) p3⟩;have h:=yk h;apply⟨p,2,rfl,p3,by decide,by decide,λd J4 hd b4 p4=>?_⟩;apply qav ?_;show⟨_,rfl,?_⟩
       cases bj:decide ((d:Int)=0) with
       | true=>show k1 _ b4 p4 (by lk)
       | false=>show k2 _ b4 p4
      .show zX ?_;apply go bG pG e
      .show yq ?_;have al:=bG _ _ au U;apply j6 al ?_;rw[ya];apply⟨p,D.length,rfl,pG,bc,by lk,λd J5 hd b5 p5=>?_⟩;have ed:D[d]?=some D[d]:=yb hd;obtain⟨o,eo⟩:∃ o,o=D[d]:=⟨_,rfl⟩;rw[<- eo] at ed;obtain⟨o1,o2,o3⟩:=as o (ye ed);have af:But p J3 J5:=λc o n e=>b5 c o n (bG c o n e);have av:=b5 _ _ au al;apply .inl (zo av (v:=iV o) (qt (by rw[yd,ed];rfl)) ?_);ext;have z5:IPZ J5 A t:=⟨af _ _ Z z3.1,λz h=>af _ _ (B z h) (z3.2 z h)⟩;show⟨.inl ⟨rfl,_,.of z5.1⟩,?_⟩;apply⟨wqqe,λtt O=>?_⟩;have s6:=qC (Sr J5) (o:=.tup [.int (i:Int),iV o]) O;have e6:upd J5 tt (.tup [.int (i:Int),iV o]) tt=some (iT (i,o)):=qb;have bh:tt≠p:=λz=>by obtain⟨_,_,_,e,_⟩:=p5;rw[<- z,O] at e;cases e
       generalize upd J5 tt (.tup [.int (i:Int),iV o])=J6 at s6 e6;have z6:=z5.same s6;have p6:=p5.same s6;have zl:t.length<=12:=by have:=I.few;rw[ya] at this;lk
       show⟨A,_,_,rfl,rfl,z6.1,by rw[ya];show jt (by lk),?_⟩;apply vI ⟨by lk,by lk,by decide⟩ ?_;apply vU ?_;ext;rw[pwI,jk];have be:tt≠A:=λz=>by rw[z] at O;rw[z5.1] at O;cases O
       have W:r.testBit o=true:=by rw[Y,Y6,yL] at o2;show o2.1
       have am:zY bs i o=true:=by rw[Y,Y6,yL] at o2;show o2.2
       have bm:i<o:=by
        rw[g,qY,Yj,yL] at W;show yX λc=>?_;by_cases z:o=i
        .have:=W.2;rw[yz z.symm] at this;cases this
        .have:=I.lo o (by lk);rw[W.1] at this;cases this
       have aw:(i,o)∈TI:=by
        rcases(ag.2.2 i o).mp am with z | z
        .show z
        .have:=hj.2.1 _ z;simp at this;lk
       show⟨λc u n e=>?_,?_,q9 r (2 ^ o),t++[(tt,(i,o))],_,_,_,_,_,rfl,⟨?_,λz ak=>?_⟩,λz ak=>?_,?_⟩
       .rw [qi (λz=>by rw[z,X] at e;cases e)];show s6 _ _ (af c u n (b3 c u n e))
       .obtain⟨x1,x2,x3,e,k⟩:=p6;show⟨x1,x2,x3,by rw[qi (YI Z)];show e,k⟩
       .rw [qb,yt];rfl
       .rcases yG.mp ak with z | z
        .have e9:=z6.2 _ z;rw[qi λy=>by rw[y,z6.1] at e9;cases e9];show e9
        .rw [yC.mp z,qi be];show e6
       .rcases yG.mp ak with z | z
        .show B _ z
        .rw [yC.mp z];show bh
       .rw [yt];show g ▸ I.pair ah o1 hb (g ▸ W) aw (g ▸ o3)
  .obtain⟨bJ,pJ,room,t,x6,x7,x8,x9,S,rfl,hz,B,I⟩:=ai;apply q A t J bJ pJ X Z hz (λz h=>I.inn _ (xD h)) I.nd (by have:=I.few;rwa[ya] at this) (by have:=I.done;rwa[ya] at this)
theorem mx_of_mo(W:Wt cw H x ss ns tps)(g:PGo ss tps qs)(e:qs.length=mo tps ss.length ss):MxF ss tps qs:=by
 have inn:∀ a b,tA tps a b->a∈ss:=λa b z=>z.elim (λy=>(W.ok _ y).1) λy=>(W.ok _ y).2.1;show fn_ex (g.grt W.ir) inn W.wok.nd λr h=>?_
 have j:∀ s∈r,s∈ss:=λs l=>by
  obtain⟨i,c⟩:=yf l;have f:=(yc.mp c).1;have m:=h.two;by_cases z:i+1<r.length
  .show inn _ _ (h.st i s _ c (yb z)).1
  .have:=(h.st (i-1) r[i-1] s (yb (by lk)) (by rw[show i-1+1=i by lk];show c)).1;show inn _ _ this.symm
 have hl:r.length<=ss.length:=qb7 h.nd j;have:=W.wok.few;obtain⟨d,n⟩:=turn_ok W.wok W.adj W.ok g h (by lk);have:=qb3 W.ir ss.length (yh _) W.wok.nd d.mt;have:=d.cnt W.wok.nd;lk
def qbH(qs:LP)(bar:LS)(a:Str):Bool:=match pt qs a with
 | none=>true
 | some b=>decide (b∈bar)
def pwQ(qs:LP)(bar:LS)(P:LS):Str×LS:=match P.find? (qbH qs bar) with
 | none=>("even",[])
 | some a=>match pt qs a with
  | none=>("single",[a])
  | some b=>("bar",[a,b])
def alQ(qs:LP)(P:LS):LS:=P.filter λa=>!(pt qs a).isSome
def otB(qs:LP)(bar:LS)(a:Str):Bool:=match pt qs a with
 | none=>false
 | some b=>decide (b∈bar)
def otQ(qs:LP)(bar P:LS):LS:=P.filter (otB qs bar)
def qgT(qs:LP)(bar P:LS):Prop:=∀ a∈P,∀ b∈P,qbH qs bar a=true->qbH qs bar b=true->a=b
theorem outF_iff{bar:LS}{a:Str}:qbH qs bar a=true↔qfK (pt qs) bar a:=by
 unfold qbH qfK
 cases e:pt qs a with
 | none=>simp
 | some b =>
  simp only[yJ,reduceCtorEq,false_or,Option.some.injEq];show⟨λh=>⟨b,h,rfl⟩,λ⟨c,h1,d⟩=>d ▸ h1⟩
theorem one_out{bar:LS}(g:PGo ss tps qs)(C:PcsOk ss tps bar ps)(S:Shp ss (pt qs) bar ps){P:LS}(f:P∈ps):qgT qs bar P:=λa n b hb h1 r=>by
 have m:∀{c},c∈P->qfK (pt qs) bar c->qbr P=true:=λ{c} hc h=>by
  rcases h with e | ⟨d,hd,e⟩
  .obtain⟨p,l,j,s⟩:=S.al c ((C.h1 P f).2.1 c hc).1 e;rw[qcC C.h2 f l hc s];show j
  .obtain⟨p,l,j,t,i,q⟩:=S.br d hd;have:=g.mt.sym _ _ e;rw[q] at this;cases this;rw[qcC C.h2 f l hc i];show j
 obtain⟨c,_,_,o⟩:=S.on P f (m n (outF_iff.mp h1));rw[o a n (outF_iff.mp h1),o b hb (outF_iff.mp r)]
theorem qfr{p:Str->Bool}{P:LS}(d:P.Nodup){a:Str}(c:a∈P)(h1:p a=true)(h:∀ b∈P,p b=true->b=a):P.filter p=[a]:=by
 have e:(P.filter p).Perm [a]:=(XE (d.filter _) (kf _ _)).mpr λb=>by
  rw[yp,yC];show⟨λz=>h b z.1 z.2,λz=>z ▸ ⟨c,h1⟩⟩
 show List.perm_singleton.mp e
theorem pw_law{bar P:LS}(l:P.Nodup)(h:qgT qs bar P):((alQ qs P=[]/\otQ qs bar P=[]/\pwQ qs bar P=(("even":Str),[]))\/(∃ a,alQ qs P=[a]/\otQ qs bar P=[]/\pwQ qs bar P=(("single":Str),[a]))\/∃ a b,alQ qs P=[]/\otQ qs bar P=[a]/\pt qs a=some b/\pwQ qs bar P=(("bar":Str),[a,b])):=by
 cases f:P.find? (qbH qs bar) with
 | none =>
  have m:=List.find?_eq_none.mp f;show .inl ⟨xG.mpr λa d z=>?_,xG.mpr λa d z=>?_,by unfold pwQ;rw[f]⟩
  .have:=m a d;unfold qbH at this
   cases e:pt qs a with
   | none=>rw[e] at this;simp at this
   | some b=>rw[e] at z;simp at z
  .have:=m a d;unfold qbH at this;unfold otB at z
   cases e:pt qs a with
   | none=>rw[e] at z;simp at z
   | some b=>rw[e] at this z;show this z
 | some a =>
  have d:=List.mem_of_find?_eq_some f;have g:qbH qs bar a=true:=List.find?_some f;have i:∀ b∈P,qbH qs bar b=true->b=a:=λb hb k=>h b hb a d k g
  have j:∀ b,(!(pt qs b).isSome)=true->qbH qs bar b=true:=λb k=>by
   unfold qbH
   cases e:pt qs b with
   | none=>rfl
   | some c=>rw[e] at k;cases k
  have n:∀ b,otB qs bar b=true->qbH qs bar b=true:=λb k=>by
   unfold qbH;unfold otB at k
   cases e:pt qs b with
   | none=>rfl
   | some c=>rw[e] at k;show k
  show .inr ?_
  cases e:pt qs a with
  | none =>
   show .inl ⟨a,qfr l d (by rw[e];rfl) λb hb k=>i b hb (j b k),xG.mpr λb hb k=>?_,by unfold pwQ;rw[f];dsimp only;rw[e]⟩;have:=i b hb (n b k);subst this;unfold otB at k;rw[e] at k;cases k
  | some c =>
   have hc:decide (c∈bar)=true:=by unfold qbH at g;rw[e] at g;show g
   show .inr ⟨a,c,xG.mpr λb hb k=>?_,qfr l d (by unfold otB;rw[e];show hc) λb hb k=>i b hb (n b k),e,by unfold pwQ;rw[f];dsimp only;rw[e]⟩;have:=i b hb (j b k);subst this;rw[e] at k;cases k
def qfz(bs gs:LN)(ss:LS)(qs:LP):List (LS×Str×LS):=((pcJ bs gs ss.length).map λc=>c.map (tn ss)).map λP=>(P,pwQ qs (gs.map (tn ss)) P)
section
variable{cw x:Addr}{H:Hp}{ss:LS}{ns bs gs:LN}{TI:List (Nat×Nat)}{qs:LP}
theorem qew(W:Wt cw H x ss ns (TI.map (nmP ss)))(B:BarJ ss TI bs gs)(g:PGo ss (TI.map (nmP ss)) qs)(b:zF bs gs ss.length qs.length=true):∀ P∈(pcJ bs gs ss.length).map λc=>c.map (tn ss),P.Nodup/\qgT qs (gs.map (tn ss)) P:=λP a=>by
 have C:=qfm B;have e:=g.cnt W.wok.nd;have d:=yk b;show⟨(C.h1 P a).1,one_out g C (sharp g.mt W.ir C.h1 C.h2 ?_) a⟩;rw[qgS,ya];lk
end
theorem ua:FnScope wqT wq0 (qg jV):=fS
theorem ug:FnScope ["partners","piece","bar","place","partner"] wqO (qg zW):=fS
theorem qfs{p:Str->Bool}:∀{P:LS} {i:Nat} {a:Str},(∀ b∈P.take i,p b=false)->P[i]?=some a->p a=true->P.find? p=some a
 | x::r,0,a,_,h,ha=>by cases h;rw[List.find?_cons_of_pos ha]
 | x::r,i+1,a,h1,h,ha=>by
  rw[List.find?_cons_of_neg (by rw[h1 x (by simp)];decide)];have c:∀ b∈r.take i,p b=false:=λb hb=>h1 b (by simp[hb]);show qfs c (by simpa using h) ha
theorem isN9{Q:VK}(q:Q (.bl (decide (v=.non))) H):qg9 v .non H Q:=by cases v<;>show q
theorem qdN{n:Addr}{z:Str}{Q:VK}(a:H n=some (.lst (ss.map V.str)))(q:Q (.bl (decide (z∈ss))) H):qf2 K false (.str z) (.ref n) H Q:=
 .inl ⟨n,_,rfl,.inl (.of a),rfl,Yr.mpr λx b=>by(obtain⟨s,_,rfl⟩:=yB.mp b;rfl),by rw[yD (by decide),qdD];show q⟩
def PtA(H:Hp)(t:Addr)(q:LS×Str×LS):Prop:=∃ a b,H t=some (.tup [.ref a,.str q.2.1,.ref b])/\H a=some (.lst (q.1.map V.str))/\H b=some (.lst (q.2.2.map V.str))
theorem PtA.same{q:LS×Str×LS}(h:PtA H t q)(s:L2.Same H H'):PtA H' t q:=by
 obtain⟨a,b,h1,c,d⟩:=h;show⟨a,b,s _ _ h1,s _ _ c,s _ _ d⟩
def PtN(H0 H:Hp)(t:Addr)(q:LS×Str×LS):Prop:=∃ a b,H t=some (.tup [.ref a,.str q.2.1,.ref b])/\H a=some (.lst (q.1.map V.str))/\H b=some (.lst (q.2.2.map V.str))/\H0 a=none/\H0 b=none
theorem PtN.pa{q:LS×Str×LS}(h:PtN H0 H t q):PtA H t q:=by
 obtain⟨a,b,h1,c,d,_⟩:=h;show⟨a,b,h1,c,d⟩
theorem PtN.same{q:LS×Str×LS}(h:PtN H0 H t q)(s:L2.Same H H'):PtN H0 H' t q:=by
 obtain⟨a,b,h1,c,d,e⟩:=h;show⟨a,b,s _ _ h1,s _ _ c,s _ _ d,e⟩
inductive spPw(vs:List V)(H:Hp)(Q:VK)(E:XK):Prop|mk (d a r:Addr) (qs:LP) (P bar:LS) (_:vs=[.ref d,.ref a,.ref r]) (_:H d=some (.dK (prK qs))) (_:H a=some (.lst (P.map V.str))) (_:H r=some (.lst (bar.map V.str))) (_:∀(t b:Addr) (H':Hp),L2.Same H H'->H' t=some (.tup [.ref a,.str (pwQ qs bar P).1,.ref b])->H' b=some (.lst ((pwQ qs bar P).2.map V.str))->H b=none->Q (.ref t) H')
inductive spPo(cw:Addr)(vs:List V)(H:Hp)(Q:VK)(E:XK):Prop|mk (p x l r:Addr) (ss:LS) (ns:LN) (TI:List (Nat×Nat)) (bs gs:LN) (us:LI) (qs:LP) (_:vs=[.ref x,.ref l,.ref r]) (_:WBar cw H x r ss ns TI bs gs) (_:PL H l us qs) (_:PGo ss (TI.map (nmP ss)) qs) (_:zF bs gs ss.length qs.length=true) (_:∀(o:Addr) (ts:LI) (H':Hp),L2.Same H H'->H o=none->H' o=some (.lst (ts.map V.ref))->All2 (PtN H H') ts (qfz bs gs ss qs)->Q (.ref o) H')
def PoB(p cw:Addr)(H:Hp)(x:Addr)(ss:LS)(ns:LN)(TI:List (Nat×Nat))(bs:LN)(v u:V)(r:Nat×V):Prop:=
 (BdA p cw H x ss ns (TI.map (nmP ss)) v/\r=(0,v))\/∃ l us qs,v=.ref l/\PL H l us qs/\PGo ss (TI.map (nmP ss)) qs/\Th p H 3 u/\BrO p cw H x ss ns TI bs qs u false/\r=(1,u)
inductive spPoB(cc:Nat->Addr)(cw:Addr)(vs:List V)(H:Hp)(u2_:VK)(E:XK):Prop|mk (p x:Addr) (ss:LS) (ns:LN) (TI:List (Nat×Nat)) (bs:LN) (v u:V) (r:Nat×V) (_:vs=[.ref x,v,u]) (_:Wt cw H x ss ns (TI.map (nmP ss))) (_:PoB p cw H x ss ns TI bs v u r) (_:Rz cc H E r)
def spPnG(cc:Nat->Addr)(cw:Addr):Sp:=λvs H Q E=>spPn cw vs H Q E\/spPnB cc cw vs H Q E
theorem FnOk.or{P:Program}{w:World}{base:Heap}{CX:CXT}{k:Nat}{f:Addr}{fd:FuncData}{ps:LS}{b c:Sp}(d:FnOk P w K mg base CX k f fd ps b)(e:FnOk P w K mg base CX k f fd ps c):FnOk P w K mg base CX k f fd ps (λvs H Q E=>b vs H Q E\/c vs H Q E):=
 ⟨λvs H Q E h=>h.elim (d.len vs H Q E) (e.len vs H Q E),λA a s H args us vs Q E i g hb hv j=>j.elim (d.run A a s H args us vs Q E i g hb hv) (e.run A a s H args us vs Q E i g hb hv)⟩
theorem ok_pw(F:Fun K "part_with" "part_with" zW f fd)(T:Txt K mg cc cw):wqqb 1 f fd wqO spPw:=by
 show F.ok ug λ_ _ _ _ H vs Q E R h=>?_
 .obtain⟨d,a,r,qs,P,bar,rfl,M,L,hb,q⟩:=h;have N:=za R;show⟨_,(qc (qR yW rfl (qK (K:=K) rfl (pv 1)) (qm (i:=3) ug.nd rfl (yF rfl))
 (qc (qk (i:=4) ug.nd rfl (yF rfl) (pe_dget1 (qhu N) (pv 0) (pv 3) ⟨rfl,rfl,rfl,rfl⟩))
 (qc (qN (qq u_is (pv 4) qcP (qB _)) (qe (qr (jg (qa (pv 1) (qa qI (qa (qz (qa (pv 3) qd)) qd)))))) qw)
 (qe (qN (qq (qbp (K:=K) rfl N) (pv 4) (pv 2) (by with_unfolding_all rfl)) (qe (qr (jg (qa (pv 1) (qa qI (qa (qz (qa (pv 3) (qa (pv 4) qd))) qd)))))) qw)))))
 (qe (qr (jg (qa (pv 1) (qa qI (qa (qz qd) qd))))))),?_⟩
  apply .inl ⟨⟨_,.of L⟩,qO (xs:=P.map V.str) (λi B J=>J=H/\(∃ G I,B=[some (.ref d),some (.ref a),some (.ref r),G,I])/\∀ z∈P.take i,qbH qs bar z=false) ⟨rfl,⟨_,_,rfl⟩,λz h=>by cases h⟩ (λi B J _ u=>by rw[u.1];show .of L) (λi y B J v u=>?_) λB J u=>?_⟩
  .obtain⟨rfl,⟨G,I,rfl⟩,p⟩:=u;rw[yd] at v;obtain⟨z,A,rfl⟩:=yn.mp v
   have n:∀(e:qbH qs bar z=true) (ns:LS) (D:Str),pwQ qs bar P=(D,ns)->ns.length<=2->∀(b t:Addr),J b=none->(upd J b (.lst (ns.map V.str))) t=none->Q (.ref t) (upd (upd J b (.lst (ns.map V.str))) t (.tup [.ref a,.str D,.ref b])):=λe ns D m _ b t j g=>by
    have x:=qC (Sr J) (o:=.lst (ns.map V.str)) j;have l:upd J b (.lst (ns.map V.str)) b=some (.lst (ns.map V.str)):=qb;generalize upd J b (.lst (ns.map V.str))=C at x l g;show q t b _ (qC x g) (by rw[m];show qb) (by rw[m];show qC (Sr C) g _ _ l) j
   have O:qbH qs bar z=true->P.find? (qbH qs bar)=some z:=qfs p A;apply vDGet1 ?_;apply⟨d,rfl,.inl ⟨_,.inl M⟩,?_⟩;apply⟨_,DGet.k (k:=Sum.inr z) M,?_⟩;rw[qah];apply isN9 ?_
   cases e:pt qs z with
   | none =>
    have s:qbH qs bar z=true:=by unfold qbH;rw[e]
    rw[show decide ((Option.map V.str (none:Option Str)).getD V.non=V.non)=true from rfl];show⟨_,rfl,zX ?_⟩;apply⟨wqqd,λb j=>?_⟩;apply⟨wqqf,λt g=>?_⟩;show n s [z] "single" (by unfold pwQ;rw[O s];dsimp only;rw[e]) (by simp) b t j g
   | some c =>
    rw[show decide ((Option.map V.str (some c)).getD V.non=V.non)=false from rfl];show⟨_,rfl,qL (λh=>by cases h) λ_=>?_⟩;apply qdN (z:=c) hb ?_;by_cases hc:c∈bar
    .have s:qbH qs bar z=true:=by unfold qbH;rw[e];show yz hc
     rw[yz hc];show⟨_,rfl,zX ?_⟩;apply⟨wqqe,λb j=>?_⟩;apply⟨wqqf,λt g=>?_⟩;show n s [z,c] "bar" (by unfold pwQ;rw[O s];dsimp only;rw[e]) (by simp) b t j g
    .rw [yl hc];show⟨_,rfl,qL (λh=>by cases h) λ_=>?_⟩;show⟨rfl,⟨_,_,rfl⟩,λy v=>?_⟩;rw[yO,A] at v;rcases yG.mp v with h | h
     .show p y h
     .have:y=z:=by simpa using h
      subst this;unfold qbH;rw[e];show yl hc
  .obtain⟨rfl,⟨G,I,rfl⟩,p⟩:=u;rw[show(P.map V.str).length=P.length from ya _,yT] at p
   have m:pwQ qs bar P=(("even":Str),[]):=by
    unfold pwQ;rw[List.find?_eq_none.mpr λz A=>by rw[p z A];decide]
   apply⟨wqqc,λb j=>?_⟩;have x:=qC (Sr J) (o:=.lst []) j;have l:upd J b (.lst []) b=some (.lst (([]:LS).map V.str)):=qb;generalize upd J b (.lst [])=C at x l;apply⟨wqqf,λt g=>?_⟩;show q t b _ (qC x g) (by rw[m];show qb) (by rw[m];show qC (Sr C) g _ _ l) j
theorem ok_po(F:Fun K "parts_of" "parts_of" jV f fd)(T:Txt K mg cc cw)(KZ:wq9 9 "partners_in" wqG (spPn cw))(uN:wq9 12 "shows" wql (spSh cw))(KP:wq9 9 "pieces_beside" wqq (spPb cw))(uo:wq9 1 "part_with" wqO spPw):wqqb 13 f fd wq0 (spPo cw):=by
 show F.ok ua λ_ _ _ _ H vs Q E I h=>?_
 .obtain⟨p,x,l,r,ss,ns,TI,bs,gs,us,qs,rfl,n,Z,Y,hm,q⟩:=h;have hu:=za I;have W:=n.1;have B:=n.2.1;show⟨_,(qc (qk (i:=3) ua.nd rfl (Xg rfl) (qo KZ (hmR I) qy (qa (pv 0) (qa (pv 1) qd))))
 (qc (qN (qS (qQ (qo uN (hmR I) qy (qa (pv 0) (qa (jg (qa (pv 1) (qa (pv 2) qd))) qd))))) (qe jl) qw)
 (qe (qr (jh (sc:=qg jV) (XN:=wqT) wqP 1 [3,2] rfl rfl rfl (by room) rfl (by room)
  (qK (K:=K) rfl (qo KP (hmR I) qy (qa (pv 0) (qa (pv 2) qd)))) (λ_ _ _ _=>(qm (i:=0) (show(wqP:LS).Nodup by room) rfl (yF rfl))) qF
  (λ_ _ _ _=>jW)
  (λ_ _ _ _=>(qo uo (hmR I) qy (qa (pv 1) (qa (pv 0) (qa (pv 2) qd)))))))))),?_⟩
  apply⟨x,l,ss,ns,us,_,qs,rfl,W.web,W.adj,Z,Y,λd H1 s1 _ M=>?_⟩;apply⟨wqqe,λt ht=>?_⟩;have u:=qC s1 (o:=.tup [.ref l,.ref r]) ht;have X:upd H1 t (.tup [.ref l,.ref r]) t=some (.tup [.ref l,.ref r]):=qb;replace M:=qC (Sr H1) (o:=.tup [.ref l,.ref r]) ht _ _ M;generalize upd H1 t (.tup [.ref l,.ref r])=H2 at u X M;apply⟨x,x,t,l,ss,ns,TI,bs,us,qs,.ref r,true,rfl,W.same u,.inl ⟨r,gs,rfl,n.same u,hm.symm⟩,(B.th W n.2.2).same u,X,Z.same u,Y,λH3 s3=>?_⟩;have j:=u.trans s3;show⟨_,rfl,qL (λh=>by cases h) λ_=>?_⟩;apply⟨x,r,ss,ns,TI,bs,gs,rfl,n.same j,λo ls H4 s4 _ ho O=>?_⟩;have e:=j.trans s4;have few:=qcH bs gs ss.length;have aa:=B.ok.few;generalize A:(pcJ bs gs ss.length).map (λc=>c.map (tn ss))=PS at O;have ac:PS.length<=14:=by rw[<- A,ya];lk
  have J:=O.len;have ep:qfz bs gs ss qs=PS.map λP=>(P,pwQ qs (gs.map (tn ss)) P):=by unfold qfz;rw[A]
  show .inl ⟨⟨_,.of ho⟩,qJ (xs:=ls.map V.ref) (λi N G=>L2.Same H4 G/\∃ ts:LI,N=ts.map V.ref/\All2 (PtN H G) ts ((PS.take i).map λP=>(P,pwQ qs (gs.map (tn ss)) P))) ⟨L2.Same.refl _,[],rfl,All2.nil⟩ (λi N G _ D=>.of (D.1 _ _ ho)) (λi y N G hy D=>?_) λN G D=>?_⟩
  .obtain⟨g,ts,rfl,s⟩:=D;rw[yd] at hy;obtain⟨a,ha,rfl⟩:=yn.mp hy;have R:=(yc.mp ha).1;obtain⟨L,v⟩:∃ L,PS[i]?=some L:=⟨_,yb (by rw[<- J];show R)⟩;obtain⟨U,na⟩:=O.at_ i a L ha v;have m:=s.len;rw[ya,yK] at m;apply zX ?_;apply⟨d,a,r,qs,L,_,rfl,(s3.trans s4 |>.trans g) _ _ M,g _ _ U,(n.same (e.trans g)).2.2,λt' b G2 S e1 e2 e3=>?_⟩;show⟨by rw[ya];show jt (by lk),g.trans S,ts++[t'],by rw[yt];rfl,?_⟩;rw[yO,v,yt];show(s.mono λ_ _ z=>z.same S).snoc ⟨a,b,e1,S _ _ (g _ _ U),e2,j.free na,(e.trans g).free e3⟩
  .obtain⟨g,ts,rfl,s⟩:=D;rw[show(ls.map V.ref).length=PS.length by rw[ya,J],yT] at s;have m:=s.len;rw[ya] at m;show⟨by rw[ya];show yN (jt (by lk)),λo2 C=>?_⟩;have s6:=qC (Sr G) (o:=.lst (ts.map V.ref)) C;show q o2 ts _ ((e.trans g).trans s6) ((e.trans g).free C) qb (by rw[ep];show s.mono λ_ _ z=>z.same s6)
theorem ok_poB(F:Fun K "parts_of" "parts_of" jV f fd)(T:Txt K mg cc cw)(s:DefOk P w K mg base (CX1 P w) 9 "partners_in" wqG (spPnG cc cw))(D:wq9 12 "shows" wql (spSh cw))(q:wq9 9 "pieces_beside" wqq (spPb cw))(G:wq9 1 "part_with" wqO spPw)(y:XMakeOk P w K mg base 2 (cc 1) "NoBar" wqv (spX (cc 1) (qfI 1))):FnOk P w K mg base (CX1 P w) 13 f fd wq0 (spPoB cc cw):=by
 show F.ok1 ua (λvs H Q E h=>?_) λ_ _ _ _ H vs Q E a h=>?_
 .cases h;subst_vars;rfl
 .obtain⟨p,x,ss,ns,TI,bs,v,u,r,rfl,W,z,j⟩:=h;have L:=za a;show⟨_,(qc (qk (i:=3) ua.nd rfl (Xg rfl) (qdt s (hmR a) qbV (qa (pv 0) (qa (pv 1) qd))))
 (qc (qN (qS (qQ (qo D (hmR a) qy (qa (pv 0) (qa (jg (qa (pv 1) (qa (pv 2) qd))) qd))))) (qe (qe0 (K:=K) rfl qbV (qgI y (hmR a) (qa (pv 2) qd)))) qw)
 (qe (qr (jh (sc:=qg jV) (XN:=wqT) wqP 1 [3,2] rfl rfl rfl (by room) rfl (by room)
  (qK (K:=K) rfl (qo q (hmR a) qy (qa (pv 0) (qa (pv 2) qd)))) (λ_ _ _ _=>(qm (i:=0) (show(wqP:LS).Nodup by room) rfl (yF rfl))) qF
  (λ_ _ _ _=>jW)
  (λ_ _ _ _=>(qo G (hmR a) qy (qa (pv 1) (qa (pv 0) (qa (pv 2) qd)))))))))),?_⟩
  ext;rcases z with⟨hb,rfl⟩ | ⟨l,us,qs,rfl,n,m,c,e,rfl⟩
  .show .inr ⟨p,x,ss,ns,_,v,rfl,hb,j⟩
  .show .inl ⟨x,l,ss,ns,us,_,qs,rfl,W.web,W.adj,n,m,λd H1 B _ J=>?_⟩;apply⟨wqqe,λt A=>?_⟩;have b:=qC B (o:=.tup [.ref l,u]) A;have g:upd H1 t (.tup [.ref l,u]) t=some (.tup [.ref l,u]):=qb;generalize upd H1 t (.tup [.ref l,u])=H2 at b g;apply⟨p,x,t,l,ss,ns,TI,bs,us,qs,u,false,rfl,W.same b,e.same c b,c.same b,g,n.same b,m,λI C=>?_⟩;show⟨_,rfl,zX ?_⟩;apply qci (T.xat 1 (by decide)) (j.later (b.trans C))
theorem KF:FnScope wh wqj (qg qal):=fS
theorem qex{p:Str->Bool}{P:LS}{z:Str}(h:P[i]?=some z):(P.take (i+1)).filter p=(P.take i).filter p++(if p z=true then [z] else []):=by
 rw[yO,h,yZ];show _++[z].filter p=_;rw[yP,YA]
theorem fil_tk{p:Str->Bool}{P:LS}:((P.take i).filter p).length<=i:=yi (yI _ _) (by rw[yK];lk)
theorem outH_self{f:Addr}:qdi f (upd J f o)=qdi f J:=funext λc=>by
 unfold qdi;split
 .rfl
 .show qi (by assumption)
theorem ix_dK{d:Addr}{kvs:List (Key×V)}{Q:VK}(a:H d=some (.dK kvs))(e:zG kvs (.inr s:Key)=some v)(q:Q v H):qhd K (.ref d) (.str s) H Q:=.inr ⟨d,v,rfl,by rw[<- e];show DGet.k (k:=Sum.inr s) a,q⟩
theorem qhe{a:Str}{Q:VK}(q:Q (.bl (decide (a=b))) H):qgZ K (.str a) (.str b) H Q:=.inl (.inl (.inl ⟨rfl,rfl,by
 have c:(if (false:Bool)=true then !eqV (.str a) (.str b) else eqV (.str a) (.str b))=decide (a=b):=by
  rw[yD (by decide)];show(a==b)=_;rw[Yu];simp
 rw[c];show q⟩))
inductive spDu(vs:List V)(H:Hp)(Q:VK)(E:XK):Prop|mk (n bb l r:Addr) (ss:LS) (TI:List (Nat×Nat)) (bs gs:LN) (us:LI) (qs:LP) (_:vs=[.ref n,.ref bb,.ref l,.ref r]) (_:H n=some (.lst (ss.map V.str))) (_:H bb=some (.lst (zh bs))) (_:BarJ ss TI bs gs) (_:H r=some (.lst ((gs.map (tn ss)).map V.str))) (_:PL H l us qs) (_:PGo ss (TI.map (nmP ss)) qs) (_:(∀ P∈(pcJ bs gs ss.length).map λc=>c.map (tn ss),P.Nodup/\qgT qs (gs.map (tn ss)) P)) (_:∀(o:Addr) (ts:LI) (H':Hp),L2.Same H H'->H o=none->H' o=some (.lst (ts.map V.ref))->All2 (PtA H') ts (qfz bs gs ss qs)->Q (.ref o) H')
theorem ok_du(F:Fun K "_law_due" "_law_due" qal f fd)(T:Txt K mg cc cw)(uE:wq9 1 "_law_room" wqt spRmJ)(uu:wq9 1 "_law_pieces" wqp spPjJ):wqqb 2 f fd wqj spDu:=by
 show F.ok KF λ_ _ _ _ H vs Q E hr h=>?_
 .obtain⟨n,bb,l,r,ss,TI,bs,gs,us,qs,rfl,hn,bq,B,aa,hP,g,L,q⟩:=h;have hu:=za hr;have hf:=B.few;have ae:=B.ok.few;have few:=g.few;have ce:=hP.2.len
  have ac:("":Str)∉gs.map (tn ss):=λz=>by
   have:=B.ok.nm _ (B.inn _ z);rw[show jD ("":Str)=false by room] at this;cases this
  show⟨_,(qc (qk (i:=4) KF.nd rfl (yF rfl) (qj (jv (K:=K) rfl) rfl T.b_len Yt (qa (pv 0) qd)))
 (qc (j5 (sc:=qg qal) (XN:=wh) wqH 1 [0] rfl rfl rfl (by room) rfl (by room) (i:=5) KF.nd rfl rfl
  (qK (K:=K) rfl (pv 3)) (λ_ _ _ _=>(qm (i:=0) (show(wqH:LS).Nodup by room) rfl (yF rfl))) qF
  (λ_ _ _ _=>jW)
  (λ_ _ _ _=>(qcg (K:=K) rfl yV kc PySem.F.type_list_index (qe2 (K:=K) rfl) (pv 1) (qa (pv 0) qd))))
 (qc (qk (i:=6) KF.nd rfl (Xg rfl) j8)
 (qc (qR yW rfl (qc8 (K:=K) rfl (pv 2)) (qca rfl (jm (qm (i:=7) KF.nd rfl (yF rfl)) (jm (qm (i:=8) KF.nd rfl (yF rfl)) qbb)))
 (qc (jK (pv 8) (jJ (pv 6) (pv 7) (jN hu)))
 (qe (jK (pv 7) (jJ (pv 6) (pv 8) (jN hu))))))
 (qc (qk (i:=9) KF.nd rfl (yF rfl) (qz qd))
 (qc (qR yW rfl (qK (K:=K) rfl (qo uu (hmR hr) qy (qa (pv 4) (qa (pv 1) (qa (qo uE (hmR hr) qy (qa (pv 4) (qa (pv 5) qd))) qd))))) (qm (i:=10) KF.nd rfl (yF rfl))
 (qc (j5 (sc:=qg qal) (XN:=wh) wqu 1 [0] rfl rfl rfl (by room) rfl (by room) (i:=11) KF.nd rfl rfl
  (qK (K:=K) rfl (pv 10)) (λ_ _ _ _=>(qm (i:=0) (show(wqu:LS).Nodup by room) rfl (yF rfl))) qF
  (λ_ _ _ _=>jW)
  (λ_ _ _ _=>(qu (qv (K:=K) rfl hu) (pv 1) (pv 0) (λ_ _=>rfl))))
 (qc (j5 (sc:=qg qal) (XN:=wh) ["_law_place","_law_partner"] 1 [6] rfl rfl rfl (by room) rfl (by room) (i:=12) KF.nd rfl rfl
  (qK (K:=K) rfl (pv 11)) (λ_ _ _ _=>(qm (i:=0) (show(["_law_place","_law_partner"]:LS).Nodup by room) rfl (yF rfl))) qF
  (λ_ _ _ _=>(qP (qq (zQ (K:=K) rfl hu) (pv 0) (pv 1) (by with_unfolding_all rfl))))
  (λ_ _ _ _=>(pv 0)))
 (qc (j5 (sc:=qg qal) (XN:=wh) wq4 1 [6,3] rfl rfl rfl (by room) rfl (by room) (i:=13) KF.nd rfl rfl
  (qK (K:=K) rfl (pv 11)) (λ_ _ _ _=>(qm (i:=0) (show(wq4:LS).Nodup by room) rfl (yF rfl))) qF
  (λ_ _ _ _=>(qP (qq (qbp (K:=K) rfl hu) (pe_dget2 (qhu hu) (pv 1) (pv 0) qI ⟨rfl,rfl,rfl,rfl⟩) (pv 2) (by with_unfolding_all rfl))))
  (λ_ _ _ _=>(qz (qa (pv 0) (qa (qu (qv (K:=K) rfl hu) (pv 1) (pv 0) (λ_ _=>rfl)) qd)))))
 (qc (qk (i:=14) KF.nd rfl (yF rfl) (qu (qv (K:=K) rfl hu) (qz (qa qI (qa qI (qa qI qd)))) (qp (jp (K:=K) rfl) (qj (jv (K:=K) rfl) rfl T.b_len Yt (qa (pv 12) qd)) (qp qbo qf (qj (jv (K:=K) rfl) rfl T.b_len Yt (qa (pv 13) qd)))) (λ_ _=>rfl)))
 (qe (qW (qcg (K:=K) rfl yV Yb Yc qG (pv 9) (qa (jg (qa (pv 11) (qa (pv 14) (qa (pe_ifExp (qq (jS (K:=K) rfl hu) (pv 14) qI (qB _)) (qu (qv (K:=K) rfl hu) (pv 13) qf (λ_ _=>rfl)) (pv 12)) qd)))) qd)))))))))
 (qe (qr (pv 9))))))))),?_⟩
  apply j6 hn ?_;rw[ya];apply .inl ⟨⟨_,.of aa⟩,qJ (λi A J=>J=H/\A=(gs.take i).map iV) ⟨rfl,rfl⟩ (λi A J _ m=>by rw[m.1];show .of aa) (λi y A J M m=>?_) λA J m=>?_⟩
  .obtain⟨rfl,rfl⟩:=m;obtain⟨X,gi,rfl⟩:=jU M;rw[yd] at gi;obtain⟨k,Y,rfl⟩:=yn.mp gi;have bx:=B.lt k (ye Y);have bv:=(yc.mp Y).1;apply zX ?_;apply⟨.inl ⟨rfl,_,.of hn⟩,?_⟩;apply⟨n,ss,_,rfl,rfl,.of hn,qa0 bx,?_⟩;rw[qb0 B.ok.nd (jE bx)];show⟨by rw[ya,yK];show qh (by lk),rfl,by rw[yO,Y,yt];rfl⟩
  .obtain⟨rfl,rfl⟩:=m;rw[show((gs.map (tn ss)).map V.str).length=gs.length by rw[ya,ya],yT];show⟨by rw[ya];show yN (qh (by lk)),λgn hg=>?_⟩;have s1:=qC (Sr J) (o:=.lst (gs.map iV)) hg;have eg:upd J gn (.lst (gs.map iV)) gn=some (.lst (gs.map iV)):=qb;generalize upd J gn (.lst (gs.map iV))=H1 at s1 eg;ext;intro d hd;have s2:=qC s1 (o:=.dK []) hd;have ed:upd H1 d (.dK []) d=some (.dK (prK [])):=qb;have bu:=s1.free hd;replace eg:=qC (Sr H1) (o:=.dK []) hd _ _ eg;generalize upd H1 d (.dK [])=H2 at s2 ed eg;apply qe3 ?_;apply⟨l,_,rfl,.of (s2 _ _ hP.1),qO (xs:=us.map V.ref) (λi σ G=>L2.Same J G/\G gn=some (.lst (gs.map iV))/\∃ y7 y8,σ=[some (.ref n),some (.ref bb),some (.ref l),some (.ref r),some (.int (ss.length:Int)),some (.ref gn),some (.ref d),y7,y8,none,none,none,none,none,none]/\G d=some (.dK (prK (qs.take i)))) ⟨s2,eg,_,_,rfl,ed⟩ (λi σ G _ m=>.of (m.1 _ _ hP.1)) (λi y σ G M m=>?_) fun σ G m=>?_⟩
   .obtain⟨sG,eG,y7,y8,rfl,N⟩:=m;rw[yd] at M;obtain⟨b,bp,rfl⟩:=yn.mp M;have hi:i<us.length:=(yc.mp bp).1;obtain⟨ab,bo⟩:∃ ab,qs[i]?=some ab:=⟨_,yb (by rw[<- ce];show hi)⟩;have co:=sG _ _ (hP.2.at_ i b ab bp bo);obtain⟨cu,ah,n1,n2⟩:=g.new bo;have de:(prK (qs.take i)).length<=2000:=by rw[qe7,yK];lk
    have gd:gn≠d:=λz=>by rw[z,N] at eG;cases eG
    show⟨b,_,rfl,.of co,rfl,_,_,rfl,_,_,rfl,rfl,?_⟩;apply .inr ⟨d,_,rfl,DPut.k (k:=Sum.inr ab.1) N (by rw[xt];lk),?_⟩;have s3:=qdy sG (o:=.dK (qaM (prK (qs.take i)) (Sum.inr ab.1) (.str ab.2))) bu;have e3:upd G d (.dK (qaM (prK (qs.take i)) (Sum.inr ab.1) (.str ab.2))) d=some (.dK (qaM (prK (qs.take i)) (Sum.inr ab.1) (.str ab.2))):=qb;have bc:upd G d (.dK (qaM (prK (qs.take i)) (Sum.inr ab.1) (.str ab.2))) gn=_:=(qi gd).trans eG;generalize upd G d (.dK (qaM (prK (qs.take i)) (Sum.inr ab.1) (.str ab.2)))=G3 at s3 e3 bc;apply .inr ⟨d,_,rfl,DPut.k (k:=Sum.inr ab.2) e3 ?_,?_⟩
    .have:=ze (prK (qs.take i)) (Sum.inr ab.1:Key) (.str ab.2);rw[xt];lk
    .show⟨qdy s3 bu,by rw[qi gd];show bc,_,_,rfl,by rw[qb,qe8 ah,cu]⟩
   .obtain⟨sG,eG,y7,y8,rfl,N⟩:=m;rw[show(us.map V.ref).length=qs.length by rw[ya,ce],yT] at N
    have cd:∀ c∈pcJ bs gs ss.length,∀ k∈c,k<ss.length:=λc hc k Y=>by
     unfold pcJ at hc;obtain⟨r,_,rfl⟩:=yB.mp hc;unfold qaw at Y;show Yh.mp (yp.mp Y).1
    have br:∀ c∈pcJ bs gs ss.length,c.length<=14:=λc hc=>by
     unfold pcJ at hc;obtain⟨r,_,rfl⟩:=yB.mp hc;unfold qaw;show yi (yI _ _) (by rw[YE];show ae)
    have ca:∀ c∈pcJ bs gs ss.length,c≠[]:=λc hc e=>by
     unfold pcJ at hc;obtain⟨k,Y,ek⟩:=yB.mp hc
     have:k∈qaw bs (rmJ gs ss.length) ss.length k:=by
      classical
      show yp.mpr ⟨(yp.mp Y).1,yz .zero⟩
     rw[ek,e] at this;cases this
    have cj:=yi (qcH bs gs ss.length) ae;apply⟨wqqc,λo ho=>?_⟩;have s3:=qC (Sr G) (o:=.lst []) ho;have eo:upd G o (.lst []) o=some (.lst (([]:LI).map V.ref)):=qb;generalize upd G o (.lst [])=G1 at s3 eo;apply⟨gn,ss.length,gs,rfl,ae,s3 _ _ eG,λG2 s4=>?_⟩;have as:=s3.trans s4;have ck:=sG.trans as;apply⟨bb,ss.length,rmJ gs ss.length,bs,rfl,ae,ck _ _ bq,B.bt.1,B.bt.2.1,B.bt.sym,(qb4 gs ss.length).1,λl' ls G3 s5 an bz hA=>?_⟩;have hA:All2 (λa ks=>G3 a=some (.lst (ks.map iV))) ls (pcJ bs gs ss.length):=hA
    have q:∀(o:Addr) (ts:LI) (H':Hp),L2.Same J H'->J o=none->H' o=some (.lst (ts.map V.ref))->All2 (PtA H') ts ((pcJ bs gs ss.length).map λc=>(c.map (tn ss),pwQ qs (gs.map (tn ss)) (c.map (tn ss))))->Q (.ref o) H':=by
     intro o ts H' h1 h2 h3 h4;show q o ts H' h1 h2 h3 ?_;unfold qfz;rw[XH];show h4
    have L:∀ c∈pcJ bs gs ss.length,(c.map (tn ss)).Nodup/\qgT qs (gs.map (tn ss)) (c.map (tn ss)):=λc hc=>L _ (xD hc);generalize pcJ bs gs ss.length=PS at hA cd br cj q L ca;generalize gs.map (tn ss)=bar at aa ac q L;have cf:=hA.len;have ai:=as.trans s5;have dc:=sG.trans ai;have bi:=(s4.trans s5) _ _ eo;have cy:l'≠o:=λz=>by rw[z,s4 _ _ eo] at an;cases an
    have cx:∀{a:Addr} {c:LN},G3 a=some (.lst (c.map iV))->c≠[]->a≠o:=λ{a c} e h z=>by
     rw[z,bi] at e
     cases c with
     | nil=>show h rfl
     | cons k r=>cases e
    have ar:∀{c:Addr} {x:HO},G c=some x->c≠o:=λe z=>by rw[z,ho] at e;cases e
    clear eo s3 s4 s5 as ck bq an;show .inl ⟨⟨_,.of bz⟩,qO (xs:=ls.map V.ref) (λi σ U=>L2.Same (qdi o G3) (qdi o U)/\∃(ts:LI) (y7 y8 av aw ax ay az:Option V),σ=[some (.ref n),some (.ref bb),some (.ref l),some (.ref r),some (.int (ss.length:Int)),some (.ref gn),some (.ref d),y7,y8,some (.ref o),av,aw,ax,ay,az]/\U o=some (.lst (ts.map V.ref))/\All2 (PtA (qdi o U)) ts ((PS.take i).map λc=>(c.map (tn ss),pwQ qs bar (c.map (tn ss))))) ⟨L2.Same.refl _,[],_,_,_,_,_,_,_,rfl,bi,All2.nil⟩ (λi σ U _ m=>?_) (λi y σ U M m=>?_) fun σ U m=>?_⟩
    .show .of (zB o U _ _ (m.1 _ _ (by rw[zE cy];show bz)))
    .obtain⟨sU,ts,y7,y8,av,aw,ax,ay,az,rfl,O,hT⟩:=m;rw[yd] at M;obtain⟨a,ha,rfl⟩:=yn.mp M;have bv:=(yc.mp ha).1;obtain⟨c,hc⟩:∃ c,PS[i]?=some c:=⟨_,yb (by rw[<- cf];show bv)⟩;have ag:=ye hc;have kp:∀{c:Addr} {x:HO},c≠o->G3 c=some x->U c=some x:=λn e=>zB o U _ _ (sU _ _ (by rw[zE n];show e));have bd:=hA.at_ i a c ha hc;have ba:=br c ag;have nU:=kp (ar (sG _ _ hn)) (ai _ _ (sG _ _ hn));have dU:=kp (ar N) (ai _ _ N);have rU:=kp (ar (sG _ _ aa)) (ai _ _ (sG _ _ aa));obtain⟨ah,cb⟩:=L c ag;ext;have be:=kp (cx bd (ca c ag)) bd;show .inl ⟨⟨_,.of be⟩,qJ (xs:=c.map iV) (λj A V'=>V'=U/\A=((c.take j).map (tn ss)).map V.str) ⟨rfl,rfl⟩ (λj A V' _ m=>by rw[m.1];show .of be) (λj y A V' M m=>?_) λA V' m=>?_⟩
     .obtain⟨rfl,rfl⟩:=m;rw[yd] at M;obtain⟨k,Y,rfl⟩:=yn.mp M;have bw:=(yc.mp Y).1;apply zX ?_;apply qcz nU (cd c ag k (ye Y)) ?_;show⟨by rw[ya,ya,yK];show jt (by lk),rfl,by rw[yO,Y,yt,yt];rfl⟩
     .obtain⟨rfl,rfl⟩:=m;rw[show(c.map iV).length=c.length from ya _,yT];have Pl:(c.map (tn ss)).length<=14:=by rw[ya];show ba
      generalize cr:c.map (tn ss)=s at ah cb Pl;show⟨by rw[ya];show yN (jt (by lk)),λpa ao=>?_⟩;have s6:=qC (Sr V') (o:=.lst (s.map V.str)) ao;have u:upd V' pa (.lst (s.map V.str)) pa=some (.lst (s.map V.str)):=qb;have da:pa≠o:=λz=>by rw[z,O] at ao;cases ao
      generalize upd V' pa (.lst (s.map V.str))=U1 at s6 u;apply .inl ⟨⟨_,.of u⟩,qJ (xs:=s.map V.str) (λj A D=>D=U1/\A=(alQ qs (s.take j)).map V.str) ⟨rfl,rfl⟩ (λj A D _ m=>by rw[m.1];show .of u) (λj y A D M m=>?_) λA D m=>?_⟩
      .obtain⟨rfl,rfl⟩:=m;obtain⟨X,gi,rfl⟩:=jU M;have bw:=(yc.mp gi).1;have cs:(alQ qs (s.take j)).length<=j:=fil_tk;have ap:alQ qs (s.take (j+1))=alQ qs (s.take j)++(if (!(pt qs X).isSome)=true then [X] else []):=qex gi;apply .inr (.inl ⟨d,_,rfl,DGet.k (k:=Sum.inr X) (s6 _ _ dU),?_⟩);rw[qah,yH rfl,Xw,ap];show⟨_,rfl,?_⟩
       cases (!(pt qs X).isSome) with
       | true =>
        show zX ?_;apply⟨by rw[ya];show jt (by lk),rfl,by rw[yH rfl,yt];rfl⟩
       | false=>show qL (λh=>by cases h) λ_=>⟨rfl,by rw[yD (by decide),Yg]⟩
      .obtain⟨rfl,rfl⟩:=m;rw[show(s.map V.str).length=s.length from ya _,yT];have cs:(alQ qs s).length<=s.length:=yI _ _;show⟨by rw[ya];show yN (jt (by lk)),λal af=>?_⟩;have s7:=qC (Sr D) (o:=.lst ((alQ qs s).map V.str)) af;have bf:upd D al (.lst ((alQ qs s).map V.str)) al=some (.lst ((alQ qs s).map V.str)):=qb;have cg:al≠o:=λz=>by rw[z,s6 _ _ O] at af;cases af
       replace u:=qC (Sr D) (o:=.lst ((alQ qs s).map V.str)) af _ _ u;generalize upd D al (.lst ((alQ qs s).map V.str))=U2 at s7 bf u;have cl:=s6.trans s7;apply .inl ⟨⟨_,.of u⟩,qJ (xs:=s.map V.str) (λj A W=>L2.Same U2 W/\∃ R:LI,A=R.map V.ref/\R.length<=j/\All2 (λt z=>t≠o/\∃ y,pt qs z=some y/\W t=some (.lst [.str z,.str y])) R (otQ qs bar (s.take j))) ⟨L2.Same.refl _,[],rfl,yh _,All2.nil⟩ (λj A W _ m=>.of (m.1 _ _ u)) (λj y A W M m=>?_) λA W m=>?_⟩
       .obtain⟨sW,R,rfl,ch,hO⟩:=m;obtain⟨X,gi,rfl⟩:=jU M;have bw:=(yc.mp gi).1;have ap:otQ qs bar (s.take (j+1))=otQ qs bar (s.take j)++(if otB qs bar X=true then [X] else []):=qex gi;have S:=cl.trans sW;apply⟨d,rfl,.inl ⟨_,.inl (S _ _ dU)⟩,?_⟩;apply⟨_,DGet.k (k:=Sum.inr X) (S _ _ dU),?_⟩;rw[qah];ext;rw[ap]
        cases e:pt qs X with
        | none =>
         rw[show otB qs bar X=false by unfold otB;rw[e]];show qdN (z:="") (S _ _ rU) ?_;rw[yl ac];show⟨_,rfl,qL (λh=>by cases h) λ_=>⟨sW,R,rfl,by lk,by rw[yD (by decide),Yg];show hO⟩⟩
        | some b =>
         rw[show otB qs bar X=decide (b∈bar) by unfold otB;rw[e]];show qdN (z:=b) (S _ _ rU) ?_;by_cases hb:b∈bar
         .rw [yz hb];show⟨_,rfl,zX ?_⟩;apply ix_dK (S _ _ dU) (by rw[qah,e];rfl) ?_;apply⟨wqqe,λtt aq=>?_⟩;have s8:=qC (Sr W) (o:=.lst [.str X,.str b]) aq;show⟨by rw[ya];show jt (by lk),sW.trans s8,R++[tt],by rw[yt];rfl,by rw[yu];show _+1<=_;lk,?_⟩;rw[yH rfl];show(hO.mono λ_ _ z=>⟨z.1,z.2.elim λy k=>⟨y,k.1,s8 _ _ k.2⟩⟩).snoc ⟨λz=>(by rw[z,S _ _ O] at aq;cases aq),b,e,qb⟩
         .rw [yl hb];show⟨_,rfl,qL (λh=>by cases h) λ_=>⟨sW,R,rfl,by lk,by rw[yD (by decide),Yg];show hO⟩⟩
       .obtain⟨sW,R,rfl,ch,hO⟩:=m;rw[show(s.map V.str).length=s.length from ya _] at ch hO;rw[yT] at hO;show⟨by rw[ya];show yN (jt (by lk)),λou ct=>?_⟩;have s8:=qC (Sr W) (o:=.lst (R.map V.ref)) ct;have bj:upd W ou (.lst (R.map V.ref)) ou=some (.lst (R.map V.ref)):=qb;generalize upd W ou (.lst (R.map V.ref))=U3 at s8 bj;have au:=sW.trans s8;have cm:=cl.trans au;have I:U3 o=some (.lst (ts.map V.ref)):=cm _ _ O;have bm:=au _ _ u;have Z:=au _ _ bf;have dd:=hT.len;rw[ya,yK] at dd
        have am:∀(wd:Str) (nm:LS) (rb:Addr) (U5:Hp) (t:Addr),L2.Same U3 U5->U5 rb=some (.lst (nm.map V.str))->rb≠o->pwQ qs bar s=(wd,nm)->U5 t=none->∀ U6,U6=upd U5 t (.tup [.ref pa,.str wd,.ref rb])->L2.Same (qdi o G3) (qdi o (upd U6 o (.lst (ts.map V.ref++[.ref t]))))/\All2 (PtA (qdi o (upd U6 o (.lst (ts.map V.ref++[.ref t]))))) (ts++[t]) ((PS.take (i+1)).map λc=>(c.map (tn ss),pwQ qs bar (c.map (tn ss))))/\U6 o=some (.lst (ts.map V.ref)):=λwd nm rb U5 t aj cq db cp ht U6 e6=>by
         have nt:t≠o:=λz=>by rw[z,aj _ _ I] at ht;cases ht
         have C:=qC (Sr U5) (o:=.tup [.ref pa,.str wd,.ref rb]) ht;have et:U6 t=some (.tup [.ref pa,.str wd,.ref rb]):=by rw[e6];show qb
         rw[<- e6] at C;have cn:=(cm.trans aj).trans C;have so:=qev (p:=o) λc x _ e=>cn c x e;rw[outH_self];show⟨sU.trans so,?_,C _ _ (aj _ _ I)⟩;rw[yO,hc,yt]
         have ec:(Option.toList (some c)).map (λc=>(c.map (tn ss),pwQ qs bar (c.map (tn ss))))=[(s,wd,nm)]:=by
          show [(c.map (tn ss),pwQ qs bar (c.map (tn ss)))]=_;rw[cr,cp]
         rw[ec];show(hT.mono λ_ _ z=>z.same so).snoc ⟨pa,rb,by rw[zE nt];show et,by rw[zE da];show C _ _ (aj _ _ bm),by rw[zE db];show C _ _ cq⟩
        apply⟨wqqf,λw3 cv=>?_⟩;have C:=qC (Sr U3) (o:=.lst [.str "even",.str "single",.str "bar"]) cv;have ad:upd U3 w3 (.lst [.str "even",.str "single",.str "bar"]) w3=some (.lst [.str "even",.str "single",.str "bar"]):=qb;generalize upd U3 w3 (.lst [.str "even",.str "single",.str "bar"])=U4 at C ad;have ci:=C _ _ bj;have ak:=hO.len;apply j6 (C _ _ Z) ?_;apply j6 ci ?_;rw[ya,ya,ak];ext;rcases pw_law ah cb with⟨a1,a2,a3⟩ | ⟨z,a1,a2,a3⟩ | ⟨z,y,a1,a2,a3,a4⟩
        .rw [a1,a2];show qbS (by show CMul 2 0;show .inl (by decide)) ?_;apply .inl (zo ad (v:=.str "even") (qt (j:=0) rfl) ?_);apply⟨.inl ⟨rfl,_,.of (C _ _ I)⟩,?_⟩;apply qhe ?_;rw[show decide (("even":Str)="bar")=false by room];show⟨_,rfl,qL (λh=>by cases h) λ_=>?_⟩;apply⟨wqqf,λt ht=>?_⟩;obtain⟨f1,f2,f3⟩:=am "even" _ al U4 t C (C _ _ Z) cg (by rw[a3,a1]) ht _ rfl;show⟨o,_,_,rfl,rfl,f3,by rw[ya];show qh (by lk),?_⟩;show⟨f1,ts++[t],_,_,_,_,_,_,_,rfl,by rw[qb,yt];rfl,f2⟩
        .rw [a1,a2];show qbS (by show CMul 2 0;show .inl (by decide)) ?_;apply .inl (zo ad (v:=.str "single") (qt (j:=1) rfl) ?_);apply⟨.inl ⟨rfl,_,.of (C _ _ I)⟩,?_⟩;apply qhe ?_;rw[show decide (("single":Str)="bar")=false by room];show⟨_,rfl,qL (λh=>by cases h) λ_=>?_⟩;apply⟨wqqf,λt ht=>?_⟩;obtain⟨f1,f2,f3⟩:=am "single" _ al U4 t C (C _ _ Z) cg (by rw[a3,a1]) ht _ rfl;show⟨o,_,_,rfl,rfl,f3,by rw[ya];show qh (by lk),?_⟩;show⟨f1,ts++[t],_,_,_,_,_,_,_,rfl,by rw[qb,yt];rfl,f2⟩
        .rw [a1,a2];show qbS (by show CMul 2 1;show .inl (by decide)) ?_;apply .inl (zo ad (v:=.str "bar") (qt (j:=2) rfl) ?_);apply⟨.inl ⟨rfl,_,.of (C _ _ I)⟩,?_⟩;apply qhe ?_;rw[show decide (("bar":Str)="bar")=true by room];show⟨_,rfl,zX ?_⟩;ext;obtain⟨o1,bg⟩:∃ o1,R[0]?=some o1:=⟨_,yb (by rw[ak,a2];show Nat.zero_lt_one)⟩;obtain⟨cz,y',bn,bh⟩:=hO.at_ 0 o1 z bg (by rw[a2];rfl);rw[a3] at bn;cases bn;show .inl (zo ci (v:=.ref o1) (qt (j:=0) (by rw[yd,bg];rfl)) ?_);apply⟨wqqf,λt ht=>?_⟩;obtain⟨f1,f2,f3⟩:=am "bar" [z,y] o1 U4 t C (C _ _ (s8 _ _ bh)) cz (by rw[a4]) ht _ rfl;show⟨o,_,_,rfl,rfl,f3,by rw[ya];show qh (by lk),?_⟩;show⟨f1,ts++[t],_,_,_,_,_,_,_,rfl,by rw[qb,yt];rfl,f2⟩
    .obtain⟨sU,ts,y7,y8,av,aw,ax,ay,az,rfl,O,hT⟩:=m;rw[show(ls.map V.ref).length=PS.length by rw[ya,cf],yT] at hT;apply q o ts U (λb x e=>?_) (sG.free ho) O (hT.mono λ_ _ z=>z.same (zB o U));have nb:b≠o:=λz=>by rw[z,sG.free ho] at e;cases e
     show zB o U _ _ (sU _ _ (by rw[zE nb];show dc _ _ e))
theorem KQ:FnScope ["_law_web","_law_pairs","_law_bar","_law_found","e"] wqB (qg qbI):=fS
def tgQ(k:Nat):Str:=if k=0 then "pairs" else "bar"
def spPoG(cc:Nat->Addr)(cw:Addr):Sp:=λvs H Q E=>spPo cw vs H Q E\/spPoB cc cw vs H Q E
def ToN(H0 H:Hp)(f:Addr)(a:List (LS×Str×LS)):Prop:=∃(o:Addr) (ts:LI),H f=some (.lst [.str "told",.ref o])/\H0 o=none/\H o=some (.lst (ts.map V.ref))/\All2 (PtN H0 H) ts a
inductive spSa(cc:Nat->Addr)(cw:Addr)(vs:List V)(H:Hp)(Q:VK)(E:XK):Prop|mk (p x:Addr) (ss:LS) (ns:LN) (TI:List (Nat×Nat)) (bs:LN) (v u:V) (_:vs=[.ref x,v,u]) (_:Wt cw H x ss ns (TI.map (nmP ss))) (_:((∃(l r:Addr) (gs:LN) (us:LI) (qs:LP),v=.ref l/\u=.ref r/\WBar cw H x r ss ns TI bs gs/\PL H l us qs/\PGo ss (TI.map (nmP ss)) qs/\zF bs gs ss.length qs.length=true/\∀(f:Addr) (H':Hp),L2.Same H H'->H f=none->ToN H H' f (qfz bs gs ss qs)->Q (.ref f) H') \/
   ∃ r,PoB p cw H x ss ns TI bs v u r/\∀(f:Addr) (H':Hp),L2.Same H H'->H' f=some (.lst [.str (tgQ r.1),r.2,.bl false])->Q (.ref f) H'))
theorem ok_sa(F:Fun K "_law_said" "_law_said" qbI f fd)(T:Txt K mg cc cw)(ad:W.mroIn K (cc 0) (.ref (cc 0))=some true)(ae:W.mroIn K (cc 1) (.ref (cc 1))=some true)(ac:W.mroIn K (cc 1) (.ref (cc 0))=some false)(uL:DefOk P w K mg base (CX1 P w) 13 "parts_of" wq0 (spPoG cc cw)):wqqb 14 f fd wqB (spSa cc cw):=by
 show F.ok KQ λ_ _ _ _ H vs Q E Z h=>?_
 .obtain⟨p,x,ss,ns,TI,bs,v,u,rfl,Wx,hc⟩:=h;have hu:=za Z;show⟨_,(qc (qk (i:=3) KQ.nd rfl (yF rfl) (qz (qa qI qd)))
 (qc (ps_try rfl rfl rfl qw)
 (qe (qr (pv 3))))),?_⟩
  apply⟨wqqd,λf0 Y=>?_⟩;have g:=qC (Sr H) (o:=.lst [.str "other"]) Y;generalize upd H f0 (.lst [.str "other"])=H1 at g;ext;rcases hc with⟨l,r,gs,us,qs,rfl,rfl,L,U,S,hm,q⟩ | ⟨⟨k,z⟩,L,q⟩
  .show⟨fun σ c t H'=>False,_,λpn xe qbV=>(qe (qk (i:=3) KQ.nd rfl (yF rfl) (qz (qa qI (qa (qdt uL (hmR Z) qbV (qa (pv 0) (qa (pv 1) (qa (pv 2) qd)))) qd))))),?_,λa C O af H' R j=>R.elim⟩;apply .inl ⟨p,x,l,r,ss,ns,TI,bs,gs,us,qs,rfl,L.same g,U.same g,S,hm,λo ts H2 M ho eo hA=>?_⟩;apply⟨wqqe,λf1 A=>?_⟩;have G:=g.trans M;have I:=qC (Sr H2) (o:=.lst [.str "told",.ref o]) A;apply q f1 _ (G.trans I) (G.free A) ⟨o,ts,qb,g.free ho,I _ _ eo,hA.mono λ_ _ z=>?_⟩;obtain⟨a,b,h1,h2,J,h4,h5⟩:=z;show⟨a,b,I _ _ h1,I _ _ h2,I _ _ J,g.free h4,g.free h5⟩
  .have aa:k=0\/k=1:=by
    rcases L with⟨_,e⟩ | ⟨_,_,_,_,_,_,_,_,e⟩<;>cases e<;>simp
   have hB1:PoB p cw H1 x ss ns TI bs v u (k,z):=by
    rcases L with⟨h,e⟩ | ⟨l,us,qs,e0,U,S,J,hb,e⟩
    .show .inl ⟨h.same g,e⟩
    .show .inr ⟨l,us,qs,e0,U.same g,S,J.same g,hb.same J g,e⟩
   show⟨fun σ c t H'=>∃ m,c=.ref (cc k)/\t=some m/\L2.Same H H'/\H' m=some (.xd [(qfI k,z)])/\σ=[some (.ref x),some v,some u,some (.ref f0),none],_,λpn xe qbV=>(qe (qk (i:=3) KQ.nd rfl (yF rfl) (qz (qa qI (qa (qdt uL (hmR Z) qbV (qa (pv 0) (qa (pv 1) (qa (pv 2) qd)))) qd))))),?_,λa C O af H' R j=>?_⟩
   .ext;show .inr ⟨p,x,ss,ns,TI,bs,v,u,(k,z),rfl,Wx.same g,hB1,λm H' s' s=>⟨m,rfl,rfl,g.trans s',s,rfl⟩⟩
   .obtain⟨m,X,rfl,s1,s,rfl⟩:=R;cases X;show⟨_,(qgJ (K:=K) rfl KQ.nd (i:=4) rfl rfl rfl T.m_NoPairs (qe (qk (i:=3) KQ.nd rfl (yF rfl) (qz (qa qI (qa (jH (K:=K) rfl (pv 4) rfl) (qa (qj (qcu (K:=K) rfl) rfl T.b_isinstance Yz (qa (pv 4) (qa (jg (qa (qcn (v:=.ref (cc 1)) rfl T.m_NoBar rfl) (qa (qcn (v:=.ref (cc 2)) rfl T.m_NoPlace rfl) qd))) qd))) qd)))))) (qgJ (K:=K) rfl KQ.nd (i:=4) rfl rfl rfl T.m_NoBar (qe (qk (i:=3) KQ.nd rfl (yF rfl) (qz (qa qI (qa (jH (K:=K) rfl (pv 4) rfl) (qa (qj (qay (K:=K) rfl) rfl T.b_isinstance Yz (qa (pv 4) (qa (qcn (v:=.ref (cc 2)) rfl T.m_NoPlace rfl) qd))) qd)))))) (ph_no (K:=K) rfl rfl T.m_OnceError (qe (qk (i:=3) KQ.nd rfl (yF rfl) (qz (qa qI qd)))) ph_nil))),?_⟩;rcases aa with rfl | rfl
    .show⟨true,ad,T.xat 0 (by decide),T.xat 0 (by decide),zX ?_⟩;apply .inr ⟨a,cc 0,m,_,z,rfl,.inr j,T.xat 0 (by decide),T.na 0 (by decide),s,rfl,?_⟩;apply⟨wqqe,λN B=>?_⟩;have M:=qC s1 (o:=.tup [.ref (cc 1),.ref (cc 2)]) B;have n:=qC (Sr H') (o:=.tup [.ref (cc 1),.ref (cc 2)]) B;have e2:upd H' N (.tup [.ref (cc 1),.ref (cc 2)]) N=some (.tup [.ref (cc 1),.ref (cc 2)]):=qb;have y:=n _ _ j;have D:=n _ _ s;generalize upd H' N (.tup [.ref (cc 1),.ref (cc 2)])=H2 at M n e2 y D;have tx:TyX K H2 (.ref a) (.ref (cc 0)):=.inr ⟨a,cc 0,some m,rfl,rfl,.inr y,T.xat 0 (by decide),λd z=>by cases z;show⟨_,D⟩⟩;apply⟨_,N,_,.ref (cc 0),[.ref (cc 1),.ref (cc 2)],false,rfl,tx,e2,rfl,?_,?_⟩
     .have k1:=T.kit 0 1 (by decide) (by decide);have k2:=T.kit 0 2 (by decide) (by decide);simp only[W.kitAny,k1,k2];rfl
     apply⟨wqqf,λl hl=>?_⟩;apply q l _ (qC M hl) qb
    .show⟨false,ac,T.xat 0 (by decide),T.xat 1 (by decide),qL (λh=>by cases h) λ_=>?_⟩;show⟨true,ae,T.xat 1 (by decide),T.xat 1 (by decide),zX ?_⟩;apply .inr ⟨a,cc 1,m,_,z,rfl,.inr j,T.xat 1 (by decide),T.na 1 (by decide),s,rfl,?_⟩;have tx:TyX K H' (.ref a) (.ref (cc 1)):=.inr ⟨a,cc 1,some m,rfl,rfl,.inr j,T.xat 1 (by decide),λd z=>by cases z;show⟨_,s⟩⟩;apply qbq tx rfl (T.kit 1 2 (by decide) (by decide)) ?_;apply⟨wqqf,λl hl=>?_⟩;apply q l _ (qC s1 hl) qb
theorem uF:FnScope wqm wqk (qg qb5):=fS
theorem Pu.neS{u:Addr}{ks:LS}(h:Pu J p)(e:J u=some (.lst (ks.map V.str))):u≠p:=λz=>by
 obtain⟨a,b,c,d,_⟩:=h;rw[z,d] at e
 cases ks with
 | nil=>cases e
 | cons k r=>injection e with e;injection e with e;injection e with e;cases e
theorem Pu.neR{u:Addr}{ks:LI}(h:Pu J p)(e:J u=some (.lst (ks.map V.ref))):u≠p:=λz=>by
 obtain⟨a,b,c,d,_⟩:=h;rw[z,d] at e
 cases ks with
 | nil=>cases e
 | cons k r=>injection e with e;injection e with e;injection e with e;cases e
theorem Pu.neT{u:Addr}(h:Pu J p)(e:J u=some (.tup xs)):u≠p:=λz=>by
 obtain⟨a,b,c,d,_⟩:=h;rw[z,d] at e;cases e
theorem PL.butP(h:PL J l us qs)(a:Pu J p)(b:But p J J'):PL J' l us qs:=⟨b _ _ (a.neR h.1) h.1,h.2.mono λ_ _ e=>b _ _ (a.neT e) e⟩
structure RfW(p cw x n bb l:Addr)(ss:LS)(ns bs:LN)(TI:List (Nat×Nat))(us:LI)(qs:LP)(H:Hp):Prop where
 pu:Pu H p
 wb:WebP (λa=>a=p) cw H x ss ns
 wt:Wt cw H x ss ns (TI.map (nmP ss))
 nn:H n=some (.lst (ss.map V.str))
 tj:TJ ss.length TI
 bm:H bb=some (.lst (zh bs))
 bp:bb≠p
 bt:BtJ ss.length TI bs
 pl:PL H l us qs
 g:PGo ss (TI.map (nmP ss)) qs
section
variable{p cw x n bb l:Addr}{ss:LS}{ns bs:LN}{TI:List (Nat×Nat)}{us:LI}{qs:LP}{H H':Hp}
theorem RfW.but(h:RfW p cw x n bb l ss ns bs TI us qs H)(b:But p H H')(a:Pu H' p):RfW p cw x n bb l ss ns bs TI us qs H':=
 ⟨a,h.wb.keep b,⟨(h.wb.keep b).web,h.wt.adj,h.wt.ok⟩,b _ _ (h.pu.neS h.nn) h.nn,h.tj,b _ _ h.bp h.bm,h.bp,h.bt,h.pl.butP h.pu b,h.g⟩
theorem RfW.same(h:RfW p cw x n bb l ss ns bs TI us qs H)(s:L2.Same H H'):RfW p cw x n bb l ss ns bs TI us qs H':=h.but (λc o _ e=>s c o e) (h.pu.same s)
theorem RfW.nm(h:RfW p cw x n bb l ss ns bs TI us qs H):∀ s∈ss,jD s=true:=h.wt.wok.nm
theorem RfW.bar(h:RfW p cw x n bb l ss ns bs TI us qs H)(a:gs.Nodup)(hl:∀ k∈gs,k<ss.length):BarJ ss TI bs gs:=⟨⟨h.wt.wok.few,h.wt.wok.nd,h.wt.wok.nm⟩,h.tj,h.bt,a,hl⟩
end
inductive spMe(cw:Addr)(vs:List V)(H:Hp)(Q:VK)(E:XK):Prop|mk (p x n bb l r:Addr) (ss:LS) (ns bs:LN) (TI:List (Nat×Nat)) (us:LI) (qs:LP) (_:vs=[.ref p,.ref n,.ref bb,.ref l,.ref r]) (_:RfW p cw x n bb l ss ns bs TI us qs H) (_:(∀ H',But p H H'->Pu H' p->Q (.ref r) H')) (_:∀(g:Addr) (gs:LN) (H':Hp),But p H H'->Pu H' p->g≠p->H' g=some (.lst ((gs.map (tn ss)).map V.str))->BarJ ss TI bs gs->zF bs gs ss.length qs.length=true->Q (.ref g) H')
theorem ok_me(F:Fun K "_law_met" "_law_met" qb5 f fd)(T:Txt K mg cc cw)(Kz:wq9 1 "_law_take" wy spTkP)(Up:wq9 2 "_law_some" wqz spSmJ)(uG:wq9 2 "_law_lack" wqs spLkJ):wqqb 3 f fd wqk (spMe cw):=by
 show F.ok uF λ_ _ _ _ H vs Q E v h=>?_
 .obtain⟨p,x,n,bb,l,r,ss,ns,bs,TI,us,qs,rfl,R,q0,q⟩:=h;have hu:=za v;have ul:=R.pl.2.len;have L:=R.wt.wok.few;show⟨_,(qc (qR yW rfl (qT rfl T.b_range (qa qf qd)) (qm (i:=5) uF.nd rfl (yF rfl))
 (qc (j5 (sc:=qg qb5) (XN:=wqm) wqu 1 [1] rfl rfl rfl (by room) rfl (by room) (i:=6) uF.nd rfl rfl
  (qK (K:=K) rfl (qo Up (hmR v) qy (qa (pv 0) (qa (qj (jv (K:=K) rfl) rfl T.b_len Yt (qa (pv 1) qd)) (qa (qp (jp (K:=K) rfl) qf (qo Kz (hmR v) qy (qa (pv 0) (qa qf qd)))) qd))))) (λ_ _ _ _=>(qm (i:=0) (show(wqu:LS).Nodup by room) rfl (yF rfl))) qF
  (λ_ _ _ _=>jW)
  (λ_ _ _ _=>(qu (qv (K:=K) rfl hu) (pv 1) (pv 0) (λ_ _=>rfl))))
 (qe (qN (qq (jS (K:=K) rfl hu) (qo uG (hmR v) qy (qa (pv 1) (qa (pv 2) (qa (pv 6) qd)))) (qp qaI (qj (jv (K:=K) rfl) rfl T.b_len Yt (qa (pv 1) qd)) (qp qbo qf (qj (jv (K:=K) rfl) rfl T.b_len Yt (qa (pv 3) qd)))) (qB _)) (qe (qr (pv 6))) qw))))
 (qe (qr (pv 4)))),?_⟩
  apply⟨5,rfl,by decide,by decide,jL (lo:=0) (n:=5) (λi Y J=>But p H J/\Pu J p/\∃ W X,Y=[some (.ref p),some (.ref n),some (.ref bb),some (.ref l),some (.ref r),W,X]) ⟨λc o _ e=>e,R.pu,_,_,rfl⟩ (λi Y J hi b=>?_) λY J b=>?_⟩
  .obtain⟨u,A,W,X,rfl⟩:=b;have RJ:=R.but u A;apply j6 RJ.nn ?_;rw[ya];apply⟨p,4,rfl,A,by decide,by decide,λd J2 hd b2 p2=>?_⟩;have R2:=RJ.but b2 p2;apply⟨p,ss.length,1+d,rfl,p2,L,by lk,by lk,λg gs J3 b3 p3 hg ac eg m j=>?_⟩;have D:=R2.but b3 p3;have gl:=(D.bar m j).few;apply .inl ⟨⟨_,.of eg⟩,qJ (xs:=gs.map iV) (λi C G=>G=J3/\C=((gs.take i).map (tn ss)).map V.str) ⟨rfl,rfl⟩ (λi C G _ b=>by rw[b.1];show .of eg) (λi y C G hy b=>?_) λC G b=>?_⟩
   .obtain⟨rfl,rfl⟩:=b;rw[yd] at hy;obtain⟨k,N,rfl⟩:=yn.mp hy;have O:=j k (ye N);have ad:=(yc.mp N).1;apply zX ?_;apply .inl (zo D.nn (qt (by rw[yd,jE O];rfl)) ?_);show⟨by rw[ya,ya,yK];show qh (by lk),rfl,by rw[yO,N,yt,yt];rfl⟩
   .obtain⟨rfl,rfl⟩:=b;rw[show(gs.map iV).length=gs.length from ya _,yT];show⟨by rw[ya,ya];show yN (qh (by lk)),λa ha=>?_⟩;have M:=p3.apart ha;have S:=qC (Sr G) (o:=.lst ((gs.map (tn ss)).map V.str)) ha;have I:upd G a (.lst ((gs.map (tn ss)).map V.str)) a=some (.lst ((gs.map (tn ss)).map V.str)):=qb;generalize upd G a (.lst ((gs.map (tn ss)).map V.str))=J4 at S I;have s:=D.same S;have B:=s.bar m j;have b4:But p H J4:=λc o z e=>S c o (b3 c o z (b2 c o z (u c o z e)));apply⟨n,bb,a,ss,TI,bs,gs,rfl,s.nn,s.bm,B,I,λZ U=>?_⟩;have t:=s.same U;have b5:But p H Z:=λc o z e=>U c o (b4 c o z e);apply j6 t.nn ?_;rw[ya];apply j6 t.pl.1 ?_;rw[ya];apply⟨.inl (by decide),?_⟩;apply qav ?_;apply qL (λhc=>?_) (λhc=>?_)
    .ext;show q a gs Z b5 t.pu M (U _ _ I) B ?_;have aa:=yk hc;show yz (by rw[<- ul];lk)
    .ext;show⟨b5,t.pu,_,_,rfl⟩
  .obtain⟨u,A,W,X,rfl⟩:=b;apply q0 J u A
theorem KE:FnScope wqc wqf (qg zn):=fS
theorem saS{d:PyData}(h:Shw d 4000 6)(k:Nat):Shw (.list [.str (tgQ k),d,.bool false]) (2 ^ 20) 60:=by
 have a:Shw (.str (tgQ k)) 5 6:=by
  by_cases e:k=0
  .unfold tgQ;rw[yH e];show(Shw.str (by room)).mono (by room) (yh _)
  .unfold tgQ;rw[yD e];show(Shw.str (by room)).mono (by room) (yh _)
 show((ShwS.cons a (ShwS.cons h (ShwS.cons Shw.bl ShwS.nil))).list).mono (by decide) (by decide)
theorem qg0{f:Addr}{k:Nat}{z:V}{d:PyData}(e:H f=some (.lst [.str (tgQ k),z,.bl false]))(a:Dat H z d):Dat H (.ref f) (.list [.str (tgQ k),d,.bool false]):=.lst e (.cons (.str _) (.cons a (.cons (.bl _) .nil)))
theorem Ok.fl0(h:Ok p J 0 100 2 v):Ok p J 3 4000 6 v:=((h.deep).deep.deep).mono (by decide) (by decide)
theorem qb6{u:V}(h:qb8 u=false):jf ss u=false:=yD (by rw[h];decide)
theorem all_cons{P a:V->Prop}{b:List V}(h:a v)(X:∀ y∈b,P y)(k:∀ y,P y->a y):∀ y∈v::b,a y:=λy hy=>by
 rcases yv.mp hy with rfl | hy
 .show h
 .show k y (X y hy)
theorem Ok.run(e:J a=some (.lst xs))(b:a≠p)(l:xs.length<=31)(h:∀ y∈xs,Ok p J 2 100 4 y):Ok p J 3 4000 6 (.ref a):=(Ok.lst (k:=2) (n:=100) (m:=4) e b (by lk) h).mono (by lk) (by decide)
theorem qhf{x:Str}{Q:VK}(q:Q (.bl false) H):qfG K true (.str x) (.str x) H Q:=.inl ⟨rfl,rfl,by
 have:(if true=true then !eqV (V.str x) (V.str x) else eqV (V.str x) (V.str x))=false:=by simp[eqV]
 rw[this];show q⟩
theorem neI45{i j:Int}{Q:VK}(q:Q (.bl (!decide (i=j))) H):qfG K true (.int i) (.int j) H Q:=.inl ⟨rfl,rfl,by
 have e:=jA i j;rw[yD (by decide)] at e;rw[yH rfl,e];show q⟩
theorem neT{b:Addr}{Q:VK}(c:n<=60)(h:EqT K H n a b true)(q:Q (.bl false) H):qfG K true (.ref a) (.ref b) H Q:=.inr (.inl ⟨a,b,true,n,rfl,rfl,c,h,q⟩)
theorem qhg{b:Addr}{k:Bool}{Q:VK}(c:n<=60)(h:EqT K H n a b k)(q:Q (.bl k) H):qgZ K (.ref a) (.ref b) H Q:=.inl (.inl (.inr (.inl ⟨a,b,k,n,rfl,rfl,c,h,q⟩)))
theorem qhA{b:Addr}{k:Bool}{Q:VK}(c:n<=60)(h:EqT K H n a b k)(q:Q (.bl (!k)) H):qfG K true (.ref a) (.ref b) H Q:=.inr (.inl ⟨a,b,k,n,rfl,rfl,c,h,q⟩)
theorem str_inN{n:Addr}{z:Str}{Q:VK}(a:H n=some (.lst (ss.map V.str)))(q:Q (.bl (!decide (z∈ss))) H):qf2 K true (.str z) (.ref n) H Q:=
 .inl ⟨n,_,rfl,.inl (.of a),rfl,Yr.mpr λx b=>by(obtain⟨s,_,rfl⟩:=yB.mp b;rfl),by rw[yH rfl,qdD];show q⟩
theorem qcJ(hl:H l=some (.lst xs))(a:H z=some (.lst [])):EqT K H 1 l z xs.isEmpty:=by
 cases xs with
 | nil=>show EqT.lst (n:=0) (e:=λ_=>true) (SqL.of hl) (SqL.of a) rfl λj x y h=>by(simp at h)
 | cons x r=>show EqT.lstL (SqL.of hl) (SqL.of a) (by simp)
theorem qey{b:Addr}(h:EqT K H n a b true):EqD K H n (.ref a) (.ref b) true:=by
 by_cases e:a=b
 .subst e;show .self
 .show .deep h e
theorem qcK:EqD K H n (.str s) (.str s) true:=by
 have:=EqD.flat (K:=K) (H:=H) (n:=n) (x:=V.str s) (y:=V.str s) rfl rfl
 rwa[show eqV (V.str s) (V.str s)=true by simp[eqV]] at this
theorem qdk{b:Addr}{ks:LS}(d:H a=some (.lst (ks.map V.str)))(hb:H b=some (.lst (ks.map V.str))):EqT K H (m+1) a b true:=by
 have z:=EqT.lst (K:=K) (H:=H) (n:=m) (e:=λ_=>true) (SqL.of d) (SqL.of hb) rfl λj x y h1 c=>by
  rw[h1] at c;cases c;obtain⟨k,_,rfl⟩:=yB.mp (ye h1);show qcK
 have e:∀ m:Nat,((List.range m).all λ_=>true)=true:=λm=>Yr.mpr λ_ _=>rfl
 rwa[e] at z
theorem qft{f g o:Addr}{t:Str}(c:H f=some (.lst [.str t,.ref o,.bl false]))(d:H g=some (.lst [.str t,.ref o,.bl false])):EqT K H 1 f g true:=by
 have z:=EqT.lst (K:=K) (H:=H) (n:=0) (e:=λ_=>true) (SqL.of c) (SqL.of d) rfl λj x y h1 a=>by
  rw[h1] at a;cases a;have b:=ye h1;simp only[yv,yQ,Yw] at b;rcases b with rfl | rfl | rfl
  .show qcK
  .show .self
  .show EqD.flat (K:=K) (H:=H) (n:=0) (x:=V.bl false) (y:=V.bl false) rfl rfl
 show z
theorem eqT_pt{t':Addr}{q:LS×Str×LS}(h:PtA H t q)(h':PtA H t' q):EqT K H 2 t t' true:=by
 obtain⟨a,b,g,i,l⟩:=h;obtain⟨d,f,m,o,p⟩:=h'
 show EqT.tup (K:=K) (H:=H) (n:=1) (e:=λ_=>true) (SqT.of g) (SqT.of m) λj x y h1 c=>match j,h1,c with
  | 0,h1,c=>by
   have h1:some (V.ref a)=some x:=h1;have c:some (V.ref d)=some y:=c;cases h1;cases c;show qey (qdk i o)
  | 1,h1,c=>by
   have h1:some (V.str q.2.1)=some x:=h1;have c:some (V.str q.2.1)=some y:=c;cases h1;cases c;show qcK
  | 2,h1,c=>by
   have h1:some (V.ref b)=some x:=h1;have c:some (V.ref f)=some y:=c;cases h1;cases c;show qey (qdk l p)
  | j+3,h1,c=>by simp at h1
theorem qcL{f g o h:Addr}{b:LI}{qs:List (LS×Str×LS)}(r:H f=some (.lst [.str s,.ref o]))(t:H g=some (.lst [.str s,.ref h]))(w:H o=some (.lst (ts.map V.ref)))(d:H h=some (.lst (b.map V.ref)))(c:All2 (PtA H) ts qs)(l:All2 (PtA H) b qs):EqT K H 4 f g true:=by
 have e:∀ m:Nat,((List.range m).all λ_=>true)=true:=λm=>Yr.mpr λ_ _=>rfl
 have z:=EqT.lst (K:=K) (H:=H) (n:=2) (e:=λ_=>true) (SqL.of w) (SqL.of d) (by rw[ya,ya,c.len,l.len]) λj x y h1 a=>by
  rw[yd] at h1 a;obtain⟨u,i,rfl⟩:=yn.mp h1;obtain⟨v,q,rfl⟩:=yn.mp a;have p:j<qs.length:=by rw[<- c.len];show(yc.mp i).1
  show qey (eqT_pt (c.at_ j u qs[j] i (yb p)) (l.at_ j v qs[j] q (yb p)))
 rw[e] at z
 show EqT.lst (K:=K) (H:=H) (n:=3) (e:=λ_=>true) (SqL.of r) (SqL.of t) rfl λj x y h1 a=>match j,h1,a with
  | 0,h1,a=>by
   have h1:some (V.str s)=some x:=h1;have a:some (V.str s)=some y:=a;cases h1;cases a;show qcK
  | 1,h1,a=>by
   have h1:some (V.ref o)=some x:=h1;have a:some (V.ref h)=some y:=a;cases h1;cases a;show qey z
  | j+2,h1,a=>by simp at h1
theorem PL.ok2(h:PL J l us qs)(g:PGo ss tps qs)(nm:∀ s∈ss,jD s=true)(o:Pu J p):∀ x∈us.map V.ref,Ok p J 2 100 4 x:=λx j=>by
 obtain⟨u,f,rfl⟩:=yB.mp j;obtain⟨i,a⟩:=yf f;obtain⟨q,d⟩:∃ q,qs[i]?=some q:=⟨_,yb (by rw[<- h.2.len];show(yc.mp a).1)⟩;obtain⟨_,b,c,_⟩:=g.inn q (ye d);have e:=h.2.at_ i u q a d;show((Ok.tup (k:=0) (n:=6) (m:=1) e (o.neT e) (by show 2<=1000;decide) (qhy (Ok.name (nm _ b)) (Ok.name (nm _ c)))).mono (by show 14<=100;decide) (by decide)).deep
def NpO(p:Addr)(ss:LS)(tps:LP)(J:Hp)(v:V):Prop:=Ok p J 3 4000 6 v/\apV J ss tps v=false
theorem NpO.but(h:NpO p ss tps J v)(b:But p J J'):NpO p ss tps J' v:=⟨h.1.but b,(qeu h.1.1 b).trans h.2⟩
def UlO(p:Addr)(ss:LS)(J:Hp)(v:V):Prop:=Ok p J 3 4000 6 v/\ulV J ss v=false
theorem UlO.but(h:UlO p ss J v)(b:But p J J'):UlO p ss J' v:=⟨h.1.but b,(qcG h.1.1 b).trans h.2⟩
theorem unl_dup{x:V}{r:List V}:unl ss [] (x::x::r)=false:=by
 show(if jf ss x=true then(if zZ x∈([]:LS) then false else(if jf ss x=true then(if zZ x∈[]++[zZ x] then false else unl ss ([]++[zZ x]++[zZ x]) r) else false)) else false)=false;by_cases h:jf ss x=true
 .rw [yH h,yD (by simp),yH h,yH (by simp)]
 .rw [yD h]
theorem cut1:qcr (us.map V.ref) (some 1) none=(us.drop 1).map V.ref:=by
 have:=qaT (us.map V.ref) 1;rw[kB];show this
theorem qgU:qcr xs none (some 1)=xs.take 1:=qag xs 1
theorem qcM{y:V}(h:qbm H ss tps y=none):∀{xs:List V} {seen:LS},y∈xs->apL H ss tps seen xs=false
 | x::r,seen,hy=>by
  show(match qbm H ss tps x with | none=>false | some ab=>if ab.1∈seen\/ab.2∈seen then false else apL H ss tps (seen++[ab.1,ab.2]) r)=false
  cases a:qbm H ss tps x with
  | none=>rfl
  | some ab =>
   dsimp only;split
   .rfl
   .rcases yv.mp hy with rfl | hy
    .rw [h] at a;cases a
    .show qcM h hy
theorem PL.drop1(h:PL J l us qs)(e:J a=some (.lst ((us.drop 1).map V.ref))):PL J a (us.drop 1) (qs.drop 1):=
 ⟨e,⟨by rw[YU,YU,h.2.len],λj t ab h1 b=>h.2.at_ (1+j) t ab (by rwa[List.getElem?_drop] at h1) (by rwa[List.getElem?_drop] at b)⟩⟩
theorem PGo.drop1(g:PGo ss tps qs):PGo ss tps (qs.drop 1):=by
 show⟨λq b=>g.inn q (List.mem_of_mem_drop b),?_,by have:=g.few;rw[YU];lk⟩;have a:=g.nd;rw[<- xR 1 qs,show qx (qs.take 1++qs.drop 1)=qx (qs.take 1)++qx (qs.drop 1) from xC] at a;show(Yk.mp a).2.1
def nbL(gs:LN)(n:Nat):LN:=(List.range n).filter λk=>decide (k∉gs)
theorem qez:nbL gs (i+1)=nbL gs i++(if i∉gs then [i] else []):=by
 unfold nbL;rw[YB,yZ];show _++[i].filter _=_;rw[yP,YA];simp only[yJ]
theorem qfu:(nbL gs i).length<=i:=yi (yI _ _) (by rw[YE];show yh _)
theorem nbL_bar{TI:List (Nat×Nat)}{bs:LN}(B:BarJ ss TI bs gs):BarJ ss TI bs ((nbL gs ss.length).take 1++gs):=by
 show⟨B.ok,B.tj,B.bt,Yk.mpr ⟨(List.nodup_range.filter _).sublist (kh _ _),B.nd,λa c b hb e=>?_⟩,λk d=>?_⟩
 .subst e;have:=(yp.mp (XC c)).2;show yk this hb
 .rcases yG.mp d with h | h
  .show Yh.mp (yp.mp (XC h)).1
  .show B.lt k h
theorem qeA{TI:List (Nat×Nat)}{bs:LN}(B:BarJ ss TI bs gs):∀ y∈(gs.map (tn ss)).map V.str,Ok p J 2 100 4 y:=λy b=>by
 obtain⟨s,a,rfl⟩:=yB.mp b;show(Ok.name (B.ok.nm _ (B.inn _ a))).mono (by decide) (yh _)
theorem qga{r:Addr}{TI:List (Nat×Nat)}{bs:LN}(B:BarJ ss TI bs gs)(e:J r=some (.lst ((gs.map (tn ss)).map V.str)))(c:r≠p):Ok p J 2 100 4 (.ref r):=by
 have:=B.few;show((Ok.lst (k:=0) (n:=6) (m:=1) e c (by rw[ya,ya];lk) λy b=>?_).mono (by rw[ya,ya];lk) (by decide)).deep;obtain⟨s,a,rfl⟩:=yB.mp b;show Ok.name (B.ok.nm _ (B.inn _ a))
theorem qdO{TI:List (Nat×Nat)}{bs:LN}{y:V}(B:BarJ ss TI bs gs)(e:J a=some (.lst ((gs.map (tn ss)).map V.str++[y])))(f:a≠p)(c:Ok p J 2 100 4 y)(b:qb8 y=false):UlO p ss J (.ref a):=by
 have:=B.few;show⟨Ok.run e f (by rw[yu,ya,ya];show _+1<=31;lk) (λz d=>(yG.mp d).elim (qeA B z) λh=>by rw[yC.mp h];show c),?_⟩;rw[qaG e];show qdL (y:=y) (qb6 b) (by simp)
theorem bar_dup{TI:List (Nat×Nat)}{bs:LN}(B:BarJ ss TI bs gs)(e:J a=some (.lst (((gs.map (tn ss)).map V.str).take 1++(gs.map (tn ss)).map V.str)))(d:a≠p)(b:gs≠[]):UlO p ss J (.ref a):=by
 have:=B.few;show⟨Ok.run e d (by rw[yu,yK,ya,ya];lk) (λz c=>(yG.mp c).elim (λh=>qeA B z (XC h)) (qeA B z)),?_⟩;rw[qaG e]
 cases gs with
 | nil=>show absurd rfl b
 | cons g r=>show unl_dup
theorem meets_less{bs:LN}{k:Nat}(h:zF bs gs n k=true)(a:0<k):false=zF bs gs n (k-1):=by
 have h':=yk h;show(yl λz=>by lk).symm
inductive spRf(cw:Addr)(vs:List V)(H:Hp)(Q:VK)(E:XK):Prop|mk (p x n bb l r:Addr) (ss:LS) (ns bs gs:LN) (TI:List (Nat×Nat)) (us:LI) (qs:LP) (_:vs=[.ref p,.ref x,.ref n,.ref bb,.ref l,.ref r]) (_:RfW p cw x n bb l ss ns bs TI us qs H) (_:H r=some (.lst ((gs.map (tn ss)).map V.str))) (_:BarJ ss TI bs gs) (_:zF bs gs ss.length qs.length=true) (_:∀ H',But p H H'->Pu H' p->Q (.bl true) H')
theorem ok_rf(F:Fun K "_law_refused" "_law_refused" zn f fd)(T:Txt K mg cc cw)(Kz:wq9 1 "_law_take" wy spTkP)(K1:wq9 14 "_law_said" wqB (spSa cc cw))(uG:wq9 2 "_law_lack" wqs spLkJ)(uO:wq9 2 "_law_due" wqj spDu):wqqb 15 f fd wqf (spRf cw):=by
 show F.ok KE λ_ _ _ s H vs Q E hr h=>?_
 .obtain⟨p,x,n,bb,l,r,ss,ns,bs,gs,TI,us,qs,rfl,R,er,B,hm,q⟩:=h;have hu:=za hr;have hf:=B.few;have dh:∀ k∈gs,tn ss k∈ss:=λk hk=>qa0 (B.lt k hk);obtain⟨TC4,aj⟩:∃ t':TS,t'=λD σ J=>(∀ u H',Q u H'->D.rt u H')/\∃(j b:V) (y6 y8 Y O ai:Option V),σ=[some (.ref p),some (.ref x),some (.ref n),some (.ref bb),some (.ref l),some (.ref r),y6,some j,y8,some b,Y,O,ai]/\But p H J/\RfW p cw x n bb l ss ns bs TI us qs J/\J r=some (.lst ((gs.map (tn ss)).map V.str))/\NpO p ss (TI.map (nmP ss)) J j/\UlO p ss J b:=⟨_,rfl⟩;obtain⟨TC5,az⟩:∃ t':TS,t'=TC4:=⟨_,rfl⟩;obtain⟨TC2,ay⟩:∃ t':TS,t'=λD σ J=>(∀ u H',Q u H'->D.rt u H')/\∃(j:V) (y6 y8 y9 Y O ai:Option V),σ=[some (.ref p),some (.ref x),some (.ref n),some (.ref bb),some (.ref l),some (.ref r),y6,some j,y8,y9,Y,O,ai]/\But p H J/\RfW p cw x n bb l ss ns bs TI us qs J/\J r=some (.lst ((gs.map (tn ss)).map V.str))/\NpO p ss (TI.map (nmP ss)) J j:=⟨_,rfl⟩;obtain⟨TC10,hTC10⟩:∃ t':TS,t'=λD σ J=>(∀ u H',Q u H'->D.rt u H')/\∃(o:Addr) (Z:LN) (y6 y7 y8 y9 Y O:Option V),σ=[some (.ref p),some (.ref x),some (.ref n),some (.ref bb),some (.ref l),some (.ref r),y6,y7,y8,y9,Y,O,some (.ref o)]/\But p H J/\RfW p cw x n bb l ss ns bs TI us qs J/\J o=some (.lst ((Z.map (tn ss)).map V.str))/\BarJ ss TI bs Z:=⟨_,rfl⟩;show⟨_,(qc (qk (i:=6) KE.nd rfl (yF rfl) (qz (qa qcP (qa qf (qa qI (qa j8 (qa (zH (qd9 (K:=K) rfl) rfl T.b_tuple XW (qa (pv 4) qd)) (qa (qz (qa qcP qd)) (qa (qz (qa (jg (qa qI (qa qI qd))) qd)) (qa (qp (jp (K:=K) rfl) (pv 4) (qz (qa (jg (qa qI qd)) qd))) qd))))))))))
 (qc (qk (i:=7) KE.nd rfl (yF rfl) (qu (qv (K:=K) rfl hu) (pv 6) (qo Kz (hmR hr) qy (qa (pv 0) (qa qf qd))) (λ_ _=>rfl)))
 (qaE TC2 (qc (qk (i:=8) KE.nd rfl (yF rfl) (qz (qa qcP (qa qf (qa qI (qa (zH (qd9 (K:=K) rfl) rfl T.b_tuple XW (qa (pv 5) qd)) (qa (qp (jp (K:=K) rfl) (pv 5) (qz (qa (qz (qa qI qd)) qd))) (qa (qp (jp (K:=K) rfl) (pv 5) (qz (qa qI qd))) (qa (qz (qa (pv 5) qd)) (qa (qp (jp (K:=K) rfl) (pv 5) (qz (qa qcP qd))) qd))))))))))
 (qc (qk (i:=9) KE.nd rfl (yF rfl) (qu (qv (K:=K) rfl hu) (qp (jp (K:=K) rfl) (pv 8) (qp qdW (qz (qa (qp (jp (K:=K) rfl) (jo (qeF (K:=K) rfl) (pv 5) jT (jM qf)) (pv 5)) qd)) qf)) (qo Kz (hmR hr) qy (qa (pv 0) (qa (qp (jp (K:=K) rfl) qf (qp qbo qf (zH call_int1 rfl T.b_int boot_int (qa (zM (qaf (K:=K) rfl hu) (pv 5) (qz qd) (qB _)) qd)))) qd))) (λ_ _=>rfl)))
 (qaE TC4 (qc (qR yW rfl (qK (K:=K) rfl (qz (qa (pv 5) (qa (pv 9) qd)))) (qm (i:=10) KE.nd rfl (yF rfl))
 (qe (qN (qq (qaf (K:=K) rfl hu) (qj (qbe (K:=K) rfl hu hr.gd T.smod) rfl T.b_repr Kk (qa (qo K1 (hmR hr) qy (qa (pv 1) (qa (pv 7) (qa (pv 10) qd)))) qd)) (qj (qbe (K:=K) rfl hu hr.gd T.smod) rfl T.b_repr Kk (qa (qz (qa qI (qa (pv 7) (qa ju qd)))) qd)) (qB _)) (qe (qr ju)) qw)))
 (qaE TC5 (qc (qN (qq (qaf (K:=K) rfl hu) (qj (qbe (K:=K) rfl hu hr.gd T.smod) rfl T.b_repr Kk (qa (qo K1 (hmR hr) qy (qa (pv 1) (qa (pv 4) (qa (pv 9) qd)))) qd)) (qj (qbe (K:=K) rfl hu hr.gd T.smod) rfl T.b_repr Kk (qa (qz (qa qI (qa (pv 9) (qa ju qd)))) qd)) (qB _)) (qe (qr ju)) qw)
 (qc (qN (qq (jS (K:=K) rfl hu) (pv 2) (qz qd) (qB _)) (qe (qr ju)) qw)
 (qc (qk (i:=11) KE.nd rfl (yF rfl) (jo (qeF (K:=K) rfl) (pv 4) (jM qf) jT))
 (qc (qk (i:=12) KE.nd rfl (yF rfl) (qp (jp (K:=K) rfl) (jo (qeF (K:=K) rfl) (jh (sc:=qg zn) (XN:=wqc) ["_law_place","_law_bar"] 1 [5] rfl rfl rfl (by room) rfl (by room)
  (qK (K:=K) rfl (pv 2)) (λ_ _ _ _=>(qm (i:=0) (show(["_law_place","_law_bar"]:LS).Nodup by room) rfl (yF rfl))) qF
  (λ_ _ _ _=>(qP (qq (zQ (K:=K) rfl hu) (pv 0) (pv 1) (by with_unfolding_all rfl))))
  (λ_ _ _ _=>(pv 0))) jT (jM qf)) (pv 5)))
 (qc (qN (PW.pt (qb9 (qq (qaf (K:=K) rfl hu) (pv 4) (qz qd) (qB _)) (qco (qq (qaf (K:=K) rfl hu) (qo K1 (hmR hr) qy (qa (pv 1) (qa (pv 11) (qa (pv 5) qd)))) (qz (qa qI (qa (pv 5) (qa ju qd)))) (qB _))))) (qe (qr ju)) qw)
 (qaE TC10 (qc (qN (qq (qaf (K:=K) rfl hu) (qo uG (hmR hr) qy (qa (pv 2) (qa (pv 3) (qa (pv 12) qd)))) (qp qaI (qj (jv (K:=K) rfl) rfl T.b_len Yt (qa (pv 2) qd)) (qp qbo qf (qj (jv (K:=K) rfl) rfl T.b_len Yt (qa (pv 4) qd)))) (qB _)) (qe (qr (zM (jS (K:=K) rfl hu) (qo K1 (hmR hr) qy (qa (pv 1) (qa (pv 4) (qa (pv 12) qd)))) (qz (qa qI (qa (pv 12) (qa ju qd)))) (qB _)))) qw)
 (qe (qr (zM (jS (K:=K) rfl hu) (qo K1 (hmR hr) qy (qa (pv 1) (qa (pv 4) (qa (pv 12) qd)))) (qz (qa qI (qa (qo uO (hmR hr) qy (qa (pv 2) (qa (pv 3) (qa (pv 4) (qa (pv 12) qd))))) qd))) (qB _))))) ?cut10)))))) ?cut5)) ?cut4))) ?cut2))),?_⟩
  case cut10 =>
   intro D σ J h;rw[hTC10] at h;obtain⟨hD,o,Z,y6,y7,y8,y9,Y,O,rfl,bJ,M,eo,B2⟩:=h;have ul:=M.pl.2.len;apply⟨n,bb,o,ss,TI,bs,Z,rfl,M.nn,M.bm,B2,eo,λJ1 s1=>?_⟩;have S:=M.same s1;apply j6 S.nn ?_;rw[ya];apply j6 S.pl.1 ?_;rw[ya];apply⟨.inl (by decide),?_⟩;apply neI45 ?_;ext;have as:=s1 _ _ eo;show qL (λhc=>?_) (λhc=>?_)
   .have cv:false=zF bs Z ss.length qs.length:=(yl λz=>by
     rw[YD] at hc;show of_decide_eq_false hc (by rw[ul];lk)).symm
    apply⟨x,x,ss,ns,TI,bs,.ref l,.ref o,rfl,S.wt,.inr ⟨(1,.ref o),.inr ⟨l,us,qs,rfl,S.pl,S.g,B2.th S.wt as,.inl ⟨o,Z,rfl,⟨S.wt,B2,as⟩,cv⟩,rfl⟩,λf J2 C ef=>?_⟩⟩;apply⟨wqqf,λf2 h2=>?_⟩;have I:=qC (Sr J2) (o:=.lst [.str "bar",.ref o,.bl false]) h2;have e3:upd J2 f2 (.lst [.str "bar",.ref o,.bl false]) f2=some (.lst [.str (tgQ 1),.ref o,.bl false]):=qb;generalize upd J2 f2 (.lst [.str "bar",.ref o,.bl false])=J3 at I e3;have R3:=(S.same C).same I;apply qhg (n:=1) (by decide) (qft (I _ _ ef) e3) ?_;show hD _ _ (q J3 (λc o z e=>I c o (C c o (s1 c o (bJ c o z e)))) R3.pu)
   .have cf:zF bs Z ss.length qs.length=true:=yz (by
     by_cases z:((odJ bs Z ss.length:Nat):Int)-(Z.length:Nat)=(ss.length:Nat)-2*(us.length:Nat)
     .rw [<- ul];lk
     .show(hc (by rw[yl z];rfl)).elim)
    apply⟨x,x,ss,ns,TI,bs,.ref l,.ref o,rfl,S.wt,.inl ⟨l,o,Z,us,qs,rfl,rfl,⟨S.wt,B2,as⟩,S.pl,S.g,cf,λf J2 C dg hT=>?_⟩⟩;have R2:=S.same C;apply⟨n,bb,l,o,ss,TI,bs,Z,us,qs,rfl,R2.nn,R2.bm,B2,C _ _ as,R2.pl,R2.g,qew R2.wt B2 R2.g cf,λo2 dk J3 I au cn hA=>?_⟩;apply⟨wqqe,λf2 h2=>?_⟩;have L:=qC (Sr J3) (o:=.lst [.str "told",.ref o2]) h2;have e4:upd J3 f2 (.lst [.str "told",.ref o2]) f2=some (.lst [.str "told",.ref o2]):=qb;generalize upd J3 f2 (.lst [.str "told",.ref o2])=J4 at L e4;have R4:=(R2.same I).same L;obtain⟨o1,dj,ef,_,ca,hB⟩:=hT;have ae:=I.trans L;apply qhg (n:=4) (by decide) (qcL (ae _ _ ef) e4 (ae _ _ ca) (L _ _ cn) (hB.mono λ_ _ z=>z.pa.same ae) (hA.mono λ_ _ z=>z.same L)) ?_;show hD _ _ (q J4 (λc o z e=>ae c o (C c o (s1 c o (bJ c o z e)))) R4.pu)
  case cut5 =>
   intro D σ J h;rw[az,aj] at h;obtain⟨hD,j,b,y6,y8,Y,O,ai,rfl,bJ,M,aa,ao,ag⟩:=h;have ul:=M.pl.2.len;obtain⟨dt,bf,ap⟩:=ag.1.2;apply⟨p,x,ss,ns,TI,bs,.ref l,b,rfl,M.wt,.inr ⟨(1,b),.inr ⟨l,us,qs,rfl,M.pl,M.g,ag.1.1,.inr ⟨ag.2,rfl⟩,rfl⟩,λf J2 C ef=>?_⟩⟩;ext;have am:=(bf.same (zB p J)).same C;show⟨_,.list [.str (tgQ 1),dt,.bool false],rfl,qg0 ef am,saS ap 1,?_⟩;apply⟨wqqf,λf2 h2=>?_⟩;have I:=qC (Sr J2) (o:=.lst [.str "bar",b,.bl false]) h2;have e3:upd J2 f2 (.lst [.str "bar",b,.bl false]) f2=some (.lst [.str (tgQ 1),b,.bl false]):=qb;generalize upd J2 f2 (.lst [.str "bar",b,.bl false])=J3 at I e3;apply⟨_,.list [.str (tgQ 1),dt,.bool false],rfl,qg0 e3 (am.same I),saS ap 1,?_⟩;show qhf ?_;show⟨_,rfl,qL (λh=>by cases h) λ_=>?_⟩;have ak:=C.trans I;have R3:=M.same ak;have co:=ak _ _ aa;have b3:But p H J3:=λc o z e=>ak c o (bJ c o z e);apply⟨wqqc,λz hz=>?_⟩;have L:=qC (Sr J3) (o:=.lst []) hz;have ez:upd J3 z (.lst []) z=some (.lst []):=qb;generalize upd J3 z (.lst [])=J4 at L ez;have R4:=R3.same L;have cp:=L _ _ co;have b4:But p H J4:=λc o z e=>L c o (b3 c o z e);show qhg (n:=1) (by decide) (qcJ R4.nn ez) ?_;apply qL (λ_=>?_) (λ_=>?_)
   .ext;show hD _ _ (q J4 b4 R4.pu)
   apply .inl ⟨l,_,rfl,.of R4.pl.1,λa1 h1=>?_⟩;rw[cut1];have s5:=qC (Sr J4) (o:=.lst ((us.drop 1).map V.ref)) h1;have e5:upd J4 a1 (.lst ((us.drop 1).map V.ref)) a1=some (.lst ((us.drop 1).map V.ref)):=qb;generalize upd J4 a1 (.lst ((us.drop 1).map V.ref))=J5 at s5 e5;have R5:=R4.same s5;have bd:=s5 _ _ cp;have b5:But p H J5:=λc o z e=>s5 c o (b4 c o z e);have P5:=R5.pl.drop1 e5;have df:=R5.wt.wok.few;apply .inl ⟨⟨_,.of R5.nn⟩,qJ (xs:=ss.map V.str) (λi ys G=>G=J5/\ys=((nbL gs i).map (tn ss)).map V.str) ⟨rfl,rfl⟩ (λi ys G _ hp=>by rw[hp.1];show .of R5.nn) (λi y ys G hy hp=>?_) λys G hp=>?_⟩
   .obtain⟨rfl,rfl⟩:=hp;rw[yd] at hy;obtain⟨w0,hw,rfl⟩:=yn.mp hy;have bg:=(yc.mp hw).1;have ew:w0=tn ss i:=by rw[jE bg] at hw;cases hw;rfl
    subst ew;apply str_inN bd ?_;ext;have nl:(nbL gs i).length<=i:=qfu;show qL (λhc=>?_) (λhc=>?_)
    .have hi:i∉gs:=λz=>by
      rw[yz ((qcl B bg).mpr z)] at hc;cases hc
     apply⟨by rw[ya,ya];show qh (by lk),rfl,by rw[qez,yH hi,yt,yt];rfl⟩
    .have hi:i∈gs:=yX λz=>hc (by rw[yl λy=>z ((qcl B bg).mp y)];rfl);show⟨rfl,by rw[qez,yD (λz=>z hi),Yg]⟩
   .obtain⟨rfl,rfl⟩:=hp;rw[show(ss.map V.str).length=ss.length from ya _];have nl:(nbL gs ss.length).length<=ss.length:=qfu;show⟨by rw[ya,ya];show yN (qh (by lk)),λa2 h2=>?_⟩;have s6:=qC s5 (o:=.lst (((nbL gs ss.length).map (tn ss)).map V.str)) h2;have k6:=qC (Sr G) (o:=.lst (((nbL gs ss.length).map (tn ss)).map V.str)) h2;have e6:upd G a2 (.lst (((nbL gs ss.length).map (tn ss)).map V.str)) a2=some (.lst (((nbL gs ss.length).map (tn ss)).map V.str)):=qb;generalize upd G a2 (.lst (((nbL gs ss.length).map (tn ss)).map V.str))=J6 at s6 k6 e6;apply .inl ⟨a2,_,rfl,.of e6,λN h3=>?_⟩;rw[qgU];have k7:=qC k6 (o:=.lst ((((nbL gs ss.length).map (tn ss)).map V.str).take 1)) h3;have e7:upd J6 N (.lst ((((nbL gs ss.length).map (tn ss)).map V.str).take 1)) N=some (.lst ((((nbL gs ss.length).map (tn ss)).map V.str).take 1)):=qb;generalize upd J6 N (.lst ((((nbL gs ss.length).map (tn ss)).map V.str).take 1))=J7 at k7 e7;apply .inl ⟨N,r,_,_,rfl,rfl,e7,k7 _ _ bd,yN (qh (by simp only[yK,ya];lk)),λU h4=>?_⟩
    have ee:(((nbL gs ss.length).map (tn ss)).map V.str).take 1++(gs.map (tn ss)).map V.str=((((nbL gs ss.length).take 1++gs)).map (tn ss)).map V.str:=by
     rw[yt,yt,Xr,Xr]
    rw[ee];have B2:=nbL_bar B;generalize (nbL gs ss.length).take 1++gs=Z at B2;have k8:=qC k7 (o:=.lst ((Z.map (tn ss)).map V.str)) h4;have e8:upd J7 U (.lst ((Z.map (tn ss)).map V.str)) U=some (.lst ((Z.map (tn ss)).map V.str)):=qb;generalize upd J7 U (.lst ((Z.map (tn ss)).map V.str))=J8 at k8 e8;have R8:=R5.same k8;have b8:But p H J8:=λc o z e=>k8 c o (b5 c o z e);apply⟨wqqc,λz2 cx=>?_⟩;have k9:=qC (Sr J8) (o:=.lst []) cx;have cd:upd J8 z2 (.lst []) z2=some (.lst []):=qb;generalize upd J8 z2 (.lst [])=J9 at k9 cd;have R9:=R8.same k9;have b9:But p H J9:=λc o z e=>k9 c o (b8 c o z e);have e9:=k9 _ _ e8;show qhA (n:=1) (by decide) (qcJ R9.pl.1 cd) ?_;ext;have cb:=k9 _ _ (k8 _ _ bd);show qL (λhc=>?_) (λhc=>?_)
    .have k0:0<qs.length:=by
      rw[<- ul]
      cases us with
      | nil=>cases hc
      | cons u r=>show Nat.succ_pos _
     have hF:false=zF bs gs ss.length (qs.drop 1).length:=by rw[YU];show meets_less hm k0
     apply⟨x,x,ss,ns,TI,bs,.ref a1,.ref r,rfl,R9.wt,.inr ⟨(1,.ref r),.inr ⟨a1,us.drop 1,qs.drop 1,rfl,R9.pl.drop1 (k9 _ _ (k8 _ _ e5)),R9.g.drop1,B.th R9.wt cb,.inl ⟨r,gs,rfl,⟨R9.wt,B,cb⟩,hF⟩,rfl⟩,λf3 Ja sa cm=>?_⟩⟩;apply⟨wqqf,λf4 cq=>?_⟩;have sb:=qC (Sr Ja) (o:=.lst [.str "bar",.ref r,.bl false]) cq;have eb:upd Ja f4 (.lst [.str "bar",.ref r,.bl false]) f4=some (.lst [.str (tgQ 1),.ref r,.bl false]):=qb;generalize upd Ja f4 (.lst [.str "bar",.ref r,.bl false])=Jb at sb eb;have bn:=sa.trans sb;apply neT (n:=1) (by decide) (qft (sb _ _ cm) eb) ?_;show⟨_,rfl,qL (λh=>by cases h) λ_=>?_⟩;ext;rw[hTC10];show⟨hD,U,Z,_,_,_,_,_,_,rfl,λc o z e=>bn c o (b9 c o z e),R9.same bn,bn _ _ e9,B2⟩
    .show yq ?_;ext;rw[hTC10];show⟨hD,U,Z,_,_,_,_,_,_,rfl,b9,R9,e9,B2⟩
  case cut4 =>
   intro D σ J h;rw[aj] at h;obtain⟨hD,j,b,y6,y8,Y,O,ai,rfl,bJ,M,aa,ao,ag⟩:=h;apply⟨wqqe,λlo cu=>?_⟩;have s1:=qC (Sr J) (o:=.lst [.ref r,b]) cu;have e1:upd J lo (.lst [.ref r,b]) lo=some (.lst [.ref r,b]):=qb;generalize upd J lo (.lst [.ref r,b])=J1 at s1 e1;have bo:∀{G:Hp},L2.Same J G->But p J G:=λs c o _ e=>s c o e;show .inl ⟨⟨_,.of e1⟩,qO (xs:=[.ref r,b]) (λi σ G=>L2.Same J1 G/\∃ bp,σ=[some (.ref p),some (.ref x),some (.ref n),some (.ref bb),some (.ref l),some (.ref r),y6,some j,y8,some b,bp,O,ai]) ⟨L2.Same.refl _,_,rfl⟩ (λi σ G _ hp=>.of (hp.1 _ _ e1)) (λi y σ G hy hp=>?_) fun σ G hp=>?_⟩
   .obtain⟨sG,bp,rfl⟩:=hp;have C:=s1.trans sG;have RG:=M.same C;have au:=ao.but (bo C);obtain⟨dt,bf,ap⟩:=au.1.2;apply⟨p,x,ss,ns,TI,bs,j,y,rfl,RG.wt,.inr ⟨(0,j),.inl ⟨⟨RG.wb.web,RG.wt.adj,au.1.1,au.2⟩,rfl⟩,λf J2 I ef=>?_⟩⟩;ext;have am:=(bf.same (zB p G)).same I;show⟨_,.list [.str (tgQ 0),dt,.bool false],rfl,qg0 ef am,saS ap 0,?_⟩;apply⟨wqqf,λf2 h2=>?_⟩;have L:=qC (Sr J2) (o:=.lst [.str "pairs",j,.bl false]) h2;have e4:upd J2 f2 (.lst [.str "pairs",j,.bl false]) f2=some (.lst [.str (tgQ 0),j,.bl false]):=qb;generalize upd J2 f2 (.lst [.str "pairs",j,.bl false])=J3 at L e4;apply⟨_,.list [.str (tgQ 0),dt,.bool false],rfl,qg0 e4 (am.same L),saS ap 0,?_⟩;show qhf ?_;show⟨_,rfl,qL (λh=>by cases h) λ_=>?_⟩;apply⟨(sG.trans I).trans L,_,rfl⟩
   .obtain⟨sG,bp,rfl⟩:=hp;have C:=s1.trans sG;ext;rw[az,aj];show⟨hD,j,b,_,_,_,_,_,rfl,λc o z e=>C c o (bJ c o z e),M.same C,C _ _ aa,ao.but (bo C),ag.but (bo C)⟩
  case cut2 =>
   intro D σ J h;rw[ay] at h;obtain⟨hD,j,y6,y8,y9,Y,O,ai,rfl,bJ,M,aa,ao⟩:=h;have nr:=M.pu.neS aa;have lb:((gs.map (tn ss)).map V.str).length=gs.length:=by rw[ya,ya]
   obtain⟨A,ac⟩:∃ A,A=(gs.map (tn ss)).map V.str:=⟨_,rfl⟩;rw[<- ac] at lb;have af:J r=some (.lst A):=by rw[ac];show aa
   apply⟨r,_,rfl,.inl ⟨.of af,λt1 aq=>?_⟩⟩;have s1:=qC (Sr J) (o:=.tup A) aq;have e1:upd J t1 (.tup A) t1=some (.tup A):=qb;have n1:=M.pu.apart aq;generalize upd J t1 (.tup A)=J1 at s1 e1;have X1:UlO p ss J1 (.ref t1):=⟨(Ok.tup (k:=2) (n:=100) (m:=4) e1 n1 (by lk) (by rw[ac];show qeA B)).mono (by lk) (by decide),qa8 λa xs al e2=>by cases al;rw[e1] at e2;cases e2⟩;have S:=M.same s1;apply⟨wqqd,λa1 h1=>?_⟩;have C:=qC (Sr J1) (o:=.lst [.str "a"]) h1;have e2:upd J1 a1 (.lst [.str "a"]) a1=some (.lst [.str "a"]):=qb;have n2:=S.pu.apart h1;generalize upd J1 a1 (.lst [.str "a"])=J2 at C e2;have R2:=S.same C;apply⟨wqqd,λa2 h2=>?_⟩;have I:=qC (Sr J2) (o:=.lst [.ref a1]) h2;have e3:upd J2 a2 (.lst [.ref a1]) a2=some (.lst [.ref a1]):=qb;generalize upd J2 a2 (.lst [.ref a1])=J3 at I e3;have R3:=R2.same I;have ak:=(s1.trans C).trans I;apply .inl ⟨r,a2,_,_,rfl,rfl,ak _ _ af,e3,by rw[lb];show yN (qh (by simp only[yx,Yv];lk)),λN h3=>?_⟩;have L:=qC (Sr J3) (o:=.lst (A++[.ref a1])) h3;have e4:upd J3 N (.lst (A++[.ref a1])) N=some (.lst (A++[.ref a1])):=qb;have n4:=R3.pu.apart h3;generalize upd J3 N (.lst (A++[.ref a1]))=J4 at L e4;have R4:=R3.same L;have ck:=ak.trans L;have X4:∀ y∈[V.ref N,.ref t1],UlO p ss J4 y:=all_cons (qdO B (by rw[<- ac];show e4) n4 (((Ok.lst (k:=0) (n:=1) (m:=1) ((I.trans L) _ _ e2) n2 (by show 1<=1000;decide) (qf9 (Ok.str (by room) (by room) (by room)))).mono (by show 2<=100;decide) (by decide)).deep) rfl) (qf9 X1) λy h=>h.but λc o _ e=>((C.trans I).trans L) c o e;apply⟨wqqd,λU h4=>?_⟩;have s5:=qC (Sr J4) (o:=.lst [.str "zzzzzzz"]) h4;have e5:upd J4 U (.lst [.str "zzzzzzz"]) U=some (.lst [.str "zzzzzzz"]):=qb;generalize upd J4 U (.lst [.str "zzzzzzz"])=J5 at s5 e5;have R5:=R4.same s5;apply .inl ⟨r,U,_,_,rfl,rfl,s5 _ _ (ck _ _ af),e5,by rw[lb];show yN (qh (by simp only[yx,Yv];lk)),λa5 h5=>?_⟩;have s6:=qC s5 (o:=.lst (A++[.str "zzzzzzz"])) h5;have e6:upd J5 a5 (.lst (A++[.str "zzzzzzz"])) a5=some (.lst (A++[.str "zzzzzzz"])):=qb;have n6:=R5.pu.apart h5;generalize upd J5 a5 (.lst (A++[.str "zzzzzzz"]))=J6 at s6 e6;have R6:=R4.same s6;have X6:∀ y∈[V.ref a5,.ref N,.ref t1],UlO p ss J6 y:=all_cons (qdO B (by rw[<- ac];show e6) n6 (Ok.str (by room) (by room) (by room)) (by room)) X4 λy h=>h.but λc o _ e=>s6 c o e;apply⟨wqqd,λW h6=>?_⟩;have dd:=ck.trans s6;have s7:=qC (Sr J6) (o:=.lst [.ref r]) h6;have e7:upd J6 W (.lst [.ref r]) W=some (.lst [.ref r]):=qb;have n7:=R6.pu.apart h6;generalize upd J6 W (.lst [.ref r])=J7 at s7 e7;have R7:=R6.same s7;have bj:=dd.trans s7;have X7:∀ y∈[V.ref W,.ref a5,.ref N,.ref t1],UlO p ss J7 y:=all_cons ⟨Ok.run e7 n7 (by show 1<=31;decide) (qf9 (qga B (bj _ _ aa) nr)),by rw[qaG e7];show qdL (y:=.ref r) (qb6 rfl) (by simp)⟩ X6 λy h=>h.but λc o _ e=>s7 c o e;apply⟨wqqd,λa7 h7=>?_⟩;have s8:=qC (Sr J7) (o:=.lst [.non]) h7;have e8:upd J7 a7 (.lst [.non]) a7=some (.lst [.non]):=qb;generalize upd J7 a7 (.lst [.non])=J8 at s8 e8;have R8:=R7.same s8;apply .inl ⟨r,a7,_,_,rfl,rfl,s8 _ _ (bj _ _ af),e8,by rw[lb];show yN (qh (by simp only[yx,Yv];lk)),λa8 h8=>?_⟩;have s9:=qC s8 (o:=.lst (A++[.non])) h8;have e9:upd J8 a8 (.lst (A++[.non])) a8=some (.lst (A++[.non])):=qb;have n9:=R8.pu.apart h8;generalize upd J8 a8 (.lst (A++[.non]))=J9 at s9 e9;have R9:=R7.same s9;have de:=bj.trans s9;have X9:∀ y∈[V.ref a8,.ref W,.ref a5,.ref N,.ref t1],UlO p ss J9 y:=all_cons (qdO B (by rw[<- ac];show e9) n9 Ok.non rfl) X7 λy h=>h.but λc o _ e=>s9 c o e;apply⟨by show 8<=sizeLine;decide,λno an=>?_⟩;obtain⟨xs,X⟩:∃ xs,xs=[V.non,.int 0,.str "a",.ref t1,.ref N,.ref a5,.ref W,.ref a8]:=⟨_,rfl⟩;have ad:=qC de (o:=.lst xs) an;have cg:=qC (Sr J9) (o:=.lst xs) an;have bq:upd J9 no (.lst xs) no=some (.lst xs):=qb;rw[<- X];have xl:xs.length=8:=by rw[X];rfl
   generalize upd J9 no (.lst xs)=J10 at ad cg bq
   have X10:∀ y∈xs,UlO p ss J10 y:=λy hy=>UlO.but (J:=J9) (by
    have ah:∀{v:V},(∀ a,v≠.ref a)->ulV J9 ss v=false:=λh=>qa8 λa xs e=>absurd e (h a);rw[X] at hy;simp only[yv,yQ,Yw] at hy;rcases hy with rfl | rfl | rfl | rfl | rfl | rfl | rfl | rfl
    .show⟨Ok.fl0 Ok.non,ah λa e=>by cases e⟩
    .show⟨Ok.fl0 (Ok.int (by decide) (by decide)),ah λa e=>by cases e⟩
    .show⟨Ok.fl0 (Ok.str (by room) (by room) (by room)),ah λa e=>by cases e⟩
    .show X9 _ (by simp)
    .show X9 _ (by simp)
    .show X9 _ (by simp)
    .show X9 _ (by simp)
    .show X9 _ (by simp)) λc o _ e=>cg c o e
   clear X1 X4 X6 X7 X9 X;apply .inl ⟨r,_,rfl,.of (ad _ _ af),λb1 cr=>?_⟩;rw[qgU];have av:=qC (Sr J10) (o:=.lst (A.take 1)) cr;have br:upd J10 b1 (.lst (A.take 1)) b1=some (.lst (A.take 1)):=qb;generalize upd J10 b1 (.lst (A.take 1))=J11 at av br;have R11:=(M.same ad).same av;apply .inl ⟨b1,r,_,_,rfl,rfl,br,av _ _ (ad _ _ af),by rw[lb,yK];show yN (qh (by lk)),λt ce=>?_⟩;have ch:=qC av (o:=.lst (A.take 1++A)) ce;have bt:upd J11 t (.lst (A.take 1++A)) t=some (.lst (A.take 1++A)):=qb;have cy:=R11.pu.apart ce;generalize upd J11 t (.lst (A.take 1++A))=J12 at ch bt;apply⟨wqqd,λb3 cs=>?_⟩;have bh:=qC (Sr J12) (o:=.lst [.ref t]) cs;have bu:upd J12 b3 (.lst [.ref t]) b3=some (.lst [.ref t]):=qb;generalize upd J12 b3 (.lst [.ref t])=J13 at bh bu;apply⟨b3,_,_,rfl,rfl,bu,by decide,by decide,wqqf,λb4 ct=>?_⟩;rw[show(List.replicate (Int.toNat 3) [V.ref t]).flatten=[V.ref t,.ref t,.ref t] from rfl];have bi:=qC (Sr J13) (o:=.lst [V.ref t,.ref t,.ref t]) ct;have bw:upd J13 b4 (.lst [V.ref t,.ref t,.ref t]) b4=some (.lst [V.ref t,.ref t,.ref t]):=qb;generalize upd J13 b4 (.lst [V.ref t,.ref t,.ref t])=J14 at bi bw;have ae:=(ch.trans bh).trans bi;show .inl ⟨no,b4,_,_,rfl,rfl,ae _ _ bq,bw,by rw[xl];show 8+3<=sizeLine;decide,λb5 be=>?_⟩;have ar:=qC ae (o:=.lst (xs++[V.ref t,.ref t,.ref t])) be;have ci:=qC (bh.trans bi) (o:=.lst (xs++[V.ref t,.ref t,.ref t])) be;have bx:upd J14 b5 (.lst (xs++[V.ref t,.ref t,.ref t])) b5=some (.lst (xs++[V.ref t,.ref t,.ref t])):=qb;have R15:=(M.same ad).same ar;have cz:=((M.same ad).same ae).pu.apart be;have ax:=ar _ _ (ad _ _ af);generalize upd J14 b5 (.lst (xs++[V.ref t,.ref t,.ref t]))=J15 at ar ci bx R15 ax;have XB:gs≠[]->UlO p ss J15 (.ref t):=λg0=>bar_dup B (by rw[<- ac];show ci _ _ bt) cy g0;have X15:∀ y∈xs,UlO p ss J15 y:=λy hy=>(X10 y hy).but λc o _ e=>ar c o e;apply⟨wqqc,λz hz=>?_⟩;have aw:=qC (Sr J15) (o:=.lst []) hz;have ez:upd J15 z (.lst []) z=some (.lst []):=qb;generalize upd J15 z (.lst [])=J16 at aw ez;show qhA (n:=1) (by decide) (qcJ (aw _ _ ax) ez) ?_;apply .inr ⟨_,rfl,?_⟩;show⟨.inl (by decide),?_⟩;ext
   obtain⟨m,em,m0,m1,m2⟩:∃ m:Nat,(8+3*(if (!A.isEmpty)=true then(1:Int) else 0))=(m:Int)/\0<m/\m<=11/\(gs=[]->m=8):=by
    rw[ac]
    cases gs with
    | nil=>show⟨8,rfl,by decide,by decide,λ_=>rfl⟩
    | cons u r=>show⟨11,rfl,by decide,by decide,λh=>by cases h⟩
   rw[em];have R16:=R15.same aw;show⟨p,m,rfl,R16.pu,m0,by lk,λd J17 hd cl dc=>?_⟩
   obtain⟨th,ag,hU⟩:∃ th,(xs++[V.ref t,.ref t,.ref t])[d]?=some th/\UlO p ss J15 th:=by
    by_cases h8:d<8
    .show⟨xs[d]'(by lk),?_,X15 _ (Xj _)⟩;rw[Yi (by lk),yb]
    .have g0:gs≠[]:=λz=>by have:=m2 z;lk
     show⟨.ref t,?_,XB g0⟩;rw[yY (by lk),xl];have:d-8=0\/d-8=1\/d-8=2:=by lk
     rcases this with h | h | h<;>rw[h]<;>rfl
   have bc:But p J15 J17:=λc o np e=>cl c o np (aw c o e);show .inl (zo (bc _ _ cz bx) (qt ag) ?_);ext;rw[aj];have bT:But p J J17:=λc o np e=>bc c o np (ar c o (ad c o e));show⟨hD,j,th,_,_,_,_,_,rfl,λc o np e=>bT c o np (bJ c o np e),M.but bT dc,bT _ _ nr aa,ao.but bT,hU.but bc⟩
  .have di:=R.g.few;have ul:=R.pl.2.len;have nr:=R.pu.neS er;ext;intro d hd;have n1:=R.pu.apart hd;have s1:=qC (Sr H) (o:=.dK []) hd;have e1:upd H d (.dK []) d=some (.dK []):=qb;generalize upd H d (.dK [])=H1 at s1 e1;have S:=R.same s1;have X1:NpO p ss (TI.map (nmP ss)) H1 (.ref d):=⟨Ok.fl0 (Ok.dnil (m:=1) e1 n1),qaz λa xs al e2=>by cases al;rw[e1] at e2;cases e2⟩;apply⟨l,_,rfl,.inl ⟨.of S.pl.1,λt1 aq=>?_⟩⟩;have C:=qC (Sr H1) (o:=.tup (us.map V.ref)) aq;have e2:upd H1 t1 (.tup (us.map V.ref)) t1=some (.tup (us.map V.ref)):=qb;have n2:=S.pu.apart aq;generalize upd H1 t1 (.tup (us.map V.ref))=H2 at C e2;have R2:=S.same C;have X2:∀ y∈[V.ref t1,.ref d],NpO p ss (TI.map (nmP ss)) H2 y:=all_cons ⟨(Ok.tup (k:=2) (n:=100) (m:=4) e2 n2 (by rw[ya];lk) (R2.pl.ok2 R2.g R2.nm R2.pu)).mono (by rw[ya];lk) (by decide),qaz λa xs al bz=>by cases al;rw[e2] at bz;cases bz⟩ (qf9 X1) λy h=>h.but λc o _ e=>C c o e;apply⟨wqqd,λN h3=>?_⟩;have I:=qC (Sr H2) (o:=.lst [.non]) h3;have e3:upd H2 N (.lst [.non]) N=some (.lst [.non]):=qb;have n3:=R2.pu.apart h3;generalize upd H2 N (.lst [.non])=H3 at I e3;have R3:=R2.same I;have X3:∀ y∈[V.ref N,.ref t1,.ref d],NpO p ss (TI.map (nmP ss)) H3 y:=all_cons ⟨Ok.run e3 n3 (by show 1<=31;decide) (qf9 Ok.non),by rw[qbg e3];show qcM (y:=.non) rfl (by simp)⟩ X2 λy h=>h.but λc o _ e=>I c o e;apply⟨wqqe,λU h4=>?_⟩;have L:=qC (Sr H3) (o:=.tup [.str "zzzzzzz",.str "a"]) h4;have e4:upd H3 U (.tup [.str "zzzzzzz",.str "a"]) U=some (.tup [.str "zzzzzzz",.str "a"]):=qb;have n4:=R3.pu.apart h4;generalize upd H3 U (.tup [.str "zzzzzzz",.str "a"])=H4 at L e4;have R4:=R3.same L;apply⟨wqqd,λa5 h5=>?_⟩;have s5:=qC (Sr H4) (o:=.lst [.ref U]) h5;have e5:upd H4 a5 (.lst [.ref U]) a5=some (.lst [.ref U]):=qb;have n5:=R4.pu.apart h5;replace e4:=s5 _ _ e4;generalize upd H4 a5 (.lst [.ref U])=H5 at s5 e5 e4;have R5:=R4.same s5;have cj:∀{z:Str},(∀ c∈z.cps.toList,c<16 ^ 8)->z.length<=7->Ok p H5 0 7 1 (.str z):=λh h'=>Ok.str h h' (by lk);have db:Ok p H5 2 100 4 (.ref U):=((Ok.tup (k:=0) (n:=7) (m:=1) e4 n4 (by show 2<=1000;decide) (qhy (cj (by room) (by room)) (cj (by room) (by room)))).mono (by show 16<=100;decide) (by decide)).deep
   have tN:qbm H5 ss (TI.map (nmP ss)) (.ref U)=none:=by
    unfold qbm
    rw[qes e4,yD (λh=>by
     have hz:jf ss (.str "zzzzzzz")=false:=qb6 (by room);unfold qeH at h;rw[hz] at h;cases h)]
   have X5:∀ y∈[V.ref a5,.ref N,.ref t1,.ref d],NpO p ss (TI.map (nmP ss)) H5 y:=all_cons ⟨Ok.run e5 n5 (by show 1<=31;decide) (qf9 db),by rw[qbg e5];show qcM tN (by simp)⟩ X3 λy h=>h.but λc o _ e=>(L.trans s5) c o e;apply⟨wqqd,λW h6=>?_⟩;have s6:=qC (Sr H5) (o:=.tup [.str "a"]) h6;have e6:upd H5 W (.tup [.str "a"]) W=some (.tup [.str "a"]):=qb;have n6:=R5.pu.apart h6;generalize upd H5 W (.tup [.str "a"])=H6 at s6 e6;have R6:=R5.same s6;apply⟨wqqd,λa7 h7=>?_⟩;have s7:=qC (Sr H6) (o:=.lst [.ref W]) h7;have e7:upd H6 a7 (.lst [.ref W]) a7=some (.lst [.ref W]):=qb;replace e6:=s7 _ _ e6;generalize upd H6 a7 (.lst [.ref W])=H7 at s7 e7 e6;have R7:=R6.same s7;apply .inl ⟨l,a7,_,_,rfl,rfl,R7.pl.1,e7,by rw[ya];show yN (qh (by simp only[yx,Yv];lk)),λa8 h8=>?_⟩;have s8:=qC (Sr H7) (o:=.lst (us.map V.ref++[.ref W])) h8;have e8:upd H7 a8 (.lst (us.map V.ref++[.ref W])) a8=some (.lst (us.map V.ref++[.ref W])):=qb;have n8:=R7.pu.apart h8;replace e6:=s8 _ _ e6;generalize upd H7 a8 (.lst (us.map V.ref++[.ref W]))=H8 at s8 e8 e6;have R8:=R7.same s8;have da:Ok p H8 2 100 4 (.ref W):=((Ok.tup (k:=0) (n:=1) (m:=1) e6 n6 (by show 1<=1000;decide) (qf9 (Ok.str (by room) (by room) (by room)))).mono (by show 2<=100;decide) (by decide)).deep;have X8:∀ y∈[V.ref a8,.ref a5,.ref N,.ref t1,.ref d],NpO p ss (TI.map (nmP ss)) H8 y:=all_cons ⟨Ok.run e8 n8 (by rw[yu,ya];show _+1<=31;lk) (λy hy=>(yG.mp hy).elim (R8.pl.ok2 R8.g R8.nm R8.pu y) λz=>by rw[yC.mp z];show da),by rw[qbg e8];show qcM (y:=.ref W) (by unfold qbm;rw[zU λa xs z y=>by cases z;rw[e6] at y;cases y;decide]) (by simp)⟩ X5 λy h=>h.but λc o _ e=>((s6.trans s7).trans s8) c o e;apply⟨by show 8<=sizeLine;decide,λno an=>?_⟩;have n9:=R8.pu.apart an;obtain⟨xs,X⟩:∃ xs,xs=[V.non,.int 3,.str "a",.ref d,.ref t1,.ref N,.ref a5,.ref a8]:=⟨_,rfl⟩;have s9:=qC (Sr H8) (o:=.lst xs) an;have e9:upd H8 no (.lst xs) no=some (.lst xs):=qb;rw[<- X];have xl:xs.length=8:=by rw[X];rfl
   generalize upd H8 no (.lst xs)=H9 at s9 e9;have R9:=R8.same s9
   have X9:∀ y∈xs,NpO p ss (TI.map (nmP ss)) H9 y:=λy hy=>NpO.but (J:=H8) (by
    have ah:∀{v:V},(∀ a,v≠.ref a)->apV H8 ss (TI.map (nmP ss)) v=false:=λh=>qaz λa xs e=>absurd e (h a);rw[X] at hy;simp only[yv,yQ,Yw] at hy;rcases hy with rfl | rfl | rfl | rfl | rfl | rfl | rfl | rfl
    .show⟨Ok.fl0 Ok.non,ah λa e=>by cases e⟩
    .show⟨Ok.fl0 (Ok.int (by decide) (by decide)),ah λa e=>by cases e⟩
    .show⟨Ok.fl0 (Ok.str (by room) (by room) (by room)),ah λa e=>by cases e⟩
    .show X8 _ (by simp)
    .show X8 _ (by simp)
    .show X8 _ (by simp)
    .show X8 _ (by simp)
    .show X8 _ (by simp)) λc o _ e=>s9 c o e
   clear X1 X2 X3 X5 X8 X;have sA:=((((((((s1.trans C).trans I).trans L).trans s5).trans s6).trans s7).trans s8).trans s9);apply⟨p,8,rfl,R9.pu,by decide,by decide,λk J hk bk pk=>?_⟩;obtain⟨j,ba⟩:∃ j,xs[k]?=some j:=⟨_,yb (by lk)⟩;show .inl (zo (bk _ _ n9 e9) (qt ba) ?_);ext;rw[ay];show⟨λu H' z=>z,j,_,_,_,_,_,_,rfl,λc o np e=>bk c o np (sA c o e),R9.but bk pk,bk _ _ nr (sA _ _ er),(X9 j (ye ba)).but bk⟩
theorem qeB:∀{ps:List (LS)},(∀ p∈ps,p.length % 2=0)->ps.flatten.length % 2=0
 | [],_=>rfl
 | p::r,h=>by
  rw[xw,yu];have h1:=h p yM;have b:=qeB (ps:=r) λq a=>h q (yy _ a);lk
theorem qfv:∀{ps:List (LS)},(∀ p∈ps,p.Nodup)->(ps.Pairwise λp q=>∀ a∈p,a∉q)->ps.flatten.Nodup
 | [],_,_=>.nil
 | p::r,h,g=>by
  obtain⟨f,i⟩:=List.pairwise_cons.mp g;rw[xw];show Yk.mpr ⟨h p yM,qfv (λq d=>h q (yy _ d)) i,λa j b hb e=>?_⟩;obtain⟨q,d,c⟩:=Kl.mp hb;show f q d a j (e ▸ c)
section
variable{ss:LS}{tps qs:LP}{S:FS}{bar:LS}{ps:List (LS)}
theorem strong(F:Fn (tA tps) (pt qs) S ss)(hb:∀ s,s∈bar↔s∈qdF S ss)(C:PcsOk ss tps bar ps):(snL (pt qs) ss).length+(qdF S ss).length<=((ps.filter qbr).filter λp=>p.all λa=>(S.rows a).isSome).length:=by
 rw[<- F.count]
 have cls:∀{p:LS} {b:Str},p∈ps->∀{a c:Str},a∈p->c∈p->a∈qdE S ss b->c∈qdE S ss b:=λ{p b} d {a c} n hc h=>by
  show C.con p d (λx=>x∈qdE S ss b) (λu D v hv t h=>?_) a n c hc h;obtain⟨_,j,o⟩:=mem_cls.mp h;rcases F.cl u v j t with e | ⟨e1,e2⟩
  .show mem_cls.mpr ⟨((C.h1 p d).2.1 v hv).1,F.fi.evE j e,e.trans o⟩
  .show absurd ((hb v).mpr (mem_bar.mpr ⟨((C.h1 p d).2.1 v hv).1,e1,e2⟩)) ((C.h1 p d).2.1 v hv).2
 have w:∀ b∈qaD S ss,∃ p∈(ps.filter qbr).filter (λp=>p.all λa=>(S.rows a).isSome),S.bas (p.headD "")=b:=λb q=>yX λhc=>by
  have A:=F.cls_odd q;obtain⟨rs,i⟩:∃ rs,rs=ps.filter λp=>p.any λa=>decide (a∈qdE S ss b):=⟨_,rfl⟩
  have f:∀ p∈rs,p∈ps/\∀ a∈p,a∈qdE S ss b:=λp d=>by
   rw[i] at d;obtain⟨h1,j⟩:=yp.mp d;obtain⟨a,n,o⟩:=YV.mp j;show⟨h1,λc hc=>cls h1 n hc (yk o)⟩
  have y:(qdE S ss b).length=rs.flatten.length:=by
   show((XE (F.nd.filter _) (qfv (λp d=>(C.h1 p (f p d).1).1) ?_)).mpr λa=>⟨λh=>?_,λh=>?_⟩).length_eq
   .rw [i];show C.h2.filter _
   .obtain⟨h1,j,_⟩:=mem_cls.mp h;obtain⟨p,d,g⟩:=C.cov a h1 λz=>j (mem_bar.mp ((hb a).mp z)).2.2;show Kl.mpr ⟨p,by rw[i];show yp.mpr ⟨d,YV.mpr ⟨a,g,yz h⟩⟩,g⟩
   .obtain⟨p,d,g⟩:=Kl.mp h;show(f p d).2 a g
  have B:=qeB (ps:=rs) λp d=>by
   cases e:qbr p with
   | false=>have:=of_decide_eq_false e;lk
   | true =>
    show absurd ⟨p,yp.mpr ⟨yp.mpr ⟨(f p d).1,e⟩,Yr.mpr λa n=>Option.isSome_iff_ne_none.mpr (mem_cls.mp ((f p d).2 a n)).2.1⟩,?_⟩ hc
    cases p with
    | nil=>cases e
    | cons a r=>show(mem_cls.mp ((f _ d).2 a yM)).2.2
  lk
 have:=qb7 (l:=qaD S ss) (m:=((ps.filter qbr).filter λp=>p.all λa=>(S.rows a).isSome).map λp=>S.bas (p.headD "")) (F.nd.filter _) λb h=>by
  obtain⟨p,d,e⟩:=w b h;show yB.mpr ⟨p,d,e⟩
 rwa[ya] at this
end
section
variable{cw x:Addr}{H:Hp}{ss:LS}{ns bs gs:LN}{TI:List (Nat×Nat)}{qs:LP}{S:FS}
theorem qfw(W:Wt cw H x ss ns (TI.map (nmP ss)))(g:PGo ss (TI.map (nmP ss)) qs)(F:Fn (tA (TI.map (nmP ss))) (pt qs) S ss){k:Nat}(a:k<ss.length):k∈frI (TI.map (nmP ss)) ss ss.length↔S.rows (tn ss k)≠none:=by
 have b:=W.wok.nd;unfold frI;rw[yp,Yh,yJ]
 have c:tbQ (TI.map (nmP ss)) ss (q9 (2 ^ ss.length-1) (2 ^ k))=mo (TI.map (nmP ss)) (del ss (tn ss k)).length (del ss (tn ss k)):=by
  unfold tbQ;rw[qdK b (jE a),qdM];show qgl W.ir (qb2 _ _) (yh _) (b.filter _)
 have d:tbQ (TI.map (nmP ss)) ss (2 ^ ss.length-1)=mo (TI.map (nmP ss)) ss.length ss:=by unfold tbQ;rw[qdM]
 rw[c,d,mx_loose W.ir b g F (qa0 a)];show⟨λh=>h.2,λh=>⟨a,h⟩⟩
theorem qgb(W:Wt cw H x ss ns (TI.map (nmP ss)))(f:TJ ss.length TI)(hb:BtJ ss.length TI bs)(g:PGo ss (TI.map (nmP ss)) qs)(F:Fn (tA (TI.map (nmP ss))) (pt qs) S ss){k:Nat}(c:k<ss.length):nrI bs (frI (TI.map (nmP ss)) ss ss.length) k=true↔tn ss k∈qdF S ss:=by
 have h:=W.wok.nd;unfold nrI;rw[yL,YD,Y8,YD,List.isEmpty_eq_false_iff_exists_mem,mem_bar,qfw W g F c,Classical.not_not];constructor
 .rintro ⟨h1,j,d⟩;obtain⟨m1,t⟩:=yp.mp d;have a:j<ss.length:=Yh.mp (yp.mp m1).1;have i:=(qfw W g F a).mp m1;have o:tA (TI.map (nmP ss)) (tn ss k) (tn ss j):=(qfL h f (jE c) (jE a)).mpr ((hb.2.2 k j).mp t);rcases F.cl _ _ i o.symm with z | z
  .show absurd h1 (F.fi.evE i z)
  .show⟨qa0 c,z⟩
 .rintro ⟨_,m,n⟩;obtain⟨z,p⟩:=some_of m;obtain⟨q,⟨r,s⟩,_⟩:=F.fi.odd _ z p;have b:S.rows z≠none:=by rw[s];show λy=>by cases y
  obtain⟨j,e⟩:=yf (F.es z b);have a:=(yc.mp e).1;have l:z=tn ss j:=by rw[jE a] at e;cases e;rfl
  subst l;show⟨n,j,yp.mpr ⟨(qfw W g F a).mpr b,(hb.2.2 k j).mpr ((qfL h f (jE c) (jE a)).mp q.symm)⟩⟩
theorem near_meets(W:Wt cw H x ss ns (TI.map (nmP ss)))(m:TJ ss.length TI)(hb:BtJ ss.length TI bs)(g:PGo ss (TI.map (nmP ss)) qs)(e:qs.length=mo (TI.map (nmP ss)) ss.length ss)(j:gs=(List.range ss.length).filter (nrI bs (frI (TI.map (nmP ss)) ss ss.length))):BarJ ss TI bs gs/\zF bs gs ss.length qs.length=true:=by
 have l:=W.wok.nd;have B:BarJ ss TI bs gs:=⟨⟨W.wok.few,l,W.wok.nm⟩,m,hb,j ▸ List.nodup_range.filter _,λk b=>by rw[j] at b;show Yh.mp (yp.mp b).1⟩;have C:=qfm B;obtain⟨S,F⟩:=mx_of_mo W g e
 have i:∀ s,s∈gs.map (tn ss)↔s∈qdF S ss:=λs=>by
  rw[yB];constructor
  .rintro ⟨k,b,rfl⟩;rw[j] at b;obtain⟨w,y⟩:=yp.mp b;show(qgb W m hb g F (Yh.mp w)).mp y
  .intro q;obtain⟨k,b⟩:=yf (mem_bar.mp q).1;have d:=(yc.mp b).1;have r:s=tn ss k:=by rw[jE d] at b;cases b;rfl
   subst r;show⟨k,by rw[j];show yp.mpr ⟨Yh.mpr d,(qgb W m hb g F d).mpr q⟩,rfl⟩
 have h1:=strong F i C;have o:=weak g.mt W.ir C.h1 C.h2;have t:=yI (λp:LS=>p.all λa=>(S.rows a).isSome) (((pcJ bs gs ss.length).map λc=>c.map (tn ss)).filter qbr);have nb:(gs.map (tn ss)).Nodup:=YM.mpr (B.nd.imp_of_mem λv hb n z=>n (by rw[<- qb0 l (jE (B.lt _ v)),<- qb0 l (jE (B.lt _ hb)),z]));have u:(gs.map (tn ss)).length<=(qdF S ss).length:=qb7 nb λs h=>(i s).mp h;have A:=qbl (f:=pt qs) (ss:=ss);have D:=g.cnt l;rw[qgS] at o t;rw[ya] at o u;show⟨B,yz (by lk)⟩
theorem meets_perm{a:LN}(B:BarJ ss TI bs gs)(p:a.Perm gs){k:Nat}:BarJ ss TI bs a/\zF bs a ss.length k=zF bs gs ss.length k:=by
 show⟨⟨B.ok,B.tj,B.bt,p.nodup_iff.mpr B.nd,λj d=>B.lt j (p.mem_iff.mp d)⟩,?_⟩
 have c:j9 a ss.length=j9 gs ss.length:=by
  unfold j9
  congr 1
  show YL λj _=>by rw[Yo.mpr p.mem_iff]
 have b:odJ bs a ss.length=odJ bs gs ss.length:=by unfold odJ pcJ rmJ;rw[c]
 unfold zF;rw[b,p.length_eq]
end
theorem KC:FnScope wqa wq7 (qg qdl):=fS
inductive spLaw(K:W.Frag)(vs:List V)(H:Hp)(Q:VK)(E:XK):Prop|mk (a:Addr) (ns:LQ) (_:vs=[.ref a]) (_:SqL K H a (ns.map V.int)) (_:ns.length<=63) (_:∀ H',Q (.bl true) H')
theorem But.sm(b:But p H J)(h:H p=none):L2.Same H J:=λc o e=>b c o (λz=>by rw[z,h] at e;cases e) e
def Sg(a:Addr)(u:L2.St):Prop:=∃(l m n o p q r s t b c d e f g h i j:Option V),u=[some (.ref a),l,m,n,o,p,q,r,s,t,b,c,d,e,f,g,h,i,j]
def T109(cw a:Addr)(D:Ends)(t:L2.St)(J:Hp):Prop:=∃(H1:Hp) (p x n m l r:Addr) (ss:LS) (ns bs gs:LN) (TI:List (Nat×Nat)) (us:LI) (qs:LP) (o q s c d e f g h i j:Option V),(∀ b J',L2.Same H1 J'->Sg a b->D.nx b J')/\H1 p=none/\But p H1 J/\RfW p cw x n m l ss ns bs TI us qs J/\J r=some (.lst ((gs.map (tn ss)).map V.str))/\BarJ ss TI bs gs/\zF bs gs ss.length qs.length=true/\t=[some (.ref a),o,some (.ref p),some (.int (ss.length:Int)),some (.ref n),q,some (.ref m),s,some (.ref x),some (.ref l),some (.ref r),c,d,e,f,g,h,i,j]
theorem spMe_mk{n c r:Addr}{bs:LN}{TI:List (Nat×Nat)}{Q:VK}(R:RfW p cw x n c l ss ns bs TI us qs H)(e:H r=some (.lst ((gs.map (tn ss)).map V.str)))(d:r≠p)(B:BarJ ss TI bs gs)(f:zF bs gs ss.length qs.length=true)
  (h:∀(g:Addr) (a:LN) (H':Hp),But p H H'->Pu H' p->g≠p->H' g=some (.lst ((a.map (tn ss)).map V.str))->BarJ ss TI bs a->zF bs a ss.length qs.length=true->Q (.ref g) H'):spMe cw [.ref p,.ref n,.ref c,.ref l,.ref r] H Q E:=
 ⟨p,x,n,c,l,r,ss,ns,bs,TI,us,qs,rfl,R,λH' b i=>h r gs H' b i d (b _ _ d e) B f,h⟩
def ApI(H0:Hp)(f o:Addr)(ts:LI)(N:Nat)(J:Hp):Prop:=L2.Same H0 J/\J f=some (.lst [.str "told",.ref o])/\J o=some (.lst (ts.map V.ref))/\∀ t∈ts,∃(a b:Addr) (w:Str) (ks ms:LS),J t=some (.tup [.ref a,.str w,.ref b])/\J a=some (.lst (ks.map V.str))/\J b=some (.lst (ms.map V.str))/\H0 a=none/\H0 b=none/\ks.length<=N/\ms.length<=N
theorem ApI.app{f o c:Addr}{N:Nat}{ks:LS}(h:ApI H0 f o ts N J)(R:ts≠[])(hc:J c=some (.lst (ks.map V.str)))(x:H0 c=none)(T:ks.length<=N):ApI H0 f o ts (N+1) (upd J c (.lst ((ks++[s]).map V.str))):=by
 obtain⟨h1,i,g,B⟩:=h;have A:upd J c (.lst ((ks++[s]).map V.str)) c=some (.lst ((ks++[s]).map V.str)):=qb;show⟨λz u e=>?_,?_,?_,λt C=>?_⟩
 .rw [qi (λy=>by rw[y,x] at e;cases e)];show h1 z u e
 .rw [qi (λy=>by
   rw[y,hc] at i
   injection i with i;injection i with i
   have:=congrArg (λl=>l[1]?) i;simp only[yd] at this
   cases q:ks[1]? with
   | none=>rw[q] at this;cases this
   | some k=>rw[q] at this;cases this)];show i
 .rw [qi (λy=>by
   rw[y,hc] at g
   injection g with g;injection g with g
   cases ts with
   | nil=>show R rfl
   | cons t r=>cases ks with
    | nil=>cases g
    | cons k r=>injection g with g;cases g)];show g
 .obtain⟨a,b,w,K,P,n,D,E,F,G,H,I⟩:=B t C;have S:t≠c:=λy=>by rw[y,hc] at n;cases n
  have v:∀{d:Addr} {m:LS},J d=some (.lst (m.map V.str))->m.length<=N->∃ j:LS,upd J c (.lst ((ks++[s]).map V.str)) d=some (.lst (j.map V.str))/\j.length<=N+1:=λ{d m} e l=>by
   by_cases p:d=c
   .subst p;show⟨_,A,by rw[yu];simp only[yx,Yv];lk⟩
   .show⟨m,by rw[qi p];show e,by lk⟩
  obtain⟨l1,m1,L⟩:=v D H;obtain⟨l2,M,O⟩:=v E I;show⟨a,b,w,l1,l2,by rw[qi S];show n,m1,M,F,G,L,O⟩
theorem reps_few{bs:LN}:(qfz bs gs ss qs).length<=ss.length:=by
 unfold qfz pcJ zT;rw[ya,ya,ya];show yi (yI _ _) (by rw[YE];show yh _)
theorem pts_small{TI:List (Nat×Nat)}{bs:LN}(B:BarJ ss TI bs gs):∀ q∈qfz bs gs ss qs,q.1.length<=14/\q.2.2.length<=14:=λq a=>by
 unfold qfz at a;obtain⟨P,c,rfl⟩:=yB.mp a;have C:=(qfm B).h1 P c;have h1:P.length<=ss.length:=qb7 C.1 λs d=>(C.2.1 s d).1;have b:=B.ok.few;show⟨by show P.length<=14;lk,?_⟩;show(pwQ qs (gs.map (tn ss)) P).2.length<=14;unfold pwQ;split
 .show 0<=14;decide
 .split
  .show 1<=14;decide
  .show 2<=14;decide
theorem ApI.of{f o:Addr}{qs:List (LS×Str×LS)}(w:L2.Same H0 H)(s:L2.Same H J)(g:H f=some (.lst [.str "told",.ref o]))(h:H o=some (.lst (ts.map V.ref)))(d:All2 (PtN H0 H) ts qs)(j:∀ q∈qs,q.1.length<=14/\q.2.2.length<=14):ApI H0 f o ts 14 J:=by
 show⟨w.trans s,s _ _ g,s _ _ h,λt l=>?_⟩;obtain⟨i,e⟩:=yf l;obtain⟨q,c⟩:∃ q,qs[i]?=some q:=⟨_,yb (by rw[<- d.len];show(yc.mp e).1)⟩;obtain⟨a,b,m,n,p,r,u⟩:=d.at_ i t q e c;obtain⟨m1,v⟩:=j q (ye c);show⟨a,b,_,_,_,s _ _ m,s _ _ n,s _ _ p,r,u,m1,v⟩
theorem rot_perm{t:Nat}:(gs.drop t++gs.take t).Perm gs:=(ko).trans (by rw[xR])
theorem ok_law45(F:Fun K "law" "law" qdl f fd)(T:Txt K mg cc cw)(Uq:wq9 1 "_law_cell" wqS (spCe K))(Uj:wq9 1 "_law_purse" wq5 spPu)(Kz:wq9 1 "_law_take" wy spTkP)
  (Ur:wq9 2 "_law_many" wqI spMyP) (Uk:wq9 2 "_law_names" wy spNmJ) (Us:wq9 2 "_law_ties" wy spTsJ)
  (Ut:wq9 7 "_law_made" wqK (spMdJ cw)) (Uu:wq9 1 "_law_bits" wqL spBtJ) (Ul:wq9 1 "_law_table" wqM spTbQ)
  (Um:wq9 2 "_law_named" wqx spNdJ) (u4:wq9 2 "_law_greatest" wqn spGsQ) (Uv:wq9 1 "_law_free" wqw spFeQ)
  (Uw:wq9 1 "_law_near" wqN spNrQ) (uO:wq9 2 "_law_due" wqj spDu) (K1:wq9 14 "_law_said" wqB (spSa cc cw)) (Uy:wq9 3 "_law_met" wqk (spMe cw))
  (u6:wq9 15 "_law_refused" wqf (spRf cw)):wqqb 16 f fd wq7 (spLaw K):=by
 show F.ok KC λ_ _ _ s H vs Q E d h=>?_
 .obtain⟨a,nz,rfl,hS,eq,q⟩:=h;have hu:=za d;obtain⟨TC109,bg⟩:∃ t:TS,t=T109 cw a:=⟨_,rfl⟩;show⟨_,(qc (qR yW rfl (qK (K:=K) rfl (qp (jp (K:=K) rfl) (jo (qeF (K:=K) rfl) (pv 0) jT (jM qf)) (qz (qa (qo Uq (hmR d) qy (qa (pv 0) (qa qf qd))) qd)))) (qm (i:=1) KC.nd rfl (yF rfl))
 (qc (qk (i:=2) KC.nd rfl (yF rfl) (qo Uj (hmR d) qy (qa (pv 1) qd)))
 (qc (qk (i:=3) KC.nd rfl (yF rfl) (qo Ur (hmR d) qy (qa (pv 2) (qa qf qd))))
 (qc (qk (i:=4) KC.nd rfl (Xg rfl) (qo Uk (hmR d) qy (qa (pv 2) (qa (pv 3) qd))))
 (qc (qk (i:=5) KC.nd rfl (yF rfl) (qo Us (hmR d) qy (qa (pv 2) (qa (pv 3) qd))))
 (qc (qk (i:=6) KC.nd rfl (yF rfl) (qo Uu (hmR d) qy (qa (pv 3) (qa (pv 5) qd))))
 (qc (qk (i:=7) KC.nd rfl (yF rfl) (qo Ul (hmR d) qy (qa (pv 3) (qa (pv 6) qd))))
 (qc (qk (i:=8) KC.nd rfl (yF rfl) (qo Ut (hmR d) qy (qa (pv 4) (qa (pv 5) qd))))
 (qc (qk (i:=9) KC.nd rfl (yF rfl) (qo Um (hmR d) qy (qa (pv 2) (qa (pv 4) (qa (qo u4 (hmR d) qy (qa (pv 2) (qa (pv 3) (qa (pv 6) (qa (pv 7) qd))))) qd)))))
 (qc (j5 (sc:=qg qdl) (XN:=wqa) wqu 1 [4] rfl rfl rfl (by room) rfl (by room) (i:=10) KC.nd rfl rfl
  (qK (K:=K) rfl (qo Uw (hmR d) qy (qa (pv 6) (qa (qo Uv (hmR d) qy (qa (pv 3) (qa (pv 6) (qa (pv 7) qd)))) qd)))) (λ_ _ _ _=>(qm (i:=0) (show(wqu:LS).Nodup by room) rfl (yF rfl))) qF
  (λ_ _ _ _=>jW)
  (λ_ _ _ _=>(qu (qv (K:=K) rfl hu) (pv 1) (pv 0) (λ_ _=>rfl))))
 (qaE TC109 (qc (qk (i:=11) KC.nd rfl (yF rfl) (qo Kz (hmR d) qy (qa (pv 2) (qa (qp (jp (K:=K) rfl) (qj (jv (K:=K) rfl) rfl T.b_len Yt (qa (pv 10) qd)) qf) qd))))
 (qe (qR yW rfl (qK (K:=K) rfl (qz (qa (qp (jp (K:=K) rfl) (jo (qeF (K:=K) rfl) (pv 10) (jM (pv 11)) jT) (jo (qeF (K:=K) rfl) (pv 10) jT (jM (pv 11)))) (qa (qo Uy (hmR d) qy (qa (pv 2) (qa (pv 4) (qa (pv 6) (qa (pv 9) (qa (pv 10) qd)))))) qd)))) (qm (i:=12) KC.nd rfl (yF rfl))
 (qc (qk (i:=13) KC.nd rfl (yF rfl) (qo uO (hmR d) qy (qa (pv 4) (qa (pv 6) (qa (pv 9) (qa (pv 12) qd))))))
 (qc (qk (i:=14) KC.nd rfl (yF rfl) (qj (qbe (K:=K) rfl hu d.gd T.smod) rfl T.b_repr Kk (qa (qz (qa (pv 9) (qa (pv 12) qd))) qd)))
 (qc (qk (i:=15) KC.nd rfl (yF rfl) (qo K1 (hmR d) qy (qa (pv 8) (qa (pv 9) (qa (pv 12) qd)))))
 (qc (qN (PW.pt (qaH (qq (qaf (K:=K) rfl hu) (pv 15) (qz (qa qI (qa (pv 13) qd))) (qB _)) (qaH (qS (qQ (qj (qay (K:=K) rfl) rfl T.b_isinstance Yz (qa (qu (qv (K:=K) rfl hu) (pv 15) qf (λ_ _=>rfl)) (qa (jB (v:=.ty "list") rfl T.b_list XG rfl) qd))))) (qac (qq (qaf (K:=K) rfl hu) (qj (qbe (K:=K) rfl hu d.gd T.smod) rfl T.b_repr Kk (qa (qz (qa (pv 9) (qa (pv 12) qd))) qd)) (pv 14) (qB _)))))) (qe (qr ju)) qw)
 (qc (qR yW rfl (qc8 (K:=K) rfl (qu (qv (K:=K) rfl hu) (pv 15) qf (λ_ _=>rfl))) (qca rfl (jm (qm (i:=16) KC.nd rfl (yF rfl)) (jm (qm (i:=17) KC.nd rfl (yF rfl)) (jm (qm (i:=18) KC.nd rfl (yF rfl)) qbb))))
 (qc (qW (qcg (K:=K) rfl yV Yb Yc qG (pv 16) (qa qI qd)))
 (qe (qW (qcg (K:=K) rfl yV Yb Yc qG (pv 18) (qa qI qd))))))
 (qc (qW (qcg (K:=K) rfl yV Yb Yc qG (qu (qv (K:=K) rfl hu) (pv 15) qf (λ_ _=>rfl)) (qa qf qd)))
 (qc (qN (qq (qaf (K:=K) rfl hu) (qo K1 (hmR d) qy (qa (pv 8) (qa (pv 9) (qa (pv 12) qd)))) (qz (qa qI (qa (pv 13) qd))) (qB _)) (qe (qr ju)) qw)
 (qe (qN (qS (qQ (qo u6 (hmR d) qy (qa (pv 2) (qa (pv 8) (qa (pv 4) (qa (pv 6) (qa (pv 9) (qa (pv 12) qd))))))))) (qe (qr ju)) qw)))))))))))) ?cut109)))))))))))
 (qe (qr ju))),?_⟩
  case cut109 =>
   intro D O J h;rw[bg] at h;obtain⟨H1,p,x,n,Y,l,r,ss,ns,bs,gs,TI,us,qs,y1,y5,y7,ee,eg,eh,ei,ej,el,em,ep,hD,ao,bJ,R,er,B,hm,rfl⟩:=h;have eu:=B.few;have nr:=R.pu.neS er;have es:=R.wt.wok.few;apply j6 er ?_;rw[ya,ya];apply⟨p,gs.length+1,rfl,R.pu,by lk,by lk,λA J1 fe b1 p1=>?_⟩;have R1:=R.but b1 p1;have I:=b1 _ _ nr er;apply .inl ⟨r,_,rfl,.of I,λg1 bp=>?_⟩;rw[show qcr ((gs.map (tn ss)).map V.str) (some (A:Int)) none=((gs.drop A).map (tn ss)).map V.str by rw[qaT,kB,kB]];have s2:=qC (Sr J1) (o:=.lst (((gs.drop A).map (tn ss)).map V.str)) bp;have e2:upd J1 g1 (.lst (((gs.drop A).map (tn ss)).map V.str)) g1=some (.lst (((gs.drop A).map (tn ss)).map V.str)):=qb;generalize upd J1 g1 (.lst (((gs.drop A).map (tn ss)).map V.str))=J2 at s2 e2;apply .inl ⟨r,_,rfl,.of (s2 _ _ I),λg2 bq=>?_⟩;rw[show qcr ((gs.map (tn ss)).map V.str) none (some (A:Int))=((gs.take A).map (tn ss)).map V.str by rw[qag,Xr,Xr]];have s3:=qC (Sr J2) (o:=.lst (((gs.take A).map (tn ss)).map V.str)) bq;have e3:upd J2 g2 (.lst (((gs.take A).map (tn ss)).map V.str)) g2=some (.lst (((gs.take A).map (tn ss)).map V.str)):=qb;generalize upd J2 g2 (.lst (((gs.take A).map (tn ss)).map V.str))=J3 at s3 e3;have ar:=s2.trans s3;show .inl ⟨g1,g2,_,_,rfl,rfl,s3 _ _ e2,e3,yN (qh (by simp only[ya,YU,yK];lk)),λr1 ap=>?_⟩;rw[show((gs.drop A).map (tn ss)).map V.str++((gs.take A).map (tn ss)).map V.str=((gs.drop A++gs.take A).map (tn ss)).map V.str by rw[yt,yt]];obtain⟨B1,af⟩:=meets_perm (k:=qs.length) B (rot_perm (t:=A));rw[hm] at af;generalize gs.drop A++gs.take A=ga at B1 af;have s4:=qC ar (o:=.lst ((ga.map (tn ss)).map V.str)) ap;have e4:upd J3 r1 (.lst ((ga.map (tn ss)).map V.str)) r1=some (.lst ((ga.map (tn ss)).map V.str)):=qb;have ci:=(R1.same ar).pu.apart ap;generalize upd J3 r1 (.lst ((ga.map (tn ss)).map V.str))=J4 at s4 e4;have R4:=R1.same s4;apply spMe_mk R4 (s4 _ _ I) nr B hm λrm gm J5 b5 p5 ea da Bm bz=>?_;have R5:=R4.but b5 p5;apply⟨wqqe,λlo bw=>?_⟩;have s6:=qC (Sr J5) (o:=.lst [.ref r1,.ref rm]) bw;have e6:upd J5 lo (.lst [.ref r1,.ref rm]) lo=some (.lst [.ref r1,.ref rm]):=qb;have dz:=R5.pu.apart bw;generalize upd J5 lo (.lst [.ref r1,.ref rm])=J6 at s6 e6;have R6:=R5.same s6;have az:But p J4 J6:=λc o z e=>s6 c o (b5 c o z e)
   have hY:∀ y∈[V.ref r1,V.ref rm],∃(C:Addr) (g0:LN),y=.ref C/\C≠p/\J6 C=some (.lst ((g0.map (tn ss)).map V.str))/\BarJ ss TI bs g0/\zF bs g0 ss.length qs.length=true:=λy W=>by
    simp only[yv,yQ,Yw] at W;rcases W with rfl | rfl
    .show⟨r1,ga,rfl,ci,az _ _ ci e4,B1,af⟩
    .show⟨rm,gm,rfl,ea,s6 _ _ da,Bm,bz⟩
   have ck:But p H1 J6:=λc o z e=>az c o z (s4 c o (b1 c o z (bJ c o z e)));clear af B1 bz Bm e2 e3 e4 bp bq ap s2 s3 ar I;show .inl ⟨⟨_,.of e6⟩,qO (xs:=[.ref r1,.ref rm]) (λi O G=>But p J6 G/\Pu G p/\∃ av aw ax ay L M N,O=[some (.ref a),y1,some (.ref p),some (.int (ss.length:Int)),some (.ref n),y5,some (.ref Y),y7,some (.ref x),some (.ref l),some (.ref r),some (.int (A:Int)),av,aw,ax,ay,L,M,N]) ⟨λc o _ e=>e,R6.pu,_,_,_,_,_,_,_,rfl⟩ (λi O G _ b=>.of (b.1 _ _ dz e6)) (λi y O G W b=>?_) λO G b=>?_⟩
   .obtain⟨bG,pG,av,aw,ax,ay,L,M,N,rfl⟩:=b;obtain⟨C,g0,rfl,n0,cy,B0,m0⟩:=hY y (ye W);have RG:=R6.but bG pG;have be:=bG _ _ n0 cy;apply⟨n,Y,l,C,ss,TI,bs,g0,us,qs,rfl,RG.nn,RG.bm,B0,be,RG.pl,RG.g,qew RG.wt B0 RG.g m0,λod td G1 s1 fa bc hA=>?_⟩;have RG1:=RG.same s1;have I:=s1 _ _ be;have fh:=RG.g.few;have ul:=RG.pl.2.len;apply⟨wqqe,λkp dk=>?_⟩;have k2:=qC (Sr G1) (o:=.lst [.ref l,.ref C]) dk;have ek:upd G1 kp (.lst [.ref l,.ref C]) kp=some (.lst [.ref l,.ref C]):=qb;generalize upd G1 kp (.lst [.ref l,.ref C])=G2 at k2 ek;have RG2:=RG1.same k2;have al:=k2 _ _ I;have eb:Ok p G2 3 4000 6 (.ref l):=Ok.run RG2.pl.1 (RG2.pu.neR RG2.pl.1) (by rw[ya];lk) (RG2.pl.ok2 RG2.g RG2.nm RG2.pu);obtain⟨dl,ad,aq⟩:=eb.2;obtain⟨dr,ae,dw⟩:=(qga B0 al n0).2;replace ad:=ad.same (zB p G2);replace ae:=ae.same (zB p G2);have hS:Shw (.list [dl,dr]) (2 ^ 20) 60:=((ShwS.cons aq (ShwS.cons (dw.mono (yh _) (by decide)) ShwS.nil)).list).mono (by decide) (by decide);show⟨_,.list [dl,dr],rfl,.lst ek (.cons ad (.cons ae .nil)),hS,?_⟩;apply⟨x,x,ss,ns,TI,bs,.ref l,.ref C,rfl,RG2.wt,.inl ⟨l,C,g0,us,qs,rfl,rfl,⟨RG2.wt,B0,al⟩,RG2.pl,RG2.g,m0,λf G3 k3 hf hT=>?_⟩⟩;obtain⟨o,ts,ef,dt,eo,hB⟩:=hT;apply⟨wqqe,λf2 h2=>?_⟩;have k4:=qC (Sr G3) (o:=.lst [.str "told",.ref od]) h2;have e4:upd G3 f2 (.lst [.str "told",.ref od]) f2=some (.lst [.str "told",.ref od]):=qb;generalize upd G3 f2 (.lst [.str "told",.ref od])=G4 at k4 e4;have ce:=k3.trans k4;have cd:=k2.trans ce;show neT (n:=4) (by decide) (qcL (k4 _ _ ef) e4 (k4 _ _ eo) (cd _ _ bc) (hB.mono λ_ _ z=>z.pa.same k4) (hA.mono λ_ _ z=>z.same cd)) ?_;show⟨_,rfl,qL (λh=>by cases h) λ_=>?_⟩;have cr:=k4 _ _ ef;have cx:=k4 _ _ eo;apply .inl (zo cr (qt (j:=1) rfl) ?_);apply qbq (.inl (.lst cx)) rfl (zf K "list" (by simp) "list" (by simp)) ?_;show⟨_,rfl,qL (λh=>absurd h (by rw[show qeG "list" "list"=true by decide];decide)) λ_=>?_⟩;apply⟨wqqe,λkq dm=>?_⟩;have k5:=qC (Sr G4) (o:=.lst [.ref l,.ref C]) dm;have bd:upd G4 kq (.lst [.ref l,.ref C]) kq=some (.lst [.ref l,.ref C]):=qb;generalize upd G4 kq (.lst [.ref l,.ref C])=G5 at k5 bd;have cf:=ce.trans k5;show⟨_,.list [dl,dr],rfl,.lst bd (.cons (ad.same cf) (.cons (ae.same cf) .nil)),hS,?_⟩;apply qhf ?_;show⟨_,rfl,qL (λh=>by cases h) λ_=>?_⟩;have AI:ApI G2 f o ts 14 G5:=ApI.of k3 (k4.trans k5) ef eo hB (pts_small B0);have tl:ts.length<=ss.length:=by rw[hB.len];show reps_few
    apply qe3 ?_;apply .inl (zo AI.2.1 (qt (j:=1) rfl) ?_);show⟨o,_,rfl,.of AI.2.2.1,qO (xs:=ts.map V.ref) (λi O J=>ApI G2 f o ts (14+2*i) J/\∃ L M N,O=[some (.ref a),y1,some (.ref p),some (.int (ss.length:Int)),some (.ref n),y5,some (.ref Y),y7,some (.ref x),some (.ref l),some (.ref r),some (.int (A:Int)),some (.ref C),some (.ref od),some (.str (PyData.list [dl,dr]).shown),some (.ref f),L,M,N]) ⟨AI,_,_,_,rfl⟩ (λi O J _ b=>.of b.1.2.2.1) (λi y O J W b=>?_) λO J b=>?_⟩
    .obtain⟨AJ,L,M,N,rfl⟩:=b;rw[yd] at W;obtain⟨t,ht,rfl⟩:=yn.mp W;have an:=(yc.mp ht).1;have t0:ts≠[]:=λz=>by rw[z] at an;cases an
     obtain⟨ka,kb,kw,ks,ms,m1,m2,m3,m4,m5,m6,m7⟩:=AJ.2.2.2 t (ye ht);show⟨t,_,rfl,.of m1,rfl,_,_,rfl,_,_,rfl,_,_,rfl,rfl,?_⟩;apply⟨.inl ⟨rfl,_,.of m2⟩,?_⟩;apply⟨ka,_,_,rfl,rfl,m2,by rw[ya];show qh (by lk),?_⟩;rw[show ks.map V.str++[V.str "a"]=(ks++[("a":Str)]).map V.str by rw[yt];rfl];have AJ1:=AJ.app (s:="a") t0 m2 m4 m6;have tc:t≠ka:=λz=>by rw[z,m2] at m1;cases m1
     have cg:upd J ka (.lst ((ks++[("a":Str)]).map V.str)) t=some (.tup [.ref ka,.str kw,.ref kb]):=by rw[qi tc];show m1
     generalize upd J ka (.lst ((ks++[("a":Str)]).map V.str))=Jx at AJ1 cg;obtain⟨a',b',w',ff,ch,q1,q2,q3,q4,q5,q6,q7⟩:=AJ1.2.2.2 t (ye ht);rw[cg] at q1;simp only[Option.some.injEq,HO.tup.injEq,List.cons.injEq,V.ref.injEq,V.str.injEq,and_true] at q1;obtain⟨rfl,rfl,rfl⟩:=q1;apply⟨.inl ⟨rfl,_,.of q3⟩,?_⟩;apply⟨_,_,_,rfl,rfl,q3,by rw[ya];show qh (by lk),?_⟩;rw[show ch.map V.str++[V.str "a"]=(ch++[("a":Str)]).map V.str by rw[yt];rfl];show⟨AJ1.app (s:="a") t0 q3 q5 q7,_,_,_,rfl⟩
    .obtain⟨AJ,L,M,N,rfl⟩:=b;apply .inl (zo AJ.2.1 (qt (j:=1) rfl) ?_);show⟨.inl ⟨rfl,_,.of AJ.2.2.1⟩,?_⟩;apply⟨o,_,_,rfl,rfl,AJ.2.2.1,by rw[ya];show qh (by lk),?_⟩
     have sX:L2.Same G2 (upd J o (.lst (ts.map V.ref++[.int 1]))):=λz u e=>by
      rw[qi (λy=>by rw[y,dt] at e;cases e)];show AJ.1 z u e
     generalize upd J o (.lst (ts.map V.ref++[.int 1]))=Jy at sX;have RX:=RG2.same sX;have cz:=sX _ _ al;apply⟨x,x,ss,ns,TI,bs,.ref l,.ref C,rfl,RX.wt,.inl ⟨l,C,g0,us,qs,rfl,rfl,⟨RX.wt,B0,cz⟩,RX.pl,RX.g,m0,λf3 Jz sY _ dg=>?_⟩⟩;obtain⟨o3,fi,cq,_,cv,db⟩:=dg;apply⟨wqqe,λf4 h4=>?_⟩;have k6:=qC (Sr Jz) (o:=.lst [.str "told",.ref od]) h4;have ba:upd Jz f4 (.lst [.str "told",.ref od]) f4=some (.lst [.str "told",.ref od]):=qb;generalize upd Jz f4 (.lst [.str "told",.ref od])=Jw at k6 ba;have sZ:=(k2.trans sX).trans (sY.trans k6);show neT (n:=4) (by decide) (qcL (k6 _ _ cq) ba (k6 _ _ cv) (sZ _ _ bc) (db.mono λ_ _ z=>z.pa.same k6) (hA.mono λ_ _ z=>z.same sZ)) ?_;show⟨_,rfl,qL (λh=>by cases h) λ_=>?_⟩;have RZ:=RG1.same sZ;apply⟨p,x,n,Y,l,C,ss,ns,bs,g0,TI,us,qs,rfl,RZ,sZ _ _ I,B0,m0,λJv b7 p7=>?_⟩;show⟨_,rfl,qL (λh=>by cases h) λ_=>?_⟩;apply⟨λc o z e=>b7 c o z (sZ c o (s1 c o (bG c o z e))),p7,_,_,_,_,_,_,_,rfl⟩
   .obtain⟨bG,pG,av,aw,ax,ay,L,M,N,rfl⟩:=b;show hD _ _ (But.sm (λc o z e=>bG c o z (ck c o z e)) ao) ⟨_,_,_,_,_,_,_,_,_,_,_,_,_,_,_,_,_,_,rfl⟩
  .ext;show .inl ⟨a,_,rfl,hS,λk di=>?_⟩
   obtain⟨X,cu,ez⟩:∃ X:LQ,qcr (nz.map V.int) none (some 6)=X.map V.int/\X.length<=6:=by
    have:=qag (nz.map V.int) 6;rw[show((6:Nat):Int)=6 from rfl] at this;show⟨nz.take 6,by rw[this,Xr],by rw[yK];lk⟩
   rw[cu];have s1:=qC (Sr H) (o:=.lst (X.map V.int)) di;have bt:upd H k (.lst (X.map V.int)) k=some (.lst (X.map V.int)):=qb;generalize upd H k (.lst (X.map V.int))=H1 at s1 bt;apply⟨a,nz,6,rfl,s1.seq hS,by decide,λc8=>?_⟩;apply⟨wqqd,λk2 bv=>?_⟩;have cj:=qC (Sr H1) (o:=.lst [.int c8]) bv;have bu:upd H1 k2 (.lst [.int c8]) k2=some (.lst [.int c8]):=qb;generalize upd H1 k2 (.lst [.int c8])=H2 at cj bu;show .inl ⟨k,k2,_,_,rfl,rfl,cj _ _ bt,bu,by rw[ya];show yN (qh (by simp only[yx,Yv];lk)),λlc ex=>?_⟩;have cp:X.map V.int++[.int c8]=(X++[c8]).map V.int:=by rw[yt];rfl
   rw[cp];have e3:upd H2 lc (.lst ((X++[c8]).map V.int)) lc=some (.lst ((X++[c8]).map V.int)):=qb;generalize upd H2 lc (.lst ((X++[c8]).map V.int))=H3 at e3;generalize X++[c8]=cs at e3;show .inl ⟨⟨_,.of e3⟩,qO (xs:=cs.map V.int) (λi O J=>L2.Same H3 J/\Sg a O) ⟨L2.Same.refl H3,_,_,_,_,_,_,_,_,_,_,_,_,_,_,_,_,_,_,rfl⟩ (λi O J _ b=>.of (b.1 _ _ e3)) (λi y O J W b=>?_) λO J b=>?_⟩
   .obtain⟨sJ,y1,y2,y3,y4,y5,y6,y7,y8,y9,fj,ee,eg,eh,ei,ej,el,em,ep,rfl⟩:=b;rw[yd] at W;obtain⟨c,hc,rfl⟩:=yn.mp W;apply⟨c,rfl,λp J1 ed ao dc=>?_⟩;have du:H3 p=none:=sJ.free ao;have cm:But p H3 J1:=λc o _ e=>ed c o (sJ c o e);apply⟨p,12,rfl,dc,by decide,λm J2 hm b2 dd=>?_⟩;have Z:m<=12:=by lk
    apply⟨p,m,rfl,dd,by lk,λn ss J3 b3 de ey ag dq hO aq=>?_⟩;subst aq;apply⟨p,ss.length,rfl,de,by lk,λt ts TI J4 b4 ac fb fc hI hT=>?_⟩;have ca:=b4 _ _ ag dq;apply⟨t,ss.length,ts,TI,rfl,by lk,hI,hT,λY bs J5 s5 bn bj U=>?_⟩;apply⟨Y,ss,TI,bs,rfl,Z,hO.nd,hT,bj,U,λlt J6 s6 bx dp=>?_⟩;have ah:=s5.trans s6;have bf:=ac.same ah;apply⟨n,t,ss,ts,TI,rfl,ah _ _ ca,hO,hI.same ah,hT,λx ns J7 s7 dy hW bi=>?_⟩;have bh:WebP (λz=>z=p) cw J7 x ss ns:=hW.apart (bf.apart dy) (λz e=>by subst e;obtain⟨u,v,w,e,_⟩:=bf;rw[e];show λz=>by cases z);have as:=ah.trans s7;have df:=ac.same as;have co:But p H3 J7:=(((cm.trans7 b2).trans7 b3).trans7 b4).trans7 λc o _ e=>as c o e;have am:=ac.apart bn;have ak:=(ac.same s5).apart bx;have cb:=as _ _ ca;have ai:=(s6.trans s7) _ _ bj;have aj:=s7 _ _ dp;apply⟨p,Y,lt,ss,TI,bs,rfl,df,am,ak,Z,hO.nd,hT,ai,U,aj,λl0 zs G1 b1 p1 ew dn hZ dh ds h2 bo=>?_⟩;apply⟨p,n,l0,ss,TI,zs,rfl,p1,b1 _ _ ag cb,ag,hO,hT,hZ,dn,dh,ds,by lk,λl us qs G2 cl p2 hP hg hl=>?_⟩;have S:=b1.trans7 cl;have R2:RfW p cw x n Y l ss ns bs TI us qs G2:=⟨p2,bh.keep S,⟨(bh.keep S).web,bi.adj,bi.ok⟩,S _ _ ag cb,hT,S _ _ am ai,am,U,hP,hg⟩;apply⟨Y,lt,ss,TI.map (nmP ss),rfl,Z,S _ _ ak aj,λfr G3 s3 et ct=>?_⟩;have R3:=R2.same s3;apply⟨Y,fr,bs,frI (TI.map (nmP ss)) ss ss.length,rfl,by rw[U.1];lk,yi (qaF _ _) (by lk),R3.bm,ct,λnr G4 s4 fg aa=>?_⟩;have R4:=R3.same s4;rw[U.1] at aa;obtain⟨gs,br⟩:∃ gs,gs=(List.range ss.length).filter (nrI bs (frI (TI.map (nmP ss)) ss ss.length)):=⟨_,rfl⟩;rw[<- br] at aa;obtain⟨B,hm⟩:=near_meets R4.wt hT U hg (hl.trans bo) br;have ev:=B.few;apply .inl ⟨⟨_,.of aa⟩,qJ (xs:=gs.map iV) (λi ys G=>G=G4/\ys=((gs.take i).map (tn ss)).map V.str) ⟨rfl,rfl⟩ (λi ys G _ b=>by rw[b.1];show .of aa) (λi y ys G W b=>?_) λys G b=>?_⟩
    .obtain⟨rfl,rfl⟩:=b;rw[yd] at W;obtain⟨k,hk,rfl⟩:=yn.mp W;have dj:=B.lt k (ye hk);have an:=(yc.mp hk).1;apply zX ?_;apply .inl (zo R4.nn (qt (by rw[yd,jE dj];rfl)) ?_);show⟨by rw[ya,ya,yK];show qh (by lk),rfl,by rw[yO,hk,yt,yt];rfl⟩
    .obtain⟨rfl,rfl⟩:=b;rw[show(gs.map iV).length=gs.length from ya _,yT];show⟨by rw[ya,ya];show yN (qh (by lk)),λr dv=>?_⟩;have au:=qC (Sr G) (o:=.lst ((gs.map (tn ss)).map V.str)) dv;have e5:upd G r (.lst ((gs.map (tn ss)).map V.str)) r=some (.lst ((gs.map (tn ss)).map V.str)):=qb;generalize upd G r (.lst ((gs.map (tn ss)).map V.str))=G5 at au e5;have ec:=(s3.trans s4).trans au;have cn:But p H3 G5:=co.trans7 λc o z e=>ec c o (S c o z e);ext;rw[bg];show⟨H3,p,x,n,Y,l,r,ss,ns,bs,gs,TI,us,qs,_,_,_,_,_,_,_,_,_,_,_,λfk J' s' g'=>⟨s',g'⟩,du,cn,R4.same au,e5,B,hm,rfl⟩
   .ext;show q _
end
theorem all_mk{l:W.OpenLaw}{w:World}{h:Heap}{fa c f g p d:Addr}{t u x:Tok}(X:K.In h)(G:h.Ns mainGlobals mg)(I:mg "law"=some (.ref fa))
  (C0_:W.nsIn K mainGlobals "NoPairs"=some (some (.ref f)))
  (C1_:W.nsIn K mainGlobals "NoBar"=some (some (.ref g)))
  (C2_:W.nsIn K mainGlobals "NoPlace"=some (some (.ref p)))
  (C3_:W.nsIn K mainGlobals "OnceError"=some (some (.ref d)))
  (Cw_:W.nsIn K mainGlobals "Web"=some (some (.ref c)))
  (va:FG K "are_pairs" zi)
  (UO:FG K "partners_in" jQ)
  (vz:FG K "singles" qak)
  (UB:FG K "are_unlike_places" qZ)
  (UF:FG K "pieces_beside" jR)
  (UX:FG K "odd_pieces" j3)
  (vA:FG K "lack_of" qa9)
  (wc:FG K "shows" qcI)
  (vm:FG K "parts_of" jV)
  (vb:FG K "part_with" zW)
  (vD:FG K "is_name" zg)
  (vE:FG K "has_bit" qaU)
  (vn:FG K "is_place" zI)
  (UE:FG K "are_two_places" q8)
  (UY:FG K "numbers_of" zu)
  (vF:FG K "near_of" qaV)
  (UK:FG K "piece_around" jY)
  (vT:FG K "_law_cell" qbA)
  (vG:FG K "_law_purse" qaZ)
  (vV:FG K "_law_take" qbB)
  (vH:FG K "_law_names" qai)
  (vW:FG K "_law_ties" qbD)
  (vX:FG K "_law_many" qbC)
  (vY:FG K "_law_made" qbE)
  (vZ:FG K "_law_bits" qbF)
  (vJ:FG K "_law_table" qa4)
  (vo:FG K "_law_pieces" zc)
  (v6:FG K "_law_some" qa2)
  (v7:FG K "_law_room" qa1)
  (UZ:FG K "_law_greatest" jI)
  (vK:FG K "_law_named" qa5)
  (v8:FG K "_law_lack" qau)
  (v9:FG K "_law_free" qa7)
  (Va:FG K "_law_near" qat)
  (we:FG K "_law_due" qal)
  (Vb:FG K "_law_said" qbI)
  (wf:FG K "_law_met" qb5)
  (vc:FG K "_law_refused" zn)
  (wv:FG K "law" qdl)
  (wR:FM K f "__init__" "NoPairs.__init__" jX)
  (wS:FM K g "__init__" "NoBar.__init__" zt)
  (wT:FC K d "__init__" "OnceError.__init__" jz)
  (wU:FM K c "__init__" "Web.__init__" qao)
  (vp:FM K c "places" "Web.places" zw)
  (Vc:FM K c "ties" "Web.ties" qar)
  (UP:FM K c "has_place" "Web.has_place" ji)
  (ve:FM K c "has_tie" "Web.has_tie" jP)
  (UQ:FM K c "number_of" "Web.number_of" jO)
  (vq:FM K c "beside" "Web.beside" zx)
  (UG:FM K c "bits_beside" "Web.bits_beside" jq)
  (Vd:FM K c "tied" "Web.tied" qap)
  (vv:FM K c "pieces" "Web.pieces" zy)
  (U0:FM K c "names_in" "Web.names_in" jy)
  (vf:FM K c "without" "Web.without" js)
  (X0:XL K f (.ref d::qcv))
  (q0:XQ K f)
  (X1:XL K g (.ref d::qcv))
  (q1:XQ K g)
  (X2:XL K p (.ref d::qcv))
  (q2:XQ K p)
  (X3:XL K d qcv)
  (q3:XQ K d)
  (y0:W.findIn K (.ref f) "found"=some none)
  (y1:W.findIn K (.ref g) "found"=some none)
  (y2:W.findIn K (.ref p) "found"=some none)
  (N:W.mroIn K f (.ref d)=some true)
  (O:W.mroIn K g (.ref d)=some true)
  (P:W.mroIn K p (.ref d)=some true)
  (nd:([f,g,p]++[d]).Nodup)
  (r1:W.readsIn K d (.type "type")=true)
  (r3:W.specialIn K (.ref d) "__getattribute__"=some (some (.builtin "type.__getattribute__")))
  (v1:W.findIn K (.type "type") "__getattribute__"=some (some (.builtin "type.__getattribute__")))
  (v3:W.subIn K (.type "type") (.type "type")=some true)
  (v4:W.findCls K (.type "ValueError") (.type "type") "__init__"=some (.val (.builtin "ValueError.__init__")))
  (w1:W.plainGet K c Str.empty=true)
  (w2:W.hasDictIn K c=true)
  (w3:W.plainOver K c=true)
  (w4:W.findIn K (.ref c) "__setattr__"=some (some (.builtin "object.__setattr__")))
  (w5:W.makesIn K c=true)
  (w6:W.keepIn K (.ref c)=true)
  (w7:W.findIn K (.ref c) "numbers"=some none)
  (w8:W.findIn K (.ref c) "order"=some none)
  (w9:W.findIn K (.ref c) "near"=some none)
  (m:W.specialIn K (.builtin "object.__class__") "__get__"=some (some (.builtin "getset_descriptor.__get__")))
  (o:W.takesIn K (.builtin "object.__class__")=some true)
  (z:W.nsIn K mainGlobals "sum"=some none)
  (y:W.nsIn K mainGlobals "repr"=some none)
  (U:(K.lookup sysModules).isSome=true)
  (R:W.mroIn K f (.ref f)=some true)
  (S:W.mroIn K g (.ref g)=some true)
  (M:W.mroIn K g (.ref f)=some false)
  (z0:W.nsIn K mainGlobals "len"=some none)
  (z1:W.nsIn K mainGlobals "int"=some none)
  (z2:W.nsIn K mainGlobals "enumerate"=some none)
  (z3:W.nsIn K mainGlobals "all"=some none)
  (z4:W.nsIn K mainGlobals "max"=some none)
  (z5:W.nsIn K mainGlobals "min"=some none)
  (z6:W.nsIn K mainGlobals "isinstance"=some none)
  (z7:W.nsIn K mainGlobals "bool"=some none)
  (z8:W.nsIn K mainGlobals "str"=some none)
  (z9:W.nsIn K mainGlobals "range"=some none)
  (Z:W.nsIn K mainGlobals "list"=some none)
  (aa:W.nsIn K mainGlobals "tuple"=some none)
  (ac:W.nsIn K mainGlobals "ValueError"=some none)
  (u0:W.nsIn K mainGlobals "LONGEST_NAME"=some (some (.int 6 t)))
  (u1:W.nsIn K mainGlobals "MOST_PLACES"=some (some (.int 14 u)))
  (u2:W.nsIn K mainGlobals "MOST_TIES"=some (some (.int 30 x))) :
  ∃ fd:FuncData,(∀(s:Shared) (v:Value),BindsTo s fd ⟨[v],[]⟩ [("_law_script",v)])/\∀ base:Heap,K.In base->base.Ns mainGlobals mg->FnOk l.prog w K mg base CX0 16 fa fd wq7 (spLaw K):=by
 obtain⟨_,_,UD,A⟩:=va;obtain⟨_,_,UA,r⟩:=UO;obtain⟨_,_,vL,Vq⟩:=vz;obtain⟨_,_,UC,Vr⟩:=UB;obtain⟨_,_,UI,Vs⟩:=UF;obtain⟨_,_,U7,Vt⟩:=UX;obtain⟨_,_,vM,Vu⟩:=vA;obtain⟨_,_,wg,Vv⟩:=wc;obtain⟨_,_,vw,Y⟩:=vm;obtain⟨_,_,vg,Vw⟩:=vb;obtain⟨_,_,UM,B⟩:=vD;obtain⟨_,_,vN,Vx⟩:=vE;obtain⟨_,_,UJ,C⟩:=vn;obtain⟨_,_,Uz,D⟩:=UE;obtain⟨_,_,U8,Vy⟩:=UY;obtain⟨_,_,vO,Vz⟩:=vF;obtain⟨_,_,UL,VA⟩:=UK;obtain⟨_,_,Ve,VB⟩:=vT;obtain⟨_,_,vP,VC⟩:=vG;obtain⟨_,_,Vf,VD⟩:=vV;obtain⟨_,_,vQ,VE⟩:=vH;obtain⟨_,_,Vg,VF⟩:=vW;obtain⟨_,_,Vh,VG⟩:=vX;obtain⟨_,_,Vi,VH⟩:=vY;obtain⟨_,_,Vj,VI⟩:=vZ;obtain⟨_,_,vR,VJ⟩:=vJ;obtain⟨_,_,vy,VL⟩:=vo;obtain⟨_,_,Vk,VM⟩:=v6;obtain⟨_,_,Vl,VN⟩:=v7;obtain⟨_,_,U9,VO⟩:=UZ;obtain⟨_,_,vS,VP⟩:=vK;obtain⟨_,_,Vm,VQ⟩:=v8;obtain⟨_,_,Vn,VR⟩:=v9;obtain⟨_,_,Vo,VS⟩:=Va;obtain⟨_,_,wj,VT⟩:=we;obtain⟨_,_,Vp,VU⟩:=Vb;obtain⟨_,_,wl,VV⟩:=wf;obtain⟨_,_,vh,VW⟩:=vc;obtain⟨_,_,ww,VX⟩:=wv;obtain⟨_,_,wV,wW,wm⟩:=wR;obtain⟨_,_,wX,wY,wp⟩:=wS;obtain⟨_,_,wZ,wq⟩:=wT;obtain⟨_,_,Wa,Wb,wu⟩:=wU;obtain⟨_,_,wz,wA,VY⟩:=vp;obtain⟨_,_,wB,wC,VZ⟩:=Vc;obtain⟨_,_,V0,V1,E⟩:=UP;obtain⟨_,_,V2,V3,F⟩:=ve;obtain⟨_,_,wD,wE,V4⟩:=UQ;obtain⟨_,_,wF,wG,V5⟩:=vq;obtain⟨_,_,wH,wI,V6⟩:=UG;obtain⟨_,_,wJ,wK,V7⟩:=Vd;obtain⟨_,_,wL,wM,V8⟩:=vv;obtain⟨_,_,wN,wO,V9⟩:=U0;obtain⟨_,_,wP,wQ,wa⟩:=vf;have e:=I.symm.trans (Ka X G ww);cases e;have Y0:XAt K f:=qfH X0 qdx q0 m o;have Y1:XAt K g:=qfH X1 qdx q1 m o;have Y2:XAt K p:=qfH X2 qdx q2 m o;have Y3:XAt K d:=qfH X3 qe1 q3 m o;obtain⟨J,ad,L,ae⟩:=kits nd (λi q=>match i,q with | 0,_=>X0 | 1,_=>X1 | 2,_=>X2 | n+3,h=>absurd h (by simp only[yx,Yv];lk)) X3;have b:Cls K c:=⟨w1,w2,w3,w4⟩;have T:Txt K mg (λi=>([f,g,p]:LI).getD i d) c:=⟨YO X G z0,
  YO X G z1,
  YO X G z2,
  YO X G z3,
  YO X G z4,
  YO X G z5,
  YO X G z6,
  YO X G z7,
  YO X G z8,
  YO X G z9,
  YO X G Z,
  YO X G aa,
  YO X G ac,
  ⟨t,Ka X G u0⟩,
  ⟨u,Ka X G u1⟩,
  ⟨x,Ka X G u2⟩,
  Ka X G C0_,
  Ka X G C1_,
  Ka X G C2_,
  Ka X G C3_,
  ⟨v1,v3,v4⟩,
  λi q=>match i,q with | 0,_=>Y0 | 1,_=>Y1 | 2,_=>Y2 | 3,_=>Y3 | n+4,h=>absurd h (by lk),
  λi q=>match i,q with | 0,_=>y0 | 1,_=>y1 | 2,_=>y2 | n+3,h=>absurd h (by lk),
  J,
  L,
  λi q=>match i,q with | 0,_=>N | 1,_=>O | 2,_=>P | n+3,h=>absurd h (by lk),
  b,
  w7,
  w8,
  w9,
  Ka X G Cw_,
  YO X G z,
  YO X G y,
  YX.mp U⟩
 obtain⟨oc,od,kV,H,pm,an,cd,ct,sl,rfl,lk,hc⟩:=VX.ex;show⟨W.fnOf "law" "law" (qaA qdl) (zN qdl) (qg qdl) .none kV H pm an cd ct,λs v=>.of_eq rfl,λbase _ _=>?_⟩;have d_once:CMethOk l.prog w K mg base CX0 1 d "OnceError" "__init__" wqU (spOnce K):=fc_mk X G C3_ r1 wZ r3 wq (ok_once wq T);have d0:XMakeOk l.prog w K mg base 2 f "NoPairs" wqv (spX f (qfI 0)):=qgM X G C0_ Y0 q0 wV wW wm (ok_NoPairs wm T d_once);have d1:XMakeOk l.prog w K mg base 2 g "NoBar" wqv (spX g (qfI 1)):=qgM X G C1_ Y1 q1 wX wY wp (ok_NoBar wp T d_once);have a:=@fg_mk l.prog w K mg base h;have j:=@fm_mk l.prog w K mg base;have fw:=@fw_mk l.prog w K mg base h;have d_name:=a X G UM B (ok_name B T);have d_place:=a X G UJ C (ok_place C d_name);have d_two:=a X G Uz D (ok_two D T d_place);have d_bit:=a X G vN Vx (ok_bit Vx);have d_nums:=a X G U8 Vy (ok_nums Vy T d_name);have d_near:=a X G vO Vz (ok_near Vz T d_two d_bit);have q_web:MakeOk l.prog w K mg base CX0 5 c "Web" wqD (spWeb c):=fw X G Cw_ w5 w6 Wa Wb wu (ok_web wu T d_nums d_near);have m_has:=j b V0 V1 E (ok_has E T d_place);have m_num:=j b wD wE V4 (ok_num V4 T m_has);have m_bb:=j b wH wI V6 (ok_bb V6 T m_num);have m_nin:=j b wN wO V9 (ok_nin V9 T d_bit);have m_bs:=j b wF wG V5 (ok_bs V5 T m_bb m_nin);have m_tied:=j b wJ wK V7 (ok_tied V7 T m_bb m_num d_bit);have m_pls:=j b wz wA VY (ok_pls VY T);have m_ts:=j b wB wC VZ (ok_ts VZ T m_bs);have m_ht:=j b V2 V3 F (ok_ht F T d_two m_tied);have d_pc:=a X G UL VA (ok_pc VA T d_bit);have m_pcs:=j b wL wM V8 (ok_pcs V8 T d_bit d_pc m_nin);have m_wo:=j b wP wQ wa (ok_wo wa T m_num m_ts q_web);have d_ap:=a X G UD A (ok_ap A T m_ht);have d_pn:=a X G UA r (qgO r T d_ap);have b_name:=a X G UM B (ok_nameG B T);have b_place:=a X G UJ C (ok_placeG C b_name);have b_two:=a X G Uz D (ok_twoG D T b_place);have b_has:=j b V0 V1 E (ok_hasT E T b_place);have b_ht:=j b V2 V3 F (ok_htG F T b_two m_tied);have b_ap:=a X G UD A (ok_apG A T b_ht);have b_pn:=a X G UA r (FnOk.or (qgO r T d_ap).any (ok_pnB r T d0 b_ap));have b_ul:=a X G UC Vr (ok_ulG Vr T b_has);have d_pb:=a X G UI Vs (ok_pb Vs T b_ul m_wo m_pcs);have d_od:=a X G U7 Vt (ok_od Vt T d_pb);have d_lk:=a X G vM Vu (ok_lk Vu T d_od);have d_si:=a X G vL Vq (ok_si Vq T d_pn m_pls);have d_shw:=a X G wg Vv (ok_shw Vv T d_ap b_ul d_si d_lk);have d_pw:=a X G vg Vw (ok_pw Vw T);have b_po:=a X G vw Y (FnOk.or (ok_po Y T d_pn d_shw d_pb d_pw).any (ok_poB Y T b_pn d_shw d_pb d_pw d1));have d_tk:=a X G Vf VD (ok_tkp VD T);have d_rm:=a X G Vl VN (ok_rmJ VN T);have d_pj:=a X G vy VL (ok_pjJ VL T);have d_lkJ:=a X G Vm VQ (ok_lkJ VQ T d_rm d_pj);have d_du:=a X G wj VT (ok_du VT T d_rm d_pj);have d_sa:=a X G Vp VU (ok_sa VU T R S M b_po);have d_me:=a X G wl VV (ok_me VV T d_tk (a X G Vk VM (ok_smJ VM T d_tk)) d_lkJ) (hb:=λ_ _ _ _ _ _=>lN5 λ_ _ _ _ _=>rfl);have d_rf:=a X G vh VW (ok_rf VW T d_tk d_sa d_lkJ d_du) (hb:=λ_ _ _ _ _ _=>lN6 λ_ _ _ _ _ _=>rfl);show ok_law45 VX T (a X G Ve VB (ok_ce VB T)) (a X G vP VC (ok_pu VC T)) d_tk (a X G Vh VG (ok_my VG T d_tk)) (a X G vQ VE (ok_nmJ VE T d_tk)) (a X G Vg VF (ok_tsJ VF T d_tk)) (a X G Vi VH (ok_mdJ VH T q_web)) (a X G Vj VI (ok_btJ VI T)) (a X G vR VJ (ok_tbQ VJ T)) (a X G vS VP (ok_ndJ VP T d_tk)) (a X G U9 VO (ok_gsQ VO T d_tk)) (a X G Vn VR (ok_feQ VR T)) (a X G Vo VS (ok_nrQ VS T)) d_du d_sa d_me d_rf
theorem walk{l:PySem.W.OpenLaw}{q:Program}{loose:LS}{XP:(Str->Option Value)->Heap->Prop}{YP:World->Heap->Prop}{d:DefRec}{K:Params->yg}(j:l.most=some 63)(b:d.params.defaults=[])
  (i:∀(w:World) (h:Heap),YP w h->(K w.params).In h)
  (F:∀(w:World) (mg:Str->Option Value) (c:Addr) (h:Heap),(K w.params).In h->h.Ns mainGlobals mg->mg d.name=some (.ref c) ->
   ∃ e:FuncData,(∀(s:Shared) (u:Value),BindsTo s e ⟨[u],[]⟩ [("_law_script",u)])/\∀ base:Heap,(K w.params).In base->base.Ns mainGlobals mg->FnOk l.prog w (K w.params) mg base CX0 16 c e wq7 (spLaw (K w.params))) :
  PySem.W.WalkO q loose XP YP l.row.toRowW d [] (λf vs=>PySem.call f vs):=
 L2.walk_of (n:=63) (k:=16) (x:="_law_script") (CX:=λ_=>CX0) (sp:=λw=>spLaw (K w.params)) j (by decide) b ⟨rfl,by decide,by decide,rfl⟩ i F (λ_ _ a ns hl _ g=>⟨a,ns,rfl,g,hl,λ_=>rfl⟩) λ_ _ _ _ _ z=>z
end K45
set_option maxRecDepth 100000 in
set_option maxHeartbeats 0 in
theorem PySem.Challenge.cw_onceroad_k45_papers_walked_holds : PySem.Challenge.rw_onceroad_k45_papers_walked.Holds := by
  w_on; o_law
  show PySem.W.holds_open (q := K45.Q) (loose := []) (Xt := K45.Xt) (XP := PySem.W.XL K45.Q []) (Yf := PySem.W.Hook.obs K45.Hk) (Ya := PySem.W.Hook.val K45.Hk) (YP := PySem.W.Hook.says (PySem.W.kHook K45.Kf K45.ks K45.ks_eq)) (N := K45.NN) K45.hl (PySem.W.Hook.of K45.Hk) (PySem.W.Hook.keeps K45.Hk) (λs e => PySem.W.xl_of s (Bool.and_eq_true_iff.mp e).1) PySem.W.XL.keeps (by rfl) (by rfl) (by rfl) (λs e => PySem.W.recFacts_of (Bool.and_eq_true_iff.mp e).2) (by rfl) (by first | assumption | room) (by room) ⟨rfl, rfl, rfl, rfl, rfl, by room⟩ ?hw ?hc
  (case hw => w_witness2)
  k_fill
  show K45.walk (l := PySem.Challenge.rw_onceroad_k45_papers_walked) rfl rfl (λw h Y => PySem.W.kIn_of Y) ?F
  case F =>
    intro w mg fa h KX G hmg
    refine' K45.all_mk KX G hmg ?_ ?_ ?_ ?_ ?_ ?_ ?_ ?_ ?_ ?_ ?_ ?_ ?_ ?_ ?_ ?_ ?_ ?_ ?_ ?_ ?_ ?_ ?_ ?_ ?_ ?_ ?_ ?_ ?_ ?_ ?_ ?_ ?_ ?_ ?_ ?_ ?_ ?_ ?_ ?_ ?_ ?_ ?_ ?_ ?_ ?_ ?_ ?_ ?_ ?_ ?_ ?_ ?_ ?_ ?_ ?_ ?_ ?_ ?_ ?_ ?_ ?_ ?_ ?_ ?_ ?_ ?_ ?_ ?_ ?_ ?_ ?_ ?_ ?_ ?_ ?_ ?_ ?_ ?_ ?_ ?_ ?_ ?_ ?_ ?_ ?_ ?_ ?_ ?_ ?_ ?_ ?_ ?_ ?_ ?_ ?_ ?_ ?_ ?_ ?_ ?_ ?_ ?_ ?_ ?_ ?_ ?_ ?_ ?_ ?_ ?_ ?_
    any_goals first | k_is | decide
    any_goals first | k_is | decide | show⟨_, _, by k_is, L2.fun_mk (by k_is) (by k_is) (by k_is)⟩ | show⟨_, _, by k_is, by k_is, L2.fun_mk (by k_is) (by k_is) (by k_is)⟩ | show⟨_, _, _, _, _, _, _, _, _, _, _, _, _, _, _, by k_is⟩ | show⟨by k_is, by k_is, by k_is, by k_is, by k_is, by k_is, by k_is, by k_is⟩ | kernel_rfl | fail
