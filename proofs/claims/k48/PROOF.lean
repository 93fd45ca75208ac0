import PyProof.Rows.All
import Wide.All
import OpenK.AllK
import Wide.FinOn
import PyProof.EqAt
import PyProof.EqKinds
import PyProof.TupleCall
import Lean
import PySem.Challenge.RW_onceroad_k48_rows_that_leave_out
set_option Elab.async false
set_option linter.all false
set_option maxRecDepth 100000
local macro_rules | `(tactic| show $e)=>`(tactic| refine $e)
abbrev LY:=List Int
abbrev LX:=List PySem.Addr
abbrev LN:=List Nat
abbrev LS:=List PySem.Str
abbrev LP:=List (PySem.Str×PySem.Str)
local macro_rules | `(tactic| room)=>`(tactic| decide +kernel)
local macro_rules | `(tactic| lk)=>`(tactic| first | lia | omega)
set_option hygiene false
local macro_rules | `(wqN $a $b $c $d)=>`(DefOk P w K mg base CX0 $a $b $c $d)
local macro_rules | `(wqO $a $b $c $d $e)=>`(MethOk P w K mg base CX0 $a $b $c $d $e)
local macro_rules | `(wqP $a $b $c $d $e)=>`(FnOk P w K mg base CX0 $a $b $c $d $e)
set_option hygiene true
noncomputable section
abbrev wh:LS:=["_law_purse_here","_law_many_here"]
abbrev wl:LS:=["_law_names_here","_law_bits_here","_law_pairs","_law_row","_law_place","_law_both","_law_at","_law_one","_law_other","_law_near"]
abbrev wy:LS:=["self","place"]
abbrev wI:LS:=["_law_purse_here","_law_many_here","_law_bits_here","_law_table_here","_law_room","_law_found","_law_low","_law_rest","_law_near","_law_ways","_law_other"]
abbrev wJ:LS:=["_law_web","_law_names_here","_law_bits_here","_law_pairs","_law_place","_law_is_free","_law_turns","_law_kept","_law_turn","_law_found","_law_behind"]
abbrev wK:LS:=["_law_script","_law_cell_here","_law_purse_here","_law_many_here","_law_names_here","_law_ties_here","_law_bits_here","_law_table_here","_law_web","_law_some","_law_free_here","_law_k","_law_pairs"]
abbrev wL:LS:=["_law_web","_law_names_here","_law_bits_here","_law_pairs","_law_place","_law_is_free","_law_turns"]
abbrev wM:LS:=["_law_one","_law_other"]
abbrev wN:LS:=["_law_purse_here","_law_web","_law_names_here","_law_bits_here","_law_pairs","_law_bad","_law_none","_law_thing","_law_some","_law_place"]
abbrev wO:LS:=["numbers","thing"]
abbrev wP:LS:=["_law_purse_here","_law_many_here","_law_letters","_law_first","_law_step","_law_way","_law_stem","_law_found","_law_k","_law_sign"]
abbrev wQ:LS:=["_law_purse_here","_law_web","_law_names_here","_law_bits_here","_law_pairs"]
abbrev wR:LS:=["_law_names_here","_law_bits_here","_law_pairs","_law_row","_law_place"]
abbrev wS:LS:=["_law_purse_here","_law_many_here","_law_bits_here","_law_table_here"]
abbrev wT:LS:=["_law_turn","_law_purse_here","_law_names_here","_law_many_here","_law_bits_here","_law_table_here"]
abbrev wU:LS:=["_law_purse_here","_law_names_here","_law_bits_here","_law_pairs"]
abbrev wV:LS:=["_law_names_here","_law_bits_here","_law_thing"]
abbrev wW:LS:=["_law_pairs","_law_row","_law_gone","_law_left"]
abbrev wX:LS:=["self","thing"]
abbrev wY:LS:=["_law_purse_here","_law_names_here","_law_bits_here","_law_pairs","_law_found","_law_one"]
abbrev wZ:LS:=["self","found"]
abbrev wqa:LS:=["self","web","pairs"]
abbrev wqb:List String:=["NoneType","bool","int","str","list","tuple","dict"]
abbrev wqc:LS:=["_law_many_here","_law_bits_here","_law_table_here"]
abbrev wqd:LS:=["self","one","other"]
abbrev wqe:LS:=["_law_purse_here","_law_names_here","_law_pairs"]
abbrev wqf:LS:=["self","place","row"]
abbrev wqg:LS:=["_law_many_here","_law_bits_here","_law_table_here","_law_room"]
abbrev wqh:LS:=["_law_purse_here","_law_most"]
abbrev wqi:LS:=["self","names","ties"]
abbrev wqj:LS:=["web","pairs","place"]
abbrev wqk:LS:=["_law_web","_law_pairs","_law_place"]
abbrev wql:LS:=["self"]
abbrev wqm:LS:=["_law_one","_law_other","_law_gone"]
abbrev wqn:LS:=["self","one","other","ones","others","meeting","ring"]
abbrev wqo:LS:=["_law_names_here","_law_ties_here"]
abbrev wqp:LS:=["_law_many_here","_law_ties_here"]
abbrev wqq:LS:=["_law_many_here","_law_bits_here"]
abbrev wqr:LS:=["_law_j","_law_table_here","_law_room","_law_rest"]
abbrev wqs:List String:=["ValueError","Exception","BaseException","object"]
abbrev wqt:LS:=["bits","number"]
abbrev wqu:LS:=["_law_j","_law_rest","_law_bits_here","_law_low"]
abbrev wqv:LS:=["_law_script","_law_k"]
abbrev wqw:LS:=["_law_some","_law_names_here","_law_bits_here"]
abbrev wqx:LS:=["self","text"]
abbrev wqy:LS:=["self","one","other","bases"]
abbrev wqz:LS:=["_law_at","_law_row"]
abbrev wqA:LS:=["_law_k","_law_letters","_law_purse_here"]
abbrev wqB:LS:=["self","ring","meeting","within","place"]
abbrev wqC:LS:=["thing"]
abbrev wqD:LS:=["_law_k","_law_table_here","_law_room"]
abbrev wqE:LS:=["self","bits"]
abbrev wqF:LS:=["web","thing"]
abbrev wqG:LS:=["web","pairs"]
abbrev wqH:LS:=["self","ring","meeting"]
abbrev wqI:LS:=["_law_pairs","_law_row"]
abbrev wqJ:LS:=["_law_cell_here"]
abbrev wqK:LS:=["place","ring","self","meeting"]
abbrev wqL:LS:=["_law_script"]
abbrev wqM:LS:=["numbers","ties"]
theorem wqQ:0<=PySem.sizeLine:=by decide
theorem wqR:1<=PySem.sizeLine:=by decide
theorem wqS:2<=PySem.sizeLine:=by decide
theorem wqT:3<=PySem.sizeLine:=by decide
theorem ya{a b:Type}{as:List a}(f:a→b):(as.map f).length=as.length:=List.length_map f
theorem yb{a:Type}{l:List a}{i:Nat}(h:i<l.length):l[i]?=some l[i]:=List.getElem?_eq_getElem h
theorem yc{b:Type}{l:List b}{i:Nat}{a:b}:l[i]?=some a↔∃h:i<l.length,l[i]=a:=List.getElem?_eq_some_iff
theorem yd{a b:Type}{f:a→b}{l:List a}{i:Nat}:(l.map f)[i]?=l[i]?.map f:=List.getElem?_map
theorem ye{b:Type}{l:List b}{i:Nat}{a:b}(h:l[i]?=some a):a∈l:=List.mem_of_getElem? h
theorem yf{b:Type}{a:b}{l:List b}(h:a∈l):∃i:Nat,l[i]?=some a:=List.getElem?_of_mem h
abbrev yg:=PySem.W.Frag
theorem yh(n:Nat):n≤n:=Nat.le_refl n
theorem yi{a b c:Nat}(h:a≤b)(k:b≤c):a≤c:=Nat.le_trans h k
theorem yj{a b c:Nat}(h:a<b)(k:b≤c):a<c:=Nat.lt_of_lt_of_le h k
theorem yk{p:Prop}[Decidable p](h:decide p=true):p:=of_decide_eq_true h
theorem ym{p:Prop}[Decidable p](h:¬p):decide p=false:=decide_eq_false h
theorem yn{c:Type}{a b:c}(h:some a=some b):a=b:=Option.some.inj h
theorem yo{c d:Type}{f:c→d}{x:Option c}{b:d}:x.map f=some b↔∃a,x=some a∧f a=b:=Option.map_eq_some_iff
theorem yp{b:Type}{a:b}{l:List b}:(a::l).Nodup↔a∉l∧l.Nodup:=List.nodup_cons
theorem yq{a:Type}{p:a→Bool}{as:List a}{x:a}:x∈as.filter p↔x∈as∧p x=true:=List.mem_filter
theorem yr{A B:Prop}(h:B):if false=true then A else B:=h
def yt:=@PySem.wpAny_bind
def yu:=@List.length_append
def yv:=@List.mem_cons
def yw:=@List.mem_append
def yx:=@List.mem_singleton
def yy:=@PySem.Heap.get?_push_of_some
def yz:=@PySem.wpAny_pure
def yA:=@decide_eq_true
def yB:=@List.length_cons
def yC:=@List.map_append
def yD:=@List.size_toArray
def yE:=@List.mem_cons_of_mem
def yF:=@if_neg
def yG:=@if_pos
def yH:=@List.getElem?_append_right
def yI:=@PySem.F.plainAttrs_list
def yJ:=@List.not_mem_nil
def yK:=@Or.inl
def yL:=@List.mem_cons_self
def yM:=@PySem.Heap.lt_size
def yN:=@List.mem_append_right
def yO:=@Bool.and_eq_true
def yP:=@List.mem_append_left
def yQ:=@List.mem_map
def yR:=@decide_eq_true_iff
def yS:=@Nat.le_of_lt
def yT:=@PySem.PassesOwn.never
def yU:=@List.length_take
def yV:=@Int.toNat_natCast
def yW:=@List.idxOf_lt_length_of_mem
def yX:=@List.getElem?_append_left
def yY:=@List.take_add_one
def yZ:=@PySem.F.slot_list_append
def Yb:=@PySem.F.type_list_append
def Yc:=@List.filter_cons
def Yd:=@PySem.Heap.get?_push_size
def Ye:=@List.take_length
def Yg:=@List.nodup_append
def Yh:=@Ne.symm
def Yi:=@Nat.ne_of_lt
def Yj:=@Nat.lt_of_le_of_lt
def Yk:=@List.length_nil
def Yl:=@beq_iff_eq
def Ym:=@decide_eq_decide
def Yn:=@Classical.byContradiction
def Yo:=@or_false
def Yp:=@List.append_assoc
def Yq:=@Bool.false_ne_true
def Yr:=@List.append_of_mem
def Ys:=@List.append_nil
def Yt:=@Nat.testBit_two_pow
def Yu:=@List.getD_eq_getElem?_getD
def Yv:=@List.length_filter_le
def Yw:=@List.contains_cons
def Yx:=@List.getElem_idxOf
def Yy:=@Nat.zero_le
def Yz:=@Nat.lt_irrefl
def YA:=@List.length_drop
def YB:=@beq_eq_false_iff_ne
def YC:=@PySem.wpAny_mono
def YD:=@PyProof.Rows.boot_isinstance
def YE:=@PySem.Heap.get?_update_other
def YF:=@List.length_pos_of_mem
def YG:=@PySem.wpAny_holding
def YH:=@List.length_reverse
def YI:=@PySem.F.slot_list_index
def YJ:=@List.map_cons
def YK:=@PySem.wpAny_loadPart_at
def YL:=@List.pairwise_iff_getElem
def YM:=@List.take_of_length_le
def YN:=@List.length_erase_of_mem
def YO:=@List.mem_map_of_mem
def YQ:=@PySem.boot_len
def YR:=@PySem.W.mg_none_of
def YS:=@PySem.F.type_list_index
def YT:=@PySem.sizeLine_eq
def YU:=@PySem.W.looks_findIn
def YV:=@True.intro
def YW:=@PySem.Heap.size_push
def YX:=@Nat.mod_two_eq_zero_or_one
def YY:=@List.all_eq_true
def Y4:=@List.mem_flatMap
def Y5:=@Array.length_toList
def Y6:=@Bool.not_eq_true'
def Y7:=@Option.isSome_iff_exists
def Y8:=@PySem.F.slot_NoneType_eq
def Y9:=@Bool.eq_iff_iff
def xi:=@PySem.W.callWith_K
def xj:=@decide_eq_false_iff_not
def xk:=@List.mem_range
def xm:=@PySem.F.excBase_ValueError
def xn:=@List.getElem_of_mem
def xo:=@PySem.wpAny_of_eq
def xp:=@Nat.testBit_and
def xq:=@List.length_replicate
def xr:=@PySem.Heap.get?_update_self
def xt:=@PySem.wpAny_Call_Name_kw
def xu:=@List.any_eq_true
def xv:=@List.filter_append
def xw:=@List.getElem?_set_ne
def xx:=@PySem.codeAny_call_builtin
def xy:=@PySem.wpAny_newObj_type
def xz:=@PyProof.Rows.boot_list
def xA:=@List.dropLast_concat_getLast
def xB:=@List.replicate_succ
def xC:=@PySem.W.looks_mroIn
def xD:=@PySem.wpAny_isSubtype_exc
def xE:=@PyProof.Rows.F.plain_set_update_loop
def xF:=@List.flatMap_append
def xG:=@PyProof.Rows.callWith_type1
def xH:=@PySem.codeAny_mono
def xI:=@List.cons.inj
def xJ:=@PySem.wpAny_call
def xK:=@List.lookup_append
def xL:=@Bool.false_eq_true
def xM:=@Array.getElem?_eq_some_iff
def xN:=@PySem.W.methodCall_KW
def xO:=@List.getElem?_zip_eq_some
def xP:=@PySem.wpAny_passesOwn
def xQ:=@List.length_set
def xR:=@List.find?_cons
def xS:=@List.filter_nil
def xT:=@Nat.le_antisymm
def xU:=@Sum.inr.inj
def xV:=@PySem.wpAny_truthy_bool
def xW:=@Nat.pow_le_pow_right
def xX:=@List.Pairwise.imp_of_mem
def xY:=@PyProof.Rows.slot_tuple_getitem
def xZ:=@PySem.mem_of_lookup
def x0:=@PySem.W.any_some
def Xa:=@List.getElem?_replicate
def Xb:=@List.lookup_cons
def Xc:=@beq_self_eq_true
def Xd:=@PySem.wpAny_getItem_str_slice
def Xe:=@List.getElem_mem
def Xf:=@Nat.le_succ
def Xg:=@List.getElem?_set_self
def Xh:=@List.getElem?_tail
def Xi:=@Int.emod_lt_of_pos
def Xj:=@Prod.ext
def Xk:=@Bool.or_eq_true
def Xl:=@Int.natCast_pow
def Xm:=@Nat.two_pow_pos
def Xn:=@PySem.wpAny_standAt
def Xo:=@List.flatten_cons
def Xp:=@Option.isSome_map
def Xq:=@List.pairwise_map
def Xr:=@Nat.pow_lt_pow_right
def Xs:=@List.mem_erase_of_ne
def Xu:=@List.getLast?_append
def Xv:=@Nat.eq_of_testBit_eq
def Xw:=@Nat.ne_of_gt
def Xx:=@Nat.lt_succ_self
def Xy:=@if_true
def Xz:=@Nat.zero_add
def XA:=@Int.zero_add
def XB:=@List.filterMap_cons
def XC:=@Or.inr
def XD:=@List.length_pos_iff
def XE:=@Prod.mk.injEq
def XF:=@PySem.F.slot_list_extend
def XG:=@PySem.F.type_list_extend
def XH:=@Int.emod_nonneg
def XI:=@Option.isSome_some
def XJ:=@PySem.tupleKind_room_in1
def XM:=@List.getElem?_drop
def XR:=@PySem.wpAny_field
def XS:=@List.pairwise_singleton
def XT:=@Nat.le_of_eq
def XU:=@if_false
def XV:=@PySem.wpAny_pyIter_list
def XW:=@Bool.eq_false_iff
def XY:=@Bool.or_true
def XZ:=@PyProof.Rows.bitAnd_m1
def X5:=@Nat.or_lt_two_pow
def X6:=@Nat.testBit_or
def X7:=@List.length_range
def kc:=@List.filter_congr
def ke:=@List.length_singleton
def kf:=@List.mem_iff_getElem?
def kg:=@List.take_append_drop
def kh:=@Nat.min_le_right
def ki:=@List.all_cons
def kj:=@List.any_cons
def km:=@PySem.Value.ref.inj
def kn:=@List.mem_of_mem_drop
def ko:=@PySem.wpAny_execs_nil
def kq:=@PySem.SeqAt.EqAt.same
def ku:=@Option.map_some
def kx:=@PySem.post_val_or_str
def ky:=@List.range_succ
def kz:=@List.all_append
def kA:=@PySem.W.plainGet_of
def kB:=@PySem.W.looks_clsIn
def kC:=@List.filter_eq_self
def kD:=@List.filter_sublist
def kE:=@Nat.sub_self
def kF:=@PySem.W.mg_of
def kG:=@PySem.wpAny_bindName
def kH:=@PySem.call_meets
def kI:=@PySem.Code.quiet_builtin
def kJ:=@PyProof.Rows.boot_tuple
def kK:=@Option.isSome_none
def kL:=@List.take_sublist
def kM:=@PySem.slot_list_getitem
def kN:=@PySem.Heap.get?_push_at
def kO:=@Nat.le_succ_of_le
def kP:=@decide_eq_true_eq
def kQ:=@Nat.lt_trichotomy
def kR:=@PySem.W.mg_of
def kS:=@Nat.succ_le_succ
def kU:=@List.cons_append
def kW:=@PySem.wpAny_askSetting
def kX:=@Nat.min_eq_right
def kY:=@List.drop_length
def kZ:=@List.cons_ne_nil
def k8:=@List.mem_reverse
def Ka:=@Nat.zero_testBit
def Kb:=@PySem.wpAny_rule
def Kc:=@List.all_map
def Kd:=@PySem.Txt.slice_le
def Ke:=@List.of_mem_zip
def Kg:=@PySem.codeAny_of_tree
def Kh:=@Nat.min_eq_left
def Ki:=@PySem.codeAny_builtin
def Kj:=@Nat.le_max_left
def Kk:=@Nat.testBit_xor
def Kl:=@List.drop_zero
def Km:=@Int.one_mul
def Kn:=@Bool.or_false
def Ko:=@List.map_take
def Kp:=@decide_false
def Kq:=@Nat.sub_zero
def Kr:=@not_or
namespace L2
open PySem PySem.Spec PyProof.Rows
def qR(s:Stmt)(j:Nat):Stmt:=match s with
 | .ClassDef _ _ _ body _ _ _ _ _ _ _=>body.getD j (.Pass ⟨0,0,0,0⟩)
 | _=>.Pass ⟨0,0,0,0⟩
def qaD(s:Stmt):Arguments:=match s with
 | .FunctionDef _ a _ _ _ _ _ _ _ _=>a
 | _=>{ posonlyargs:=[],args:=[],vararg:=none,kwonlyargs:=[],kw_defaults:=[],kwarg:=none,defaults:=[] }
def zS(s:Stmt):List Stmt:=match s with
 | .FunctionDef _ _ b _ _ _ _ _ _ _=>b
 | _=>[]
def qh(s:Stmt):Scope:=match s with
 | .FunctionDef _ _ _ _ _ _ sc _ _ _=>sc
 | _=>{ kind:=.function,names:=[],isGenerator:=false,isCoroutine:=false }
end L2
namespace K48
open PySem L2 PyProof.Rows
def top(i:Nat):Stmt:=PySem.Challenge.pw_onceroad_k48_rows_that_leave_out.main.body.getD i (.Pass ⟨0,0,0,0⟩)
abbrev jD:Stmt:=qR (top 2) 0
abbrev j3:Stmt:=qR (top 5) 0
abbrev j4:Stmt:=qR (top 8) 0
abbrev zo:Stmt:=top 19
abbrev qaO:Stmt:=top 24
abbrev zL:Stmt:=top 25
abbrev ji:Stmt:=top 26
abbrev zy:Stmt:=top 27
abbrev qat:Stmt:=qR (top 23) 0
abbrev qaP:Stmt:=top 28
abbrev zC:Stmt:=qR (top 23) 1
abbrev jo:Stmt:=qR (top 23) 4
abbrev jp:Stmt:=qR (top 23) 6
abbrev zD:Stmt:=qR (top 23) 7
abbrev ju:Stmt:=qR (top 23) 8
abbrev qau:Stmt:=qR (top 23) 9
abbrev jC:Stmt:=qR (top 23) 12
abbrev zq:Stmt:=top 11
abbrev jR:Stmt:=qR (top 23) 5
abbrev jS:Stmt:=top 12
abbrev j5:Stmt:=qR (top 14) 6
abbrev qO:Stmt:=qR (top 14) 9
abbrev q9:Stmt:=qR (top 14) 10
abbrev jT:Stmt:=qR (top 14) 11
abbrev qJ:Stmt:=qR (top 14) 8
abbrev jc:Stmt:=qR (top 14) 7
abbrev zh:Stmt:=qR (top 14) 5
abbrev jU:Stmt:=qR (top 14) 0
abbrev zF:Stmt:=qR (top 14) 1
abbrev qbw:Stmt:=top 30
abbrev qaR:Stmt:=top 31
abbrev qbx:Stmt:=top 32
abbrev qby:Stmt:=top 35
abbrev qaj:Stmt:=top 33
abbrev qbz:Stmt:=top 34
abbrev qbA:Stmt:=top 36
abbrev qbB:Stmt:=top 37
abbrev qaS:Stmt:=top 38
abbrev qaT:Stmt:=top 40
abbrev qaV:Stmt:=top 42
abbrev zi:Stmt:=top 41
abbrev jq:Stmt:=qR (top 14) 3
abbrev qam:Stmt:=top 16
abbrev jH:Stmt:=top 39
abbrev jY:Stmt:=top 44
abbrev jZ:Stmt:=top 43
abbrev zP:Stmt:=top 45
abbrev zr:Stmt:=top 47
abbrev qbE:Stmt:=top 46
abbrev zt:Stmt:=top 48
abbrev qc7:Stmt:=top 49
end K48
namespace Hd
open PySem PySem.W PySem.Calls PyProof.Rows
variable{p:Program}{α:Type}
def qfY(c:String->Option Builtin)(p:Program)(w:World)(a:Nat)(b:Option Value):Nat->SharedT->Thread->Option SharedT
 | 0,_,_=>none
 | n+1,s,t=>match through t with
  | true=>some s
  | false=>match stepOk a b t with
   | false=>none
   | true=>match stepT (denote c) p w s t with
    | some (s',t')=>qfY c p w a b n s' t'
    | none=>none
theorem qfF{d:String->Option Builtin}{w:World}{a:Nat}{b:Option Value}:∀{n:Nat} {s s':SharedT} {t:Thread},qfY d p w a b n s t=some s'->topRun d p w a b n s.abs t=some s'.abs
 | 0,_,_,_,h=>by cases h
 | n+1,s,s',t,h=>by
  unfold qfY at h;unfold topRun
  cases e:through t with
  | true=>rw[e] at h;cases h;rfl
  | false =>
   rw[e] at h
   cases f:stepOk a b t with
   | false=>rw[f] at h;cases h
   | true =>
    rw[f] at h
    cases c:stepT (denote d) p w s t with
    | none=>rw[c] at h;cases h
    | some r=>obtain⟨g,i⟩:=r;rw[c] at h;rw[stepT_spec c];show qfF h
def qdv:List Obj->Nat->BT->BT
 | [],_,t=>t
 | o::r,n,t=>qdv r (n+1) (t.ins n o)
def qeZ(P:Params)(a:OsState):SharedT:=⟨qdv (boot_heap P).objs.toList 0 .nil,(boot_heap P).objs.size,(boot_heap P).life,Array.mk [],boot_drawn,boot_toks,a⟩
theorem boot_abs(P:Params):absHeap (qdv (boot_heap P).objs.toList 0 .nil) (boot_heap P).objs.size (boot_heap P).life=boot_heap P:=by kernel_rfl
def qfg(p q:Program)(Xt:Shared->Bool){α:Type}(Yf:Shared->α)(N:Nat)(w:World)(a:OsState):=match (boot_heap w.params).isNs mainGlobals&&(Array.mk []:Array GenState).size==0 with
 | true=>(qfY treeTable p w (boot_heap w.params).objs.size ((boot_heap w.params).nsMap mainGlobals "__annotations__") N (qeZ w.params a) (topStub p)).bind λs=>match staticsOk (importedModules p.main.body) (boot_heap w.params) s.abs.heap&&namesBound p s.abs.heap&&gensDone s.abs&&laidKept (boot_heap w.params) s.abs.heap with
   | true=>some (openSeen q [] (importedModules p.main.body) Xt true s.abs,Yf s.abs)
   | false=>none
 | false=>none
noncomputable def lookS(p:Program)(N:Nat)(w:World)(a:OsState):Option Shared:=match (boot_heap w.params).isNs mainGlobals&&(Array.mk []:Array GenState).size==0 with
 | true=>(qfY treeTable p w (boot_heap w.params).objs.size ((boot_heap w.params).nsMap mainGlobals "__annotations__") N (qeZ w.params a) (topStub p)).bind λs=>match staticsOk (importedModules p.main.body) (boot_heap w.params) s.abs.heap&&namesBound p s.abs.heap&&gensDone s.abs&&laidKept (boot_heap w.params) s.abs.heap with
   | true=>some s.abs
   | false=>none
 | false=>none
theorem lookT_map(p q:Program)(Xt:Shared->Bool)(Yf:Shared->α)(N:Nat)(w:World)(a:OsState):qfg p q Xt Yf N w a=(lookS p N w a).map λs=>(openSeen q [] (importedModules p.main.body) Xt true s,Yf s):=by
 unfold qfg lookS
 cases (boot_heap w.params).isNs mainGlobals&&(Array.mk []:Array GenState).size==0 with
 | false=>rfl
 | true =>
  dsimp only
  cases qfY treeTable p w (boot_heap w.params).objs.size ((boot_heap w.params).nsMap mainGlobals "__annotations__") N (qeZ w.params a) (topStub p) with
  | none=>rfl
  | some s =>
   show(match _ with | true=>_ | false=>_)=Option.map _ (match _ with | true=>_ | false=>_);cases staticsOk (importedModules p.main.body) (boot_heap w.params) s.abs.heap&&namesBound p s.abs.heap&&gensDone s.abs&&laidKept (boot_heap w.params) s.abs.heap<;>rfl
theorem packs{b A B C D E Y:Type}{o:Option b}{f:b->A×B×C×D×E}{g:b->Y}{x:A×B×C×D×E}{y:Y}(h1:o.map (λs=>((f s).1,(f s).2.1,(f s).2.2.1,(f s).2.2.2.1))=some (x.1,x.2.1,x.2.2.1,x.2.2.2.1))(h:o.map (λs=>(f s).2.2.2.2)=some x.2.2.2.2)(c:o.map g=some y):o.map (λs=>(f s,g s))=some (x,y):=by
 cases o with
 | none=>cases c
 | some s =>
  have a:=yn h1;have d:=yn h;have e:=yn c;have i:=congrArg Prod.fst a;have j:=congrArg (λz=>z.2.1) a;have l:=congrArg (λz=>z.2.2.1) a;have m:=congrArg (λz=>z.2.2.2) a;show congrArg some (Xj (Xj i (Xj j (Xj l (Xj m d)))) e)
theorem left_of{q:Program}{Xt:Shared->Bool}{Yf:Shared->α}{Ya:World->α}{N:Nat}(e:opening p=plainProg p.main.scope.names)(n:Nat.ble 600 N=true)(f:∀ s,fenceModules? p s=some s)
  (h:∀ w a,qfg p q Xt Yf N w a=some (openGood q [],Ya w)):LeftO p q [] Xt Yf Ya N:=λw=>by
 obtain⟨⟨m,l,d,k,a⟩,i,j⟩:=yo.mp (boot_open e n f w);obtain⟨rfl,rfl,rfl,rfl⟩:m=boot_heap w.params/\l=Array.mk []/\d=boot_drawn/\k=boot_toks:=by simpa using j
 have b:=h w a;unfold qfg at b;unfold openEnds;rw[i];show(topFrom treeTable p w N _).map _=_;unfold topFrom;dsimp only;split at b
 .rename_i z
  rw[z];obtain⟨s,o,c⟩:=Option.bind_eq_some_iff.mp b;have r:=qfF o
  have g:(qeZ w.params a).abs=⟨boot_heap w.params,Array.mk [],boot_drawn,boot_toks,a⟩:=by
   unfold qeZ SharedT.abs;dsimp only;rw[boot_abs]
  rw[g] at r;dsimp only;rw[r];split at c
  .rename_i z2
   show((match staticsOk (importedModules p.main.body) (boot_heap w.params) s.abs.heap&&namesBound p s.abs.heap&&gensDone s.abs&&laidKept (boot_heap w.params) s.abs.heap with | true=>some s.abs | false=>none):Option Shared).map _=_;rw[z2];show c
  .cases c
 .cases b
end Hd
namespace K48
open PySem L2 PyProof.Rows PySem.W
abbrev NN:Nat:=20000
def Q:Program:=view PySem.Challenge.pw_onceroad_k48_rows_that_leave_out [0,2,3,4,5,6,7,8,9,11,12,14,16,18,19,21,22,23,24,25,26,27,28,30,31,32,33,34,35,36,37,38,39,40,41,42,43,44,45,46,47,48,49]
noncomputable def en(P:Params)(t:Tok)(v:Value)(k:Str):DictEntry:=⟨PyData.keyHash P k,.str k t,v⟩
noncomputable def cO(t a b r:Nat)(x y z v:Value)(e u:Nat)(q n:Str):Obj:=⟨.type "code",none,.fields #[.str n t,.str q (t+1),.str "/claim/cut.py" (t+2),.int a 0,.int b 0,.int 0 0,.int 0 0,.int 3 0,.ref r,.bool true,.int 181 0,x,y,z,v,.ref e,.int u 0,.int a 0,.str "/claim/cut.py" (u+1)],#[]⟩
noncomputable def cE(t b a r:Nat)(x y z v:Value)(e u:Nat)(n:Str):Obj:=cO t b a r x y z v e u n n
noncomputable def fO(k c:Nat)(s:Stmt)(m q n:Str):Obj:=⟨.type "function",none,.func (fnOf n q (qaD s) (zS s) (qh s) .none .none .none (.str m k) none (.ref c) .none),#[]⟩
noncomputable def fE(k c:Nat)(s:Stmt)(m n:Str):Obj:=fO k c s m n n
noncomputable def Kf(P:Params):Frag:=
 (nat_lit 1,(⟨(.type "dict"),none,.dict #[en P 162 (.ref 4) "builtins",en P 163 (.ref 5) "__main__"] 2,#[]⟩:Obj)) ::
 (nat_lit 2,(⟨.none,none,.dict #[] 0,#[]⟩:Obj)) ::
 (nat_lit 3,(⟨(.type "dict"),none,.dict #[en P 165 (.str "law_onceroad_k48_rows_that_leave_out" 784) "__name__",en P 166 .none "__doc__",en P 167 .none "__package__",en P 168 (.builtin "__main__.__loader__#opaque") "__loader__",en P 169 .none "__spec__",en P 170 (.ref 6) "__annotations__",en P 171 (.ref 4) "__builtins__",en P 173 (.str "/claim/cut.py" 172) "__file__",en P 174 .none "__cached__",en P 193 (.ref 21) "_wall",en P 221 (.ref 38) "OnceError",en P 246 (.ref 58) "NoName",en P 271 (.ref 77) "Twice",en P 296 (.ref 96) "NoPlace",en P 321 (.ref 115) "NoTie",en P 346 (.ref 134) "TooMany",en P 371 (.ref 153) "NoPairs",en P 396 (.ref 172) "NoBar",en P 408 (.ref 181) "are_pairs",en P 418 (.ref 188) "partners_in",en P 549 (.ref 278) "Forest",en P 561 (.ref 289) "row_out",en P 565 (.int 6 564) "LONGEST_NAME",en P 571 (.ref 294) "is_name",en P 575 (.int 14 574) "MOST_PLACES",en P 577 (.int 30 576) "MOST_TIES",en P 737 (.ref 421) "Web",en P 745 (.ref 432) "has_bit",en P 753 (.ref 439) "is_place",en P 762 (.ref 446) "are_two_places",en P 771 (.ref 453) "numbers_of",en P 783 (.ref 460) "near_of",en P 793 (.ref 467) "_law_cell",en P 800 (.ref 474) "_law_purse",en P 810 (.ref 481) "_law_take",en P 816 (.ref 486) "_law_names",en P 830 (.ref 493) "_law_ties",en P 838 (.ref 500) "_law_many",en P 849 (.ref 507) "_law_made",en P 860 (.ref 514) "_law_bits",en P 875 (.ref 521) "_law_table",en P 881 (.ref 526) "_law_greatest",en P 894 (.ref 533) "_law_named",en P 907 (.ref 540) "_law_are_pairs",en P 913 (.ref 545) "_law_free",en P 919 (.ref 550) "_law_is_row",en P 925 (.ref 555) "_law_turned",en P 931 (.ref 560) "_law_right",en P 942 (.ref 567) "_law_said",en P 948 (.ref 572) "_law_as_many",en P 954 (.ref 577) "_law_refused",en P 960 (.ref 582) "law"] 52,#[]⟩:Obj)) ::
 (nat_lit 34,cO 208 7 2 29 (.ref 30) .none (.ref 31) (.ref 32) 33 213 "OnceError.__init__" "__init__") ::
 (nat_lit 35,fO 194 34 jD "onceroad.errors" "OnceError.__init__" "__init__") ::
 (nat_lit 37,(⟨(.type "dict"),none,.dict #[en P 203 (.str "onceroad.errors" 194) "__module__",en P 207 (.int 5 206) "__firstlineno__",en P 215 (.ref 35) "__init__",en P 216 (.ref 36) "__static_attributes__",en P 218 (.ref 39) "__weakref__",en P 219 .none "__doc__"] 3,#[]⟩:Obj)) ::
 (nat_lit 38,(⟨(.type "type"),none,.cls { name:="OnceError",bases:=[(.type "ValueError")],mro:=[(.ref 38),(.type "ValueError"),(.type "Exception"),(.type "BaseException"),(.type "object")],ns:=37,qualname:="OnceError",hasDict:=true,slotNames:=[],subclasses:=[(.ref 58),(.ref 77),(.ref 96),(.ref 115),(.ref 134),(.ref 153),(.ref 172)],abstract:=false,collection:=none,hasDel:=false },#[(some (.ref 22)),none,(some (.str "OnceError" 196)),(some (.str "OnceError" 204)),(some (.builtin "ValueError.__new__")),(some (.bool true))]⟩:Obj)) ::
 (nat_lit 92,cO 284 21 2 87 (.ref 88) .none (.ref 89) (.ref 90) 91 289 "NoPlace.__init__" "__init__") ::
 (nat_lit 93,fO 194 92 j3 "onceroad.errors" "NoPlace.__init__" "__init__") ::
 (nat_lit 95,(⟨(.type "dict"),none,.dict #[en P 279 (.str "onceroad.errors" 194) "__module__",en P 283 (.int 19 282) "__firstlineno__",en P 291 (.ref 93) "__init__",en P 293 (.ref 94) "__static_attributes__",en P 294 .none "__doc__"] 2,#[]⟩:Obj)) ::
 (nat_lit 96,(⟨(.type "type"),none,.cls { name:="NoPlace",bases:=[(.ref 38)],mro:=[(.ref 96),(.ref 38),(.type "ValueError"),(.type "Exception"),(.type "BaseException"),(.type "object")],ns:=95,qualname:="NoPlace",hasDict:=true,slotNames:=[],subclasses:=[],abstract:=false,collection:=none,hasDel:=false },#[(some (.ref 80)),none,(some (.str "NoPlace" 272)),(some (.str "NoPlace" 280)),(some (.builtin "ValueError.__new__")),(some (.bool true))]⟩:Obj)) ::
 (nat_lit 149,cO 359 36 2 144 (.ref 145) .none (.ref 146) (.ref 147) 148 364 "NoPairs.__init__" "__init__") ::
 (nat_lit 150,fO 194 149 j4 "onceroad.errors" "NoPairs.__init__" "__init__") ::
 (nat_lit 152,(⟨(.type "dict"),none,.dict #[en P 354 (.str "onceroad.errors" 194) "__module__",en P 358 (.int 34 357) "__firstlineno__",en P 366 (.ref 150) "__init__",en P 368 (.ref 151) "__static_attributes__",en P 369 .none "__doc__"] 2,#[]⟩:Obj)) ::
 (nat_lit 153,(⟨(.type "type"),none,.cls { name:="NoPairs",bases:=[(.ref 38)],mro:=[(.ref 153),(.ref 38),(.type "ValueError"),(.type "Exception"),(.type "BaseException"),(.type "object")],ns:=152,qualname:="NoPairs",hasDict:=true,slotNames:=[],subclasses:=[],abstract:=false,collection:=none,hasDel:=false },#[(some (.ref 137)),none,(some (.str "NoPairs" 347)),(some (.str "NoPairs" 355)),(some (.builtin "ValueError.__new__")),(some (.bool true))]⟩:Obj)) ::
 (nat_lit 171,(⟨(.type "dict"),none,.dict #[en P 379 (.str "onceroad.errors" 194) "__module__",en P 383 (.int 39 382) "__firstlineno__",en P 391 (.ref 169) "__init__",en P 393 (.ref 170) "__static_attributes__",en P 394 .none "__doc__"] 2,#[]⟩:Obj)) ::
 (nat_lit 172,(⟨(.type "type"),none,.cls { name:="NoBar",bases:=[(.ref 38)],mro:=[(.ref 172),(.ref 38),(.type "ValueError"),(.type "Exception"),(.type "BaseException"),(.type "object")],ns:=171,qualname:="NoBar",hasDict:=true,slotNames:=[],subclasses:=[],abstract:=false,collection:=none,hasDel:=false },#[(some (.ref 156)),none,(some (.str "NoBar" 372)),(some (.str "NoBar" 380)),(some (.builtin "ValueError.__new__")),(some (.bool true))]⟩:Obj)) ::
 (nat_lit 180,cE 399 45 2 175 (.ref 176) .none (.ref 177) (.ref 178) 179 406 "are_pairs") ::
 (nat_lit 181,fE 397 180 zq "onceroad.pairs" "are_pairs") ::
 (nat_lit 187,cE 409 55 2 182 (.ref 183) .none (.ref 184) (.ref 185) 186 416 "partners_in") ::
 (nat_lit 188,fE 397 187 jS "onceroad.pairs" "partners_in") ::
 (nat_lit 201,cO 433 66 3 196 (.ref 197) .none (.ref 198) (.ref 199) 200 439 "Forest.__init__" "__init__") ::
 (nat_lit 202,fO 419 201 jU "onceroad.forests" "Forest.__init__" "__init__") ::
 (nat_lit 208,cO 442 77 1 203 (.ref 204) .none (.ref 205) (.ref 206) 207 446 "Forest.row" "row") ::
 (nat_lit 209,fO 419 208 zF "onceroad.forests" "Forest.row" "row") ::
 (nat_lit 222,cO 456 83 2 217 (.ref 218) .none (.ref 219) (.ref 220) 221 461 "Forest.row_to" "row_to") ::
 (nat_lit 223,fO 419 222 jq "onceroad.forests" "Forest.row_to" "row_to") ::
 (nat_lit 236,cO 471 92 1 231 (.ref 232) .none (.ref 233) (.ref 234) 235 476 "Forest.grow" "grow") ::
 (nat_lit 237,fO 419 236 zh "onceroad.forests" "Forest.grow" "grow") ::
 (nat_lit 243,cO 479 100 3 238 (.ref 239) .none (.ref 240) (.ref 241) 242 485 "Forest.reach" "reach") ::
 (nat_lit 244,fO 419 243 j5 "onceroad.forests" "Forest.reach" "reach") ::
 (nat_lit 250,cO 488 104 2 245 (.ref 246) .none (.ref 247) (.ref 248) 249 495 "Forest.look_around" "look_around") ::
 (nat_lit 251,fO 419 250 jc "onceroad.forests" "Forest.look_around" "look_around") ::
 (nat_lit 255,cO 498 115 3 252 (.ref 253) .none .none .none 254 501 "Forest.bring_together" "bring_together") ::
 (nat_lit 256,fO 419 255 qJ "onceroad.forests" "Forest.bring_together" "bring_together") ::
 (nat_lit 262,cO 504 126 2 257 (.ref 258) .none (.ref 259) (.ref 260) 261 511 "Forest.bases_down_from" "bases_down_from") ::
 (nat_lit 263,fO 419 262 qO "onceroad.forests" "Forest.bases_down_from" "bases_down_from") ::
 (nat_lit 269,cO 514 133 4 264 (.ref 265) .none (.ref 266) (.ref 267) 268 525 "Forest.reach_round" "reach_round") ::
 (nat_lit 270,fO 419 269 q9 "onceroad.forests" "Forest.reach_round" "reach_round") ::
 (nat_lit 274,cO 528 142 3 271 (.ref 272) .none .none .none 273 531 "Forest.fold" "fold") ::
 (nat_lit 275,fO 419 274 jT "onceroad.forests" "Forest.fold" "fold") ::
 (nat_lit 277,(⟨(.type "dict"),none,.dict #[en P 428 (.str "onceroad.forests" 419) "__module__",en P 432 (.int 64 431) "__firstlineno__",en P 441 (.ref 202) "__init__",en P 448 (.ref 209) "row",en P 455 (.ref 216) "reached",en P 463 (.ref 223) "row_to",en P 470 (.ref 230) "folds",en P 478 (.ref 237) "grow",en P 487 (.ref 244) "reach",en P 497 (.ref 251) "look_around",en P 503 (.ref 256) "bring_together",en P 513 (.ref 263) "bases_down_from",en P 527 (.ref 270) "reach_round",en P 533 (.ref 275) "fold",en P 542 (.ref 276) "__static_attributes__",en P 544 (.ref 279) "__dict__",en P 546 (.ref 280) "__weakref__",en P 547 .none "__doc__"] 4,#[]⟩:Obj)) ::
 (nat_lit 278,(⟨(.type "type"),none,.cls { name:="Forest",bases:=[(.type "object")],mro:=[(.ref 278),(.type "object")],ns:=277,qualname:="Forest",hasDict:=true,slotNames:=[],subclasses:=[],abstract:=false,collection:=none,hasDel:=false },#[none,none,(some (.str "Forest" 421)),(some (.str "Forest" 429)),(some (.builtin "object.__new__")),(some (.bool true))]⟩:Obj)) ::
 (nat_lit 288,cE 552 148 3 283 (.ref 284) .none (.ref 285) (.ref 286) 287 559 "row_out") ::
 (nat_lit 289,fE 550 288 qam "onceroad.sorts" "row_out") ::
 (nat_lit 293,cE 566 155 1 290 (.ref 291) .none .none .none 292 569 "is_name") ::
 (nat_lit 294,fE 562 293 zo "onceroad.names" "is_name") ::
 (nat_lit 307,cO 590 164 3 302 (.ref 303) .none (.ref 304) (.ref 305) 306 596 "Web.__init__" "__init__") ::
 (nat_lit 308,fO 572 307 qat "onceroad.webs" "Web.__init__" "__init__") ::
 (nat_lit 314,cO 599 169 1 309 (.ref 310) .none (.ref 311) (.ref 312) 313 603 "Web.places" "places") ::
 (nat_lit 315,fO 572 314 zC "onceroad.webs" "Web.places" "places") ::
 (nat_lit 335,cO 623 183 2 330 (.ref 331) .none (.ref 332) (.ref 333) 334 628 "Web.has_place" "has_place") ::
 (nat_lit 336,fO 572 335 jo "onceroad.webs" "Web.has_place" "has_place") ::
 (nat_lit 342,cO 631 186 2 337 (.ref 338) .none (.ref 339) (.ref 340) 341 636 "Web.has_tie" "has_tie") ::
 (nat_lit 343,fO 572 342 jR "onceroad.webs" "Web.has_tie" "has_tie") ::
 (nat_lit 349,cO 639 189 2 344 (.ref 345) .none (.ref 346) (.ref 347) 348 644 "Web.number_of" "number_of") ::
 (nat_lit 350,fO 572 349 jp "onceroad.webs" "Web.number_of" "number_of") ::
 (nat_lit 356,cO 647 194 2 351 (.ref 352) .none (.ref 353) (.ref 354) 355 652 "Web.beside" "beside") ::
 (nat_lit 357,fO 572 356 zD "onceroad.webs" "Web.beside" "beside") ::
 (nat_lit 363,cO 655 197 2 358 (.ref 359) .none (.ref 360) (.ref 361) 362 660 "Web.bits_beside" "bits_beside") ::
 (nat_lit 364,fO 572 363 ju "onceroad.webs" "Web.bits_beside" "bits_beside") ::
 (nat_lit 370,cO 663 200 3 365 (.ref 366) .none (.ref 367) (.ref 368) 369 670 "Web.tied" "tied") ::
 (nat_lit 371,fO 572 370 qau "onceroad.webs" "Web.tied" "tied") ::
 (nat_lit 389,cO 687 210 2 386 (.ref 387) .none .none .none 388 690 "Web.names_in" "names_in") ::
 (nat_lit 390,fO 572 389 jC "onceroad.webs" "Web.names_in" "names_in") ::
 (nat_lit 420,(⟨(.type "dict"),none,.dict #[en P 585 (.str "onceroad.webs" 572) "__module__",en P 589 (.int 162 588) "__firstlineno__",en P 598 (.ref 308) "__init__",en P 605 (.ref 315) "places",en P 615 (.ref 322) "ties",en P 622 (.ref 329) "how_many",en P 630 (.ref 336) "has_place",en P 638 (.ref 343) "has_tie",en P 646 (.ref 350) "number_of",en P 654 (.ref 357) "beside",en P 662 (.ref 364) "bits_beside",en P 672 (.ref 371) "tied",en P 679 (.ref 378) "pieces",en P 686 (.ref 385) "told",en P 692 (.ref 390) "names_in",en P 700 (.ref 397) "without",en P 708 (.ref 404) "with_place",en P 717 (.ref 411) "with_tie",en P 726 (.ref 418) "without_tie",en P 730 (.ref 419) "__static_attributes__",en P 732 (.ref 422) "__dict__",en P 734 (.ref 423) "__weakref__",en P 735 .none "__doc__"] 4,#[]⟩:Obj)) ::
 (nat_lit 421,(⟨(.type "type"),none,.cls { name:="Web",bases:=[(.type "object")],mro:=[(.ref 421),(.type "object")],ns:=420,qualname:="Web",hasDict:=true,slotNames:=[],subclasses:=[],abstract:=false,collection:=none,hasDel:=false },#[none,none,(some (.str "Web" 578)),(some (.str "Web" 586)),(some (.builtin "object.__new__")),(some (.bool true))]⟩:Obj)) ::
 (nat_lit 431,cE 738 224 2 426 (.ref 427) .none (.ref 428) (.ref 429) 430 743 "has_bit") ::
 (nat_lit 432,fE 572 431 qaO "onceroad.webs" "has_bit") ::
 (nat_lit 438,cE 746 226 2 433 (.ref 434) .none (.ref 435) (.ref 436) 437 751 "is_place") ::
 (nat_lit 439,fE 572 438 zL "onceroad.webs" "is_place") ::
 (nat_lit 445,cE 754 228 2 440 (.ref 441) .none (.ref 442) (.ref 443) 444 760 "are_two_places") ::
 (nat_lit 446,fE 572 445 ji "onceroad.webs" "are_two_places") ::
 (nat_lit 452,cE 763 233 1 447 (.ref 448) .none (.ref 449) (.ref 450) 451 769 "numbers_of") ::
 (nat_lit 453,fE 572 452 zy "onceroad.webs" "numbers_of") ::
 (nat_lit 459,cE 772 246 2 454 (.ref 455) .none (.ref 456) (.ref 457) 458 781 "near_of") ::
 (nat_lit 460,fE 572 459 qaP "onceroad.webs" "near_of") ::
 (nat_lit 466,cE 786 263 2 461 (.ref 462) .none (.ref 463) (.ref 464) 465 791 "_law_cell") ::
 (nat_lit 467,fE 784 466 qbw "law_onceroad_k48_rows_that_leave_out" "_law_cell") ::
 (nat_lit 473,cE 794 267 1 468 (.ref 469) .none (.ref 470) (.ref 471) 472 798 "_law_purse") ::
 (nat_lit 474,fE 784 473 qaR "law_onceroad_k48_rows_that_leave_out" "_law_purse") ::
 (nat_lit 480,cE 801 269 2 475 (.ref 476) .none (.ref 477) (.ref 478) 479 808 "_law_take") ::
 (nat_lit 481,fE 784 480 qbx "law_onceroad_k48_rows_that_leave_out" "_law_take") ::
 (nat_lit 485,cE 811 279 2 482 (.ref 483) .none .none .none 484 814 "_law_names") ::
 (nat_lit 486,fE 784 485 qaj "law_onceroad_k48_rows_that_leave_out" "_law_names") ::
 (nat_lit 492,cE 817 297 2 487 (.ref 488) .none (.ref 489) (.ref 490) 491 828 "_law_ties") ::
 (nat_lit 493,fE 784 492 qbz "law_onceroad_k48_rows_that_leave_out" "_law_ties") ::
 (nat_lit 499,cE 831 309 2 494 (.ref 495) .none (.ref 496) (.ref 497) 498 836 "_law_many") ::
 (nat_lit 500,fE 784 499 qby "law_onceroad_k48_rows_that_leave_out" "_law_many") ::
 (nat_lit 506,cE 839 311 2 501 (.ref 502) .none (.ref 503) (.ref 504) 505 847 "_law_made") ::
 (nat_lit 507,fE 784 506 qbA "law_onceroad_k48_rows_that_leave_out" "_law_made") ::
 (nat_lit 513,cE 850 316 2 508 (.ref 509) .none (.ref 510) (.ref 511) 512 858 "_law_bits") ::
 (nat_lit 514,fE 784 513 qbB "law_onceroad_k48_rows_that_leave_out" "_law_bits") ::
 (nat_lit 520,cE 861 322 2 515 (.ref 516) .none (.ref 517) (.ref 518) 519 873 "_law_table") ::
 (nat_lit 521,fE 784 520 qaS "law_onceroad_k48_rows_that_leave_out" "_law_table") ::
 (nat_lit 525,cE 876 336 4 522 (.ref 523) .none .none .none 524 879 "_law_greatest") ::
 (nat_lit 526,fE 784 525 jH "law_onceroad_k48_rows_that_leave_out" "_law_greatest") ::
 (nat_lit 532,cE 882 351 3 527 (.ref 528) .none (.ref 529) (.ref 530) 531 892 "_law_named") ::
 (nat_lit 533,fE 784 532 qaT "law_onceroad_k48_rows_that_leave_out" "_law_named") ::
 (nat_lit 539,cE 895 357 3 534 (.ref 535) .none (.ref 536) (.ref 537) 538 905 "_law_are_pairs") ::
 (nat_lit 540,fE 784 539 zi "law_onceroad_k48_rows_that_leave_out" "_law_are_pairs") ::
 (nat_lit 544,cE 908 370 3 541 (.ref 542) .none .none .none 543 911 "_law_free") ::
 (nat_lit 545,fE 784 544 qaV "law_onceroad_k48_rows_that_leave_out" "_law_free") ::
 (nat_lit 549,cE 914 373 5 546 (.ref 547) .none .none .none 548 917 "_law_is_row") ::
 (nat_lit 550,fE 784 549 jZ "law_onceroad_k48_rows_that_leave_out" "_law_is_row") ::
 (nat_lit 554,cE 920 389 2 551 (.ref 552) .none .none .none 553 923 "_law_turned") ::
 (nat_lit 555,fE 784 554 jY "law_onceroad_k48_rows_that_leave_out" "_law_turned") ::
 (nat_lit 559,cE 926 393 7 556 (.ref 557) .none .none .none 558 929 "_law_right") ::
 (nat_lit 560,fE 784 559 zP "law_onceroad_k48_rows_that_leave_out" "_law_right") ::
 (nat_lit 566,cE 932 412 3 561 (.ref 562) .none (.ref 563) (.ref 564) 565 940 "_law_said") ::
 (nat_lit 567,fE 784 566 qbE "law_onceroad_k48_rows_that_leave_out" "_law_said") ::
 (nat_lit 571,cE 943 423 4 568 (.ref 569) .none .none .none 570 946 "_law_as_many") ::
 (nat_lit 572,fE 784 571 zr "law_onceroad_k48_rows_that_leave_out" "_law_as_many") ::
 (nat_lit 576,cE 949 432 5 573 (.ref 574) .none .none .none 575 952 "_law_refused") ::
 (nat_lit 577,fE 784 576 zt "law_onceroad_k48_rows_that_leave_out" "_law_refused") ::
 (nat_lit 581,cE 955 443 1 578 (.ref 579) .none .none .none 580 958 "law") ::
 (nat_lit 582,fE 784 581 qc7 "law_onceroad_k48_rows_that_leave_out" "law") ::
 []
noncomputable def ks:LX:=[1,2,3,34,35,37,38,92,93,95,96,149,150,152,153,171,172,180,181,187,188,201,202,208,209,222,223,236,237,243,244,250,251,255,256,262,263,269,270,274,275,277,278,288,289,293,294,307,308,314,315,335,336,342,343,349,350,356,357,363,364,370,371,389,390,420,421,431,432,438,439,445,446,452,453,459,460,466,467,473,474,480,481,485,486,492,493,499,500,506,507,513,514,520,521,525,526,532,533,539,540,544,545,549,550,554,555,559,560,566,567,571,572,576,577,581,582]
theorem ks_eq:∀ P,ks=(Kf P).map (·.1):=λP=>by kernel_rfl
abbrev Hk:Hook:=kHook Kf ks ks_eq
abbrev Xt(s:Shared):Bool:=xlAt Q [] s&&recOk [] s
abbrev sn(s:Shared):=openSeen Q [] (importedModules PySem.Challenge.pw_onceroad_k48_rows_that_leave_out.main.body) Xt true s
noncomputable def runA(w:World)(a:OsState):=(Hd.lookS PySem.Challenge.pw_onceroad_k48_rows_that_leave_out NN w a).map λs=>((sn s).1,(sn s).2.1,(sn s).2.2.1,(sn s).2.2.2.1)
noncomputable def runB(w:World)(a:OsState):=(Hd.lookS PySem.Challenge.pw_onceroad_k48_rows_that_leave_out NN w a).map λs=>(sn s).2.2.2.2
noncomputable def runC(w:World)(a:OsState):=(Hd.lookS PySem.Challenge.pw_onceroad_k48_rows_that_leave_out NN w a).map λs=>ks.map s.heap.get?
noncomputable def gdA(_:World)(_:OsState):=some ((openGood Q []).1,(openGood Q []).2.1,(openGood Q []).2.2.1,(openGood Q []).2.2.2.1)
noncomputable def gdB(_:World)(_:OsState):=some (openGood Q []).2.2.2.2
noncomputable def gdC(w:World)(_:OsState):=some ((Kf w.params).map λp=>some p.2)
noncomputable def tag{a:Type}(f g:World->OsState->a):Bool:=true
theorem tag1:(tag runA gdA&&(tag runB gdB&&tag runC runC))=true:=by k_qdec
theorem hA1(w:World)(a:OsState):runA w a=gdA w a:=by
 rw[PySem.W.Fast.te6745894456673127838,PySem.W.Fast.te3439430439593648008]
 kernel_rfl
theorem hB1(w:World)(a:OsState):runB w a=gdB w a:=by
 rw[PySem.W.Fast.te801160528204064269,PySem.W.Fast.te11938746801878878623]
 kernel_rfl
theorem hC1(w:World)(a:OsState):runC w a=gdC w a:=by
 rw[PySem.W.Fast.te17804175582120555812]
 kernel_rfl
theorem hl:LeftO PySem.Challenge.pw_onceroad_k48_rows_that_leave_out Q [] Xt (Hook.obs Hk) (Hook.val Hk) NN:=Hd.left_of (by kernel_rfl) (by decide) (λs=>by kernel_rfl) λw a=>(Hd.lookT_map ..).trans (Hd.packs (hA1 w a) (hB1 w a) (hC1 w a))
end K48
namespace L2
open PySem PySem.Spec PyProof.Rows
variable{A:Around}{C a b dx it:Addr}{CX:CXT}{D:Ends}{E:Value->Shared->Prop}{H:Hp}{M:Model}{N ps:LS}{P:Program}{X:Cx}{base h:Heap}{body:List Stmt}{c e tg:Expr}{ch fp:LX}{d':Drawn}{es:List Expr}{f:Value->Value->Sem Value}{g:TG}{g':Array GenState}{i j n t':Nat}{kindOf:Str->Option NameKind}{kw:List (Str×Value)}{lo:Int}{mA mg:Str->Option Value}{o:HO}{op op':CmpOp}{outer:List Env}{p pos:Pos}{pins:List (Addr×Obj)}{qual x:Str}{r r':R2}{s s':Shared}{sc scope:Scope}{t te:TE}{ta:TA}{tb:TS}{tc:TT}{u:Value}{us:List Value}{v y:V}{vs xs:List V}{w:World}{α:Type}{σ:St}
abbrev Key:=Sum Int Str
def qdb:Key->Value->Bool
 | .inl k,v=>Value.isInt k v
 | .inr x,v=>Value.isStrOf x v
def keyH(w:World):Key->Int
 | .inl k=>hashInt k
 | .inr x=>hashStr w x
theorem qW:∀{k:Key} {v:Value},qdb k v=true->(∃ i t,k=Sum.inl i/\v=Value.int i t)\/(∃ x t,k=Sum.inr x/\v=Value.str x t)
 | .inl i,v,h=>by
  obtain⟨t,e⟩:=Value.isInt_shape (k:=i) (v:=v) h;show .inl ⟨i,t,rfl,e⟩
 | .inr x,v,h=>by
  obtain⟨t,e⟩:=Value.isStrOf_shape (x:=x) (v:=v) h;show .inr ⟨x,t,rfl,e⟩
theorem keyIs_int(i:Int)(t:Tok):qdb (.inl i) (.int i t)=true:=by simp[qdb,Value.isInt]
theorem keyIs_str(x:Str)(t:Tok):qdb (.inr x) (.str x t)=true:=by simp[qdb,Value.isStrOf]
theorem key_ll(a b:Int):decide ((Sum.inl a:Key)=Sum.inl b)=(a==b):=by
 by_cases e:a=b
 .subst e;simp
 .have h:¬ (Sum.inl a:Key)=Sum.inl b:=λq=>e (Sum.inl.inj q);rw[ym h];show(YB.mpr e).symm
theorem key_rr(a b:Str):decide ((Sum.inr a:Key)=Sum.inr b)=decide (a=b):=by
 by_cases e:a=b
 .subst e;simp
 .have h:¬ (Sum.inr a:Key)=Sum.inr b:=λq=>e (xU q);rw[ym h,ym e]
theorem key_lr(a:Int)(b:Str):decide ((Sum.inl a:Key)=Sum.inr b)=false:=ym (λq=>nomatch q)
theorem key_rl(a:Str)(b:Int):decide ((Sum.inr a:Key)=Sum.inl b)=false:=ym (λq=>nomatch q)
def jI(prog:Program)(w:World):PySem.KeyKind prog w Key where
 is:=qdb
 hash:=keyH w
 inj:=λv a b c hb=>by
  rcases qW c with⟨i,t,rfl,rfl⟩ | ⟨x,t,rfl,rfl⟩
  .rcases qW hb with⟨j,u,rfl,e⟩ | ⟨y,u,rfl,e⟩
   .injection e with e1 _;rw[e1]
   .show nomatch e
  .rcases qW hb with⟨j,u,rfl,e⟩ | ⟨y,u,rfl,e⟩
   .show nomatch e
   .injection e with e1 _;rw[e1]
 byValue:=λk v h=>by
  rcases qW h with⟨i,t,rfl,rfl⟩ | ⟨x,t,rfl,rfl⟩<;>rfl
 pyHash:=λhv h=>by
  rcases qW hv with⟨i,t,rfl,rfl⟩ | ⟨x,t,rfl,rfl⟩
  .show wpAny_pyHash_int h
  .show wpAny_pyHash_str h
 eqBool:=λd hv h=>by
  rcases qW d with⟨i,t,rfl,rfl⟩ | ⟨x,t,rfl,rfl⟩
  .rcases qW hv with⟨j,u,rfl,rfl⟩ | ⟨y,u,rfl,rfl⟩
   .rw [key_ll] at h;show wpAny_eqBool_int h
   .rw [key_lr] at h;show SeqAt.EqAt.int_str i t y u _ _ _ _ h
  .rcases qW hv with⟨j,u,rfl,rfl⟩ | ⟨y,u,rfl,rfl⟩
   .rw [key_rl] at h;show SeqAt.EqAt.str_int x t j u _ _ _ _ h
   .rw [key_rr] at h;show wpAny_eqBool_str h
 «strs»:=λk x t v h=>by
  rcases qW h with⟨i,u,rfl,e⟩ | ⟨y,u,rfl,e⟩
  .show nomatch e
  .injection e with e1 _
   subst e1;cases v<;>rfl
theorem mixKind_int(prog:Program)(w:World)(i:Int)(t:Tok):(jI prog w).is (.inl i) (.int i t)=true:=keyIs_int i t
theorem mixKind_str(prog:Program)(w:World)(x:Str)(t:Tok):(jI prog w).is (.inr x) (.str x t)=true:=keyIs_str x t
inductive V where
 | non | bl (b:Bool) | int (i:Int) | str (x:Str) | byt (b:Array UInt8) | flt (b:UInt64) | ref (a:Addr) | ty (n:String)
 deriving DecidableEq
def RelV:V->Value->Prop
 | .non,u=>u=Value.none
 | .bl b,u=>u=Value.bool b
 | .int i,u=>∃ t,u=Value.int i t
 | .str x,u=>∃ t,u=Value.str x t
 | .byt b,u=>∃ t,u=Value.bytes b t
 | .flt b,u=>∃ t,u=Value.float b t
 | .ref a,u=>u=Value.ref a
 | .ty n,u=>u=Value.type n
abbrev Vals:List V->List Value->Prop:=Paired RelV
theorem Vals.length(r:Vals xs us):xs.length=us.length:=Paired.length r
theorem Vals.get:∀{xs:List V} {us:List Value} {i:Nat} {x:V},Vals xs us->xs[i]?=some x->∃ u,us[i]?=some u/\RelV x u
 | _,_,_,_,.nil,e=>by simp at e
 | _,_,0,_,.cons r _,e=>by simp at e;subst e;show⟨_,rfl,r⟩
 | _,_,i+1,x,.cons _ t,e=>by
  obtain⟨u,h1,a⟩:=Vals.get (i:=i) (x:=x) t (by simpa using e);show⟨u,by simpa using h1,a⟩
theorem Vals.set{x:V}(r:RelV x u):∀{xs:List V} {us:List Value} (i:Nat),Vals xs us->Vals (xs.set i x) (us.set i u)
 | _,_,_,.nil=>.nil
 | _,_,0,.cons _ t=>.cons r t
 | _,_,i+1,.cons q t=>.cons q (Vals.set r i t)
theorem Vals.append:∀{xs b:List V} {us a:List Value},Vals xs us->Vals b a->Vals (xs++b) (us++a)
 | _,_,_,_,.nil,s=>s
 | _,_,_,_,.cons r t,s=>.cons r (Vals.append t s)
theorem Vals.take:∀{xs:List V} {us:List Value} (n:Nat),Vals xs us->Vals (xs.take n) (us.take n)
 | _,_,0,_=>.nil
 | _,_,_+1,.nil=>.nil
 | _,_,n+1,.cons r t=>.cons r (Vals.take n t)
theorem Vals.drop:∀{xs:List V} {us:List Value} (n:Nat),Vals xs us->Vals (xs.drop n) (us.drop n)
 | _,_,0,r=>r
 | _,_,_+1,.nil=>.nil
 | _,_,n+1,.cons _ t=>Vals.drop n t
def RelO:Option V->Option Value->Prop
 | some v,some u=>RelV v u
 | none,none=>True
 | _,_=>False
def KV{a:Type}:List (a×V)->List (a×Value)->Prop:=Paired λ(p:a×V) (q:a×Value)=>p.1=q.1/\RelV p.2 q.2
def kV:Key->V
 | .inl i=>.int i
 | .inr x=>.str x
inductive HO where
 /-- a list -/
 | lst (xs:List V)
 /-- a tuple (never changes) -/
 | tup (xs:List V)
 /-- a dict whose keys are ints and texts;one whose keys are tuples of ints and texts (the empty one is both) -/
 | dK (kvs:List (Key×V)) | dT (kvs:List (List Key×V))
 /-- a set of ints: its members,its size -/
 | set (S:Int->Bool) (n:Nat)
 /-- an instance of the class at C,its dict at dx,its attributes -/
 | ins (C dx:Addr) (fs:List (Str×V))
 /-- the dict of the instance at x -/
 | own (x:Addr)
 /-- the dict of an exception -/
 | xd (fs:List (Str×V))
 /-- a bound method,f of x -/
 | met (f x:Addr)
 /-- a range object lo,lo+1,.. below hi -/
 | rng (lo hi:Int)
 /-- a thing that is known to the object (the script;a dict while a loop walks it): read,never written while it is so -/
 | frz (o:Obj) (u:HO)
 /-- a code object's table -/
 | tbl (ps:Array Value)
 /-- any other thing,by what is true of its one object (a def of one's own: SetO a S n:=HO.ext λh=>..) -/
 | ext (φ:Heap->Prop)
abbrev Hp:=Addr->Option HO
def upd(H:Hp)(a:Addr)(o:HO):Hp:=λb=>if b=a then some o else H b
theorem qb:upd H a o a=some o:=by unfold upd;rw[yG rfl]
theorem qg(h:b≠a):upd H a o b=H b:=by unfold upd;rw[yF h]
theorem qaZ{u:HO}(h:H a=some o)(h':H b=some u)(d:o≠u):a≠b:=by
 intro e;subst e;rw[h] at h';show d (yn h')
theorem qN(h:H a=some o)(h':H b=none):a≠b:=by
 intro e;subst e;rw[h] at h';cases h'
section
variable(P:Program)(w:World)
def ObjOk(H:Hp)(h:Heap)(a:Addr):HO->Prop
 | .lst xs=>xs.length<=sizeLine/\∃(b:List Value) (n:Nat),Vals xs b/\h.get? a=some { cls:=.type "list",data:=.seq b.toArray n }
 | .tup xs=>xs.length<=sizeLine/\∃ b:List Value,Vals xs b/\IsTup h a b.toArray
 | .dK kvs=>kvs.length<=sizeLine/\(a==sysModules)=false/\∃ vs,KV kvs vs/\h.DictOf (jI P w) a vs
 | .dT kvs=>kvs.length<=sizeLine/\(a==sysModules)=false/\∃ xs:List (List Key×Addr×Value),
   Paired (λ(p:List Key×V) (q:List Key×Addr×Value)=>p.1=q.1/\H q.2.1=some (.tup (p.1.map kV))/\RelV p.2 q.2.2) kvs xs /\
   ∃ o es ep,h.get? a=some o/\o.ExactDict/\o.data=.dict es ep/\es.toList=xs.map (entryOfKey (tupleKind (jI P w)))/\(xs.map (·.1)).Nodup
 | .set S n=>h.SetOf (intKind P w) a S n
 | .ins C dx fs=>H dx=some (.own a)/\fs.length<=1000/\dx≠a/\h.get? a=some (PySem.W.instObj C dx) /\
   ∃ mA,h.Ns1 dx mA/\(∀ f,RelO (fs.lookup f) (mA f))/\PySem.Within mA (fs.map (·.1))
 | .own _=>∃ o,h.get? a=some o
 | .xd fs=>∃ mA,h.Ns1 a mA/\∀ f,RelO (fs.lookup f) (mA f)
 | .rng lo hi=>∃ t u v,h.get? a=some { cls:=.type "range",data:=.fields #[.int lo t,.int hi u,.int 1 v] }
 | .frz o u=>h.get? a=some o/\ObjOk H h a u
 | .tbl ps=>h.get? a=some { cls:=.none,data:=.fields ps }
 | .met f x=>h.get? a=some (PySem.W.methodObj (.ref f) (.ref x))
 | .ext φ=>φ h/\(∃ o,h.get? a=some o)/\∀ h1 c:Heap,φ h1->(∀ o,h1.get? a=some o->c.get? a=some o)->φ c
def HOk(H:Hp)(h:Heap):Prop:=∀ a o,H a=some o->ObjOk P w H h a o
end
section
variable{P:Program}{w:World}{H H':Hp}{h h':Heap}{a:Addr}{o:HO}
theorem ObjOk.lt(x:ObjOk P w H h a o):a<h.objs.size:=by
 cases o with
 | lst xs=>obtain⟨_,_,_,_,e⟩:=x;show yM e
 | tup xs=>obtain⟨_,_,_,p⟩:=x;show p.lt
 | dK kvs=>obtain⟨_,_,_,_,o,_,_,e,_⟩:=x;show yM e
 | dT kvs=>obtain⟨_,_,_,_,o,_,_,e,_⟩:=x;show yM e
 | set S n=>obtain⟨o,_,_,_,e,_⟩:=x;show yM e
 | ins C dx fs=>obtain⟨_,_,_,e,_⟩:=x;show yM e
 | own y=>obtain⟨_,e⟩:=x;show yM e
 | xd fs=>obtain⟨_,⟨_,_,_,e,_⟩,_⟩:=x;show yM e
 | rng lo hi=>obtain⟨_,_,_,e⟩:=x;show yM e
 | frz ob u=>obtain⟨e,_⟩:=x;show yM e
 | tbl ps=>show yM (show h.get? a=some _ from x)
 | met f y=>show yM (show h.get? a=some _ from x)
 | ext φ=>obtain⟨_,⟨_,e⟩,_⟩:=x;show yM e
theorem Paired.mapP{c:Type}{F G:α->c->Prop}:∀{l₁:List α} {l₂:List c},Paired F l₁ l₂->(∀ a b,F a b->G a b)->Paired G l₁ l₂
 | _,_,.nil,_=>.nil
 | _,_,.cons r t,f=>.cons (f _ _ r) (Paired.mapP t f)
theorem ObjOk.stay(x:ObjOk P w H h a o)(k:∀ b u,(b=a\/H b=some (.own a))->h.get? b=some u->h'.get? b=some u)
  (l:∀ b,H b=some (.own a)->H' b=some (.own a)) (m:∀ b xs,H b=some (.tup xs)->H' b=some (.tup xs)):ObjOk P w H' h' a o:=by
 induction o with
 | lst xs=>obtain⟨z,i,n,r,e⟩:=x;show⟨z,i,n,r,k _ _ (.inl rfl) e⟩
 | tup xs=>obtain⟨z,i,r,g,e,c⟩:=x;show⟨z,i,r,g,k _ _ (.inl rfl) e,c⟩
 | dK kvs=>obtain⟨z,y,vs,r,g,es,ep,e,c⟩:=x;show⟨z,y,vs,r,g,es,ep,k _ _ (.inl rfl) e,c⟩
 | dT kvs =>
  obtain⟨z,y,xs,r,g,es,ep,e,c⟩:=x;show⟨z,y,xs,Paired.mapP r λp q z=>⟨z.1,m _ _ z.2.1,z.2.2⟩,g,es,ep,k _ _ (.inl rfl) e,c⟩
 | set S n=>obtain⟨g,es,ep,t,e,c⟩:=x;show⟨g,es,ep,t,k _ _ (.inl rfl) e,c⟩
 | ins C dx fs =>
  obtain⟨d,z,ne,e,mA,⟨od,es,ep,j,c⟩,r⟩:=x;show⟨l _ d,z,ne,k _ _ (.inl rfl) e,mA,⟨od,es,ep,k _ _ (.inr d) j,c⟩,r⟩
 | own y=>obtain⟨g,e⟩:=x;show⟨g,k _ _ (.inl rfl) e⟩
 | xd fs=>obtain⟨mA,⟨od,es,ep,e,c⟩,r⟩:=x;show⟨mA,⟨od,es,ep,k _ _ (.inl rfl) e,c⟩,r⟩
 | rng lo hi=>obtain⟨t,u,v,e⟩:=x;show⟨t,u,v,k _ _ (.inl rfl) e⟩
 | frz g u ih=>obtain⟨e,q⟩:=x;show⟨k _ _ (.inl rfl) e,ih q⟩
 | tbl ps =>
  have e:h.get? a=some { cls:=.none,data:=.fields ps }:=x;show h'.get? a=some { cls:=.none,data:=.fields ps };show k a _ (.inl rfl) e
 | met f y =>
  have e:h.get? a=some (PySem.W.methodObj (.ref f) (.ref y)):=x;show h'.get? a=some (PySem.W.methodObj (.ref f) (.ref y));show k a _ (.inl rfl) e
 | ext φ=>obtain⟨p,⟨o,e⟩,st⟩:=x;show⟨st _ _ p λo q=>k _ _ (.inl rfl) q,⟨o,k _ _ (.inl rfl) e⟩,st⟩
theorem HOk.lt(x:HOk P w H h)(e:H a=some o):a<h.objs.size:=(x a o e).lt
theorem HOk.fresh(x:HOk P w H h)(e:h.objs.size<=a):H a=none:=by
 cases q:H a with
 | none=>rfl
 | some u=>show absurd (yj (x.lt q) e) (Yz _)
theorem HOk.kept(x:HOk P w H h)(k:∀ b u,h.get? b=some u->h'.get? b=some u):HOk P w H h':=λa o e =>
 (x a o e).stay (λb u _ q=>k b u q) (λ_ q=>q) λ_ _ q=>q
theorem HOk.laid(x:HOk P w H h)(k:∀ b u,h.get? b=some u->h'.get? b=some u)(f:h.objs.size<=a)(new:ObjOk P w (upd H a o) h' a o):HOk P w (upd H a o) h':=λb u e=>by
 have d:=x.fresh f;by_cases hb:b=a
 .subst hb;rw[qb] at e;cases e;show new
 .rw [qg hb] at e;show(x b u e).stay (λc v _ q=>k c v q) (λc q=>by rw[qg (qN q d)];show q) λc xs q=>by rw[qg (qN q d)];show q
end
def Rd(H:Hp)(a:Addr)(u:HO):Prop:=H a=some u\/∃ o,H a=some (.frz o u)
theorem Rd.ok{u:HO}(r:Rd H a u)(x:HOk P w H h):ObjOk P w H h a u:=by
 rcases r with r | ⟨o,r⟩
 .show x a u r
 .obtain⟨_,q⟩:=x a _ r;show q
def Mut:Option HO->Prop
 | some (.lst _)=>True
 | some (.dK _)=>True
 | some (.dT _)=>True
 | some (.set _ _)=>True
 | some (.ins _ _ _)=>True
 | some (.ext _)=>True
 | _=>False
section
variable{P:Program}{w:World}{H:Hp}{h h':Heap}{x e:Addr}{o':HO}
theorem HOk.write(ok:HOk P w H h)(g:Mut (H x))(j:e=x\/H e=some (.own x))(k:∀ b u,b≠e->h.get? b=some u->h'.get? b=some u)(i:∃ u,h'.get? e=some u)
  (new:ObjOk P w (upd H x o') h' x o'):HOk P w (upd H x o') h':=λb u q=>by
 have d:∀ c y,H c=some (.own y)->c≠x:=λc y r z=>by subst z;rw[r] at g;show g
 have f:∀ c xs,H c=some (.tup xs)->c≠x:=λc xs r z=>by subst z;rw[r] at g;show g
 by_cases hb:b=x
 .subst hb;rw[qb] at q;cases q;show new
 .rw [qg hb] at q;by_cases a:b=e
  .have l:H b=some (.own x):=by
    rcases j with z | z
    .show absurd (a.trans z) hb
    .rw [a];show z
   rw[q] at l;cases l;obtain⟨v,hv⟩:=i;show⟨v,by rw[a];show hv⟩
  .show(ok b u q).stay (λc v hc r=>k c v ?_ r) (λc r=>by rw[qg (d c b r)];show r) λc xs r=>by rw[qg (f c xs r)];show r
   rcases hc with rfl | hc
   .show a
   .rintro rfl;rcases j with z | z
    .show d c b hc z
    .rw [hc] at z;cases z;show hb rfl
end
structure Un(fs ex:LX)(H H':Hp)(h h':Heap):Prop where
 keep:∀ b o,h.get? b=some o->H b=none->b∉fs->b∉ex->h'.get? b=some o
 slot:∀ b o,h.get? b=some o->H b=none->b∈fs->b∉ex->∃ sl,h'.get? b=some { o with slots:=sl }
 free:∀ b o,h.get? b=some o->H b=none->b∉ex->H' b=none
 there:∀ b o,h.get? b=some o->b∉ex->∃ o',h'.get? b=some o'
 tups:∀ b xs,H b=some (.tup xs)->H' b=some (.tup xs)
 frzs:∀ b o u,H b=some (.frz o u)->H' b=some (.frz o u)
 tbls:∀ b ps,H b=some (.tbl ps)->∃ more,H' b=some (.tbl (ps++more))
section
variable{fs fs' ex ex':LX}{H H1 H2:Hp}{h h1 h2 h':Heap}{a x e:Addr}{o:HO}
theorem Un.any(u:Un fs ex H H1 h h1){a:Obj}(q:h.get? b=some a)(n:H b=none)(c:b∉ex):∃ d,h1.get? b=some { a with slots:=d }:=by
 by_cases hb:b∈fs
 .show u.slot b a q n hb c
 .show⟨a.slots,u.keep b a q n hb c⟩
theorem Un.kept(k:∀ b u,h.get? b=some u->h'.get? b=some u):Un fs ex H H h h':=
 ⟨λb a q _ _ _=>k b a q,λb a q _ _ _=>⟨a.slots,k b a q⟩,λ_ _ _ n _=>n,λb a q _=>⟨a,k b a q⟩,λ_ _ q=>q,λ_ _ _ q=>q,λ_ ps q=>⟨#[],by rw[q];simp⟩⟩
theorem Un.refl:Un fs ex H H h h:=Un.kept λ_ _ q=>q
theorem Un.laid(k:∀ b u,h.get? b=some u->h'.get? b=some u)(d:h.objs.size<=a)(c:H a=none):Un fs ex H (upd H a o) h h' where
 keep:=λb u q _ _ _=>k b u q
 slot:=λb u q _ _ _=>⟨u.slots,k b u q⟩
 free:=λb u q n _=>by rw[qg (Yi (yj (yM q) d))];show n
 there:=λb u q _=>⟨u,k b u q⟩
 tups:=λb xs q=>by rw[qg (qN q c)];show q
 frzs:=λb u xs q=>by rw[qg (qN q c)];show q
 tbls:=λb ps q=>⟨#[],by rw[qg (qN q c),q];simp⟩
theorem Un.write(c:Mut (H x))(i:e=x\/H e=some (.own x))(k:∀ b u,b≠e->h.get? b=some u->h'.get? b=some u)(d:∃ u,h'.get? e=some u):Un fs ex H (upd H x o) h h':=by
 have g:∀ b,H b=none->b≠x:=λb n z=>by subst z;rw[n] at c;show c
 have hb:∀ b,H b=none->b≠e:=λb n z=>by
  subst z;rcases i with r | r
  .show g b n r
  .rw [n] at r;cases r
 have f:∀ b u,H b=some u->¬ Mut (some u)->b≠x:=λb u q nm z=>by subst z;rw[q] at c;show nm c
 show⟨λb u q n _ _=>k b u (hb b n) q,λb u q n _ _=>⟨u.slots,k b u (hb b n) q⟩,λb u q n _=>by rw[qg (g b n)];show n,λb u q _=>?_,
  λb xs q=>by rw[qg (f b _ q λz=>z)];show q,λb u xs q=>by rw[qg (f b _ q λz=>z)];show q,λb ps q=>⟨#[],by rw[qg (f b _ q λz=>z),q];simp⟩⟩
 by_cases a:b=e
 .subst a;show d
 .show⟨u,k b u a q⟩
end
def trk(h:Heap)(H:Hp):LX:=(List.range h.objs.size).filter λa=>(H a).isSome
def qe4(h:Heap)(H:Hp):Heap:=PySem.W.hideAll h (trk h H)
theorem hidT_size(h:Heap)(H:Hp):(qe4 h H).objs.size=h.objs.size:=PySem.W.hideAll_size _ _
theorem hidT_get{o:Obj}(e:h.get? b=some o)(n:H b=none):(qe4 h H).get? b=some o:=
 PySem.W.hideAll_get _ e λa=>by
  have q:(H b).isSome=true:=(yq.mp a).2;rw[n] at q;simp at q
theorem of_hidT{o:Obj}(e:(qe4 h H).get? b=some o):h.get? b=some o/\H b=none:=by
 have a:h.get? b=some o:=PySem.W.of_hideAll (trk h H) e;show⟨a,?_⟩
 cases q:H b with
 | none=>rfl
 | some x =>
  have c:b∈trk h H:=yq.mpr ⟨xk.mpr (yM a),by simp[q]⟩;have z:(qe4 h H).get? b=none:=PySem.W.hideAll_none (trk h H) c;rw[z] at e;cases e
def allNews(g h:Heap)(L:Addr):List (Addr×Obj):=(List.range h.objs.size).filterMap λa=>if a=L\/(g.get? a).isSome=true then none else(h.get? a).map λo=>(a,o)
def rest(g h:Heap)(L d:Addr):List (Addr×Obj):=(allNews g h L).filter λp=>decide (p.1≠d)
structure Mod(K:yg)(mg:Str->Option Value)(base:Heap):Prop where
 kin:K.In base
 glob:base.Ns mainGlobals mg
 blt:∃ mb,base.Ns builtinsNs mb/\∀ x:Str,x≠"__name__"->mb x=bootBuiltins x
 nolimit:base.NoLimit
structure Cx where
 prog:Program
 w:World
 K:yg
 mg:Str->Option Value
 base:Heap
 A:Around
 N:LS
 s₀:Shared
 H₀:Hp
 env:Env
 outer:List Env
 stack:List Env
 ex:LX
 fn:Str->Bool
 calm:Bool
 pn:List (Addr×Obj)
 xe:Value->Shared->Prop
def frs(l:List Env):LX:=l.filterMap (·.frame)
abbrev Cx.fs(X:Cx):LX:=frs X.outer
def Vis(sc:Scope)(x:Str):Prop:=sc.names.lookup x=some .local\/sc.names.lookup x=some .cell\/sc.names.lookup x=some .free
def Loc(sc:Scope)(x:Str):Prop:=sc.names.lookup x=some .local\/sc.names.lookup x=some .cell
def Look(env:Env)(h:Heap)(m:Str->Option Value)(x:Str)(u:Value):Prop:=
 (env.kindOf x=some .local/\m x=some u)\/((env.kindOf x=some .cell\/env.kindOf x=some .free)/\∃ c,env.cells.lookup x=some c/\h.IsCell c (some u))
structure Cx.Ok(X:Cx):Prop where
 mod:Mod X.K X.mg X.base
 kind:X.env.scope.kind=.function
 glob:X.env.globals=mainGlobals
 blt:X.env.builtins=builtinsNs
 above:X.s₀.heap.objs.size<=X.env.locals
 inj:∀ x y c,X.env.cells.lookup x=some c->X.env.cells.lookup y=some c->x=y
 has:∀ x,(X.env.kindOf x=some .cell\/X.env.kindOf x=some .free)->∃ c,X.env.cells.lookup x=some c
 cab:∀ x c,X.fn x=true->X.env.cells.lookup x=some c->X.s₀.heap.objs.size<=c
 hd:X.calm=true->X.A.handled=none
 frames:X.A.frames=some X.stack
 stk:X.stack=X.outer\/(X.stack=X.env::X.outer/\X.env.frame=some X.env.locals)
 exf:∀ b∈X.ex,b≠X.env.locals/\∀ x c,X.env.cells.lookup x=some c->c≠b
 bs:∀ b o,X.base.get? b=some o->X.s₀.heap.get? b=some o/\X.H₀ b=none
 bsz:X.base.objs.size<=X.s₀.heap.objs.size
 noex:∀ b o,X.base.get? b=some o->b∉X.ex
 exfs:∀ b∈X.ex,b∉X.fs
 funs:X.s₀.heap.FunFrames X.base X.outer
 frf:∀ b∈X.fs,X.H₀ b=none
structure Inv(X:Cx)(pins:List (Addr×Obj))(σ:List (Option V))(H:Hp)(s:Shared):Prop where
 ok:X.Ok
 os:s.os=X.s₀.os
 bare:AllBare s.gens
 base:Un X.fs X.ex X.H₀ H X.s₀.heap s.heap
 loc:∃ m,s.heap.Ns X.env.locals m/\∀(i:Nat) (x:Str) (v:V),X.N[i]?=some x->σ[i]?=some (some v)->Vis X.env.scope x->∃ u,RelV v u/\Look X.env s.heap m x u
 cell:∀ x c,X.env.cells.lookup x=some c->∃ v,s.heap.IsCell c v
 free:H X.env.locals=none
 freeC:∀ x c,X.env.cells.lookup x=some c->H c=none
 pin:∀ p∈X.pn++pins,s.heap.get? p.1=some p.2/\H p.1=none/\p.1≠X.env.locals/\p.1∉X.fs/\∀ v,p.2.data≠.cell v
 hok:HOk X.prog X.w H s.heap
 len:σ.length=X.N.length
section
variable{X:Cx}{pins:List (Addr×Obj)}{σ:List (Option V)}{H H':Hp}{s:Shared}{h':Heap}
theorem Cx.Ok.nofr(ok:X.Ok){o:Obj}(e:X.base.get? b=some o):b∉X.fs:=λhb=>by
 have:=(ok.funs.mem hb).1;rw[e] at this;cases this
theorem Inv.bs(I:Inv X pins σ H s):∀ b o,X.base.get? b=some o->s.heap.get? b=some o/\H b=none:=λb o e =>
 ⟨I.base.keep b o (I.ok.bs b o e).1 (I.ok.bs b o e).2 (I.ok.nofr e) (I.ok.noex b o e),I.base.free b o (I.ok.bs b o e).1 (I.ok.bs b o e).2 (I.ok.noex b o e)⟩
theorem Inv.bk(I:Inv X pins σ H s):∀ b o,X.base.get? b=some o->s.heap.get? b=some o:=λb o e=>(I.bs b o e).1
theorem Inv.mod(I:Inv X pins σ H s):Mod X.K X.mg X.base:=I.ok.mod
theorem Inv.kIn(I:Inv X pins σ H s):X.K.In s.heap:=I.ok.mod.kin.keeps I.bk
theorem Inv.lt(I:Inv X pins σ H s):X.env.locals<s.heap.objs.size:=let ⟨_,hn,_⟩:=I.loc;hn.lt
theorem Inv.sz(I:Inv X pins σ H s):X.s₀.heap.objs.size<=s.heap.objs.size:=yi I.ok.above (yS I.lt)
theorem Inv.nofs(I:Inv X pins σ H s)(h:s.heap.objs.size<=a):a∉X.fs:=λhb=>by
 obtain⟨_,o,b,_⟩:=I.ok.funs.mem hb;show absurd (yj (yM b) (yi I.sz h)) (Yz _)
theorem Inv.cne(I:Inv X pins σ H s):∀ x c,X.env.cells.lookup x=some c->c≠X.env.locals:=λx c e z=>by
 obtain⟨v,o,f,d⟩:=I.cell x c e;obtain⟨m,⟨g,es,ep,b,a,_⟩,_⟩:=I.loc;rw[z,b] at f;cases f;rw[a] at d;cases d
theorem Inv.funs(I:Inv X pins σ H s):s.heap.FunFrames X.base X.outer:=by
 have all:∀(l:List Env),(∀ b∈frs l,b∈X.fs)->X.s₀.heap.FunFrames X.base l->s.heap.FunFrames X.base l:=by
  intro l
  induction l with
  | nil=>intro _ _;trivial
  | cons env r ih =>
   intro d hl;obtain⟨g,⟨L,o,c,h,i,f⟩,j⟩:=hl;have a:L∈X.fs:=d L (by unfold frs;rw[XB,c];show yL);obtain⟨m,e⟩:=I.base.slot L o i (I.ok.frf L a) a λz=>I.ok.exfs L z a;show⟨g,⟨L,_,c,h,e,f⟩,ih (λb hb=>d b (by unfold frs;rw[XB,c];show yE _ hb)) j⟩
 show all X.outer (λ_ hb=>hb) I.ok.funs
theorem Inv.stack(I:Inv X pins σ H s):s.heap.FunFrames X.base X.stack:=by
 rcases I.ok.stk with e | ⟨e,hf⟩
 .rw [e];show I.funs
 .rw [e];obtain⟨m,a,_⟩:=I.loc;show .cons (by rw[I.ok.kind];decide) hf a ?_ I.funs;show Heap.get?_none_of_le (yi I.ok.bsz I.ok.above)
theorem Inv.stkSub(I:Inv X pins σ H s):∀ b∈frs X.stack,b∈X.env.locals::X.fs:=λb hb=>by
 rcases I.ok.stk with e | ⟨e,hf⟩
 .rw [e] at hb;show yE _ hb
 .rw [e] at hb;unfold frs at hb;rw[XB,hf] at hb;show hb
theorem Inv.stkFree(I:Inv X pins σ H s):∀ b∈frs X.stack,H b=none:=λb hb=>by
 rcases yv.mp (I.stkSub b hb) with e | hb
 .rw [e];show I.free
 .obtain⟨_,o,a,_⟩:=I.ok.funs.mem hb;show I.base.free b o a (I.ok.frf b hb) λz=>I.ok.exfs b z hb
theorem Inv.step(I:Inv X pins σ H s)
  (f:∀ b∈ch,(b∈X.ex\/X.s₀.heap.objs.size<=b)/\b≠X.env.locals/\(∀ x c,X.env.cells.lookup x=some c->c≠b)/\∀ p∈X.pn++pins,p.1≠b)
  (keep:∀ b o,b≠X.env.locals->b∉X.fs->b∉ch->s.heap.get? b=some o->H b=none->h'.get? b=some o)
  (t:∀ b o,b≠X.env.locals->b∈X.fs->b∉ch->s.heap.get? b=some o->H b=none->∃ M,h'.get? b=some { o with slots:=M }) (free:∀ b o,b∉ch->s.heap.get? b=some o->H b=none->H' b=none)
  (y:∀ b o,b∉ch->s.heap.get? b=some o->∃ F,h'.get? b=some F)
  (J:∀ b xs,H b=some (.tup xs)->H' b=some (.tup xs)) (C:∀ b o u,H b=some (.frz o u)->H' b=some (.frz o u)) (G:∀ b ps,H b=some (.tbl ps)->∃ D,H' b=some (.tbl (ps++D)))
  (ns:∀ m,s.heap.Ns X.env.locals m->h'.Ns X.env.locals m) (L:HOk X.prog X.w H' h') (S:AllBare g') :
  Inv X pins σ H' { s with heap:=h',gens:=g',drawn:=d',toks:=t' }:=by
 have E:∀ b o,X.s₀.heap.get? b=some o->b≠X.env.locals:=λb o e=>Yi (yj (yM e) I.ok.above)
 have j:∀ b o,X.s₀.heap.get? b=some o->b∉X.ex->b∉ch:=λb o e a hb=>by
  rcases(f b hb).1 with z | z
  .show a z
  .show absurd (yj (yM e) z) (Yz _)
 have cellK:∀ x c,X.env.cells.lookup x=some c->∀ v,s.heap.IsCell c v->h'.IsCell c v:=λx c e v ⟨o,A,K⟩=>by
  have g:c∉ch:=λz=>(f c z).2.2.1 x c e rfl;by_cases hc:c∈X.fs
  .obtain⟨M,q⟩:=t c o (I.cne x c e) hc g A (I.freeC x c e);show⟨_,q,K⟩
  .show⟨o,keep c o (I.cne x c e) hc g A (I.freeC x c e),K⟩
 show⟨I.ok,I.os,S,⟨λb o e n hb a=>?_,λb o e n hb a=>?_,λb o e n a=>?_,λb o e a=>?_,λb xs e=>J b xs (I.base.tups b xs e),λb o xs e=>C b o xs (I.base.frzs b o xs e),λb ps e=>?_⟩,?_,λx c e=>?_,?_,λx c e=>?_,λp O=>?_,L,I.len⟩
 .show keep b o (E b o e) hb (j b o e a) (I.base.keep b o e n hb a) (I.base.free b o e n a)
 .obtain⟨M,h⟩:=I.base.slot b o e n hb a;obtain⟨N,B⟩:=t b _ (E b o e) hb (j b o e a) h (I.base.free b o e n a);show⟨N,B⟩
 .obtain⟨F,h⟩:=I.base.there b o e a;show free b F (j b o e a) h (I.base.free b o e n a)
 .obtain⟨F,h⟩:=I.base.there b o e a;show y b F (j b o e a) h
 .obtain⟨U,h⟩:=I.base.tbls b ps e;obtain⟨W,B⟩:=G b _ h;show⟨U++W,by rw[B,Array.append_assoc]⟩
 .obtain⟨m,T,hl⟩:=I.loc;show⟨m,ns m T,λi x v h B R=>?_⟩;obtain⟨u,r,l⟩:=hl i x v h B R;show⟨u,r,?_⟩;rcases l with l | ⟨k,c,e,z⟩
  .show .inl l
  .show .inr ⟨k,c,e,cellK x c e _ z⟩
 .obtain⟨v,z⟩:=I.cell x c e;show⟨v,cellK x c e v z⟩
 .obtain⟨m,⟨o,_,_,A,_⟩,_⟩:=I.loc;show free _ o (λz=>(f _ z).2.1 rfl) A I.free
 .obtain⟨v,o,A,K⟩:=I.cell x c e;show free c o (λz=>(f c z).2.2.1 x c e rfl) A (I.freeC x c e)
 .obtain⟨e,n,ne,P,d⟩:=I.pin p O;have g:p.1∉ch:=λz=>(f p.1 z).2.2.2 p O rfl;show⟨keep p.1 p.2 ne P g e n,free p.1 p.2 g e n,ne,P,d⟩
theorem Inv.un(I:Inv X pins σ H s)(u:Un X.fs [] H H' s.heap h')(d:HOk X.prog X.w H' h'):Inv X pins σ H' { s with heap:=h',toks:=t' }:=by
 obtain⟨m,⟨o,es,ep,f,r⟩,_⟩:=id I.loc;obtain⟨l,g⟩:=u.any f I.free (by simp)
 show I.step (g':=s.gens) (d':=s.drawn) (ch:=[]) (λ_ z=>nomatch z) (λb o _ hb _ e n=>u.keep b o e n hb (by simp)) (λb o _ hb _ e n=>u.slot b o e n hb (by simp)) (λb o _ e n=>u.free b o e n (by simp)) (λb o _ e=>u.there b o e (by simp)) u.tups u.frzs u.tbls (λi h=>by
  obtain⟨j,es',c,a,r'⟩:=h;rw[f] at a;cases a;show⟨_,es',c,g,r'⟩) d I.bare
theorem Inv.call(I:Inv X pins σ H s)(u:Un (frs X.stack) ch H H' s.heap h')(h:HOk X.prog X.w H' h')(j:AllBare g')
  (a:∀ b∈ch,(b∈X.ex\/X.s₀.heap.objs.size<=b)/\b≠X.env.locals/\(∀ x c,X.env.cells.lookup x=some c->c≠b)/\∀ p∈X.pn++pins,p.1≠b) :
  Inv X pins σ H' { s with heap:=h',gens:=g',drawn:=d',toks:=t' }:=by
 obtain⟨m,⟨o,es,ep,i,r⟩,_⟩:=id I.loc;obtain⟨v,g⟩:=u.any i I.free λz=>(a _ z).2.1 rfl
 show I.step (ch:=ch) a (λb o g hb hc e n=>u.keep b o e n (λz=>(yv.mp (I.stkSub b z)).elim g hb) hc) (λb o _ _ hc e n=>u.any e n hc) (λb o hc e n=>u.free b o e n hc) (λb o hc e=>u.there b o e hc) u.tups u.frzs u.tbls (λq l=>by
  obtain⟨t,es',f,d,r'⟩:=l;rw[i] at d;cases d;show⟨_,es',f,g,r'⟩) h j
theorem Inv.turned(I:Inv X pins σ H s)(k:∀ b o,b≠it->s.heap.get? b=some o->h'.get? b=some o)(i:H it=none)(d:it≠X.env.locals)
  (h1:it∈X.ex\/X.s₀.heap.objs.size<=it) (f:∀ x c,X.env.cells.lookup x=some c->c≠it) (g:∀ p∈X.pn++pins,p.1≠it):Inv X pins σ H { s with heap:=h',toks:=t' }:=by
 have a:∀ b u,H b=some u->b≠it:=λb u e z=>by rw[z,i] at e;cases e
 show I.step (g':=s.gens) (d':=s.drawn) (ch:=[it]) (λb hb=>?_) (λb o _ _ hc e _=>k b o (λz=>hc (by simp[z])) e) (λb o _ _ hc e _=>⟨o.slots,k b o (λz=>hc (by simp[z])) e⟩) (λ_ _ _ _ n=>n)
  (λb o hc e=>⟨o,k b o (λz=>hc (by simp[z])) e⟩) (λ_ _ e=>e) (λ_ _ _ e=>e) (λb ps e=>⟨#[],by rw[e];simp⟩) (λm h=>?_) (λb u e=>?_) I.bare
 .have e:b=it:=by simpa using hb
  subst e;show⟨h1,d,f,g⟩
 .obtain⟨o,es,ep,j,r⟩:=h;show⟨o,es,ep,k _ o (Yh d) j,r⟩
 .show(I.hok b u e).stay (λc v hc q=>k c v ?_ q) (λ_ q=>q) λ_ _ q=>q;rcases hc with z | z
  .rw [z];show a b u e
  .show a c _ z
theorem Inv.tok(I:Inv X pins σ H s)(t:Nat):Inv X pins σ H { s with toks:=t }:=I.un (h':=s.heap) (t':=t) Un.refl I.hok
theorem Inv.kept(I:Inv X pins σ H s)(k:∀ b u,s.heap.get? b=some u->h'.get? b=some u):Inv X pins σ H { s with heap:=h',toks:=t' }:=I.un (Un.kept k) (I.hok.kept k)
theorem Inv.laid(I:Inv X pins σ H s)(k:∀ b u,s.heap.get? b=some u->h'.get? b=some u)(c:s.heap.objs.size<=a)(new:ObjOk X.prog X.w (upd H a o) h' a o) :
  Inv X pins σ (upd H a o) { s with heap:=h',toks:=t' }:=I.un (Un.laid k c (I.hok.fresh c)) (I.hok.laid k c new)
theorem Inv.write{x e:Addr}(I:Inv X pins σ H s)(d:Mut (H x))(c:e=x\/H e=some (.own x))(k:∀ b u,b≠e->s.heap.get? b=some u->h'.get? b=some u)(a:∃ u,h'.get? e=some u)
  (new:ObjOk X.prog X.w (upd H x o) h' x o):Inv X pins σ (upd H x o) { s with heap:=h',toks:=t' }:=I.un (Un.write d c k a) (I.hok.write d c k a new)
theorem Inv.weak{a:List (Option V)}(I:Inv X pins σ H s)(hl:a.length=σ.length)(w:∀(i:Nat) v,a[i]?=some (some v)->σ[i]?=some (some v)):Inv X pins a H s:=
 ⟨I.ok,I.os,I.bare,I.base,let ⟨m,hn,hl'⟩:=I.loc;⟨m,hn,λi x v b c d=>hl' i x v b (w i v c) d⟩,I.cell,I.free,I.freeC,I.pin,I.hok,hl.trans I.len⟩
theorem Inv.pins_of{pins':List (Addr×Obj)}(I:Inv X pins σ H s)(h:∀ p∈pins',s.heap.get? p.1=some p.2/\H p.1=none/\p.1≠X.env.locals/\p.1∉X.fs/\∀ v,p.2.data≠.cell v):Inv X pins' σ H s:=
 ⟨I.ok,I.os,I.bare,I.base,I.loc,I.cell,I.free,I.freeC,λp a=>(yw.mp a).elim (λz=>I.pin p (yP _ z)) (h p),I.hok,I.len⟩
theorem qch(e:N.Nodup)(a:N[i]?=some x)(b:N[j]?=some x):i=j:=by
 obtain⟨h1,c⟩:=yc.mp a;obtain⟨f,d⟩:=yc.mp b;show(List.getElem_inj e).mp (c.trans d.symm)
theorem qcB{Q:Unit->Shared->Prop}(I:Inv X pins σ H s)(hN:X.N.Nodup)(O:X.N[i]?=some x)(t:Loc X.env.scope x)(r:RelV v u)
  (h:∀ s',Inv X pins (σ.set i (some v)) H s'->(∃ a,Heap.SameBut a s.heap s'.heap/\(a=X.env.locals\/X.env.cells.lookup x=some a))->Q () s') (hf:X.fn x=true\/X.env.scope.names.lookup x=some .local:=by first | show .inl rfl | show .inr rfl | assumption):wpAny M A (storeName X.env x u) Q E s:=by
 obtain⟨m,W,hl⟩:=id I.loc;have L:(X.env.scope.kind==.class||(X.env.scope.kind==.module&&X.env.locals != X.env.globals))=false:=by rw[I.ok.kind];rfl
 have D:i<σ.length:=by rw[I.len];show(yc.mp O).1
 have cne:=I.cne
 have l:∀{a:Addr} {h':Heap},(∃ o,s.heap.get? a=some o/\H a=none)->Heap.SameBut a s.heap h'->HOk X.prog X.w H h':=λ{a h'} ha f b ob e=>by
  obtain⟨_,_,B⟩:=ha;show(I.hok b ob e).stay (λc T hc q=>(f.2 c ?_).trans q) (λ_ q=>q) λ_ _ q=>q;rintro rfl;rcases hc with rfl | hc
  .rw [B] at e;cases e
  .rw [B] at hc;cases hc
 rcases t with hk | hk
 .show wpAny_storeName_local hk W (λh' Y f=>?_) L;obtain⟨oL,_,_,Z,_⟩:=id W;show h _ ⟨I.ok,I.os,I.bare,⟨λb o e n hb t=>?_,λb o e n hb t=>?_,I.base.free,λb o e t=>?_,I.base.tups,I.base.frzs,I.base.tbls⟩,⟨_,Y,λj y v' g C U=>?_⟩,λy c e=>?_,I.free,I.freeC,λp hp=>?_,l ⟨oL,Z,I.free⟩ f,by simpa using I.len⟩ ⟨_,f,.inl rfl⟩
  .show(f.2 b (Yi (yj (yM e) I.ok.above))).trans (I.base.keep b o e n hb t)
  .obtain⟨sl,g⟩:=I.base.slot b o e n hb t;show⟨sl,(f.2 b (Yi (yj (yM e) I.ok.above))).trans g⟩
  .obtain⟨o',g⟩:=I.base.there b o e t;show⟨o',(f.2 b (Yi (yj (yM e) I.ok.above))).trans g⟩
  .by_cases G:j=i
   .subst G;rw[O] at g;cases g;rw[Xg D] at C;cases C;show⟨u,r,.inl ⟨hk,by simp⟩⟩
   .rw [xw (Yh G)] at C;obtain⟨u',r',q⟩:=hl j y v' g C U;show⟨u',r',?_⟩;rcases q with⟨k,e⟩ | ⟨k,c,e,z⟩
    .show .inl ⟨k,?_⟩;have:y≠x:=λe=>G (qch hN g (e ▸ O));simp[this,e]
    .show .inr ⟨k,c,e,z.sameBut f (cne y c e)⟩
  .obtain⟨T,z⟩:=I.cell y c e;show⟨T,z.sameBut f (cne y c e)⟩
  .obtain⟨e,n,ne,nf,d⟩:=I.pin p hp;show⟨(f.2 p.1 ne).trans e,n,ne,nf,d⟩
 .have F:X.fn x=true:=by
   rcases hf with z | z
   .show z
   .rw [z] at hk;cases hk
  obtain⟨c,hc⟩:=I.ok.has x (.inl hk);obtain⟨T,z⟩:=I.cell x c hc;show wpAny_storeName_cell I.ok.kind hk hc z (λh' J f=>?_);obtain⟨oc,P,R⟩:=id z;show h { s with heap:=h' } ⟨I.ok,I.os,I.bare,⟨λb o e n hb t=>?_,λb o e n hb t=>?_,I.base.free,λb o e t=>?_,I.base.tups,I.base.frzs,I.base.tbls⟩,⟨m,W.sameBut f (Yh (cne x c hc)),λj y v' g C U=>?_⟩,λy S e=>?_,I.free,I.freeC,λp hp=>?_,l ⟨oc,P,I.freeC x c hc⟩ f,by simpa using I.len⟩ ⟨c,f,.inr hc⟩
  .show(f.2 b (Yi (yj (yM e) (I.ok.cab x c F hc)))).trans (I.base.keep b o e n hb t)
  .obtain⟨sl,g⟩:=I.base.slot b o e n hb t;show⟨sl,(f.2 b (Yi (yj (yM e) (I.ok.cab x c F hc)))).trans g⟩
  .obtain⟨o',g⟩:=I.base.there b o e t;show⟨o',(f.2 b (Yi (yj (yM e) (I.ok.cab x c F hc)))).trans g⟩
  .by_cases G:j=i
   .subst G;rw[O] at g;cases g;rw[Xg D] at C;cases C;show⟨u,r,.inr ⟨.inl hk,c,hc,J⟩⟩
   .rw [xw (Yh G)] at C;obtain⟨u',r',q⟩:=hl j y v' g C U;show⟨u',r',?_⟩;rcases q with q | ⟨k,S,e,z'⟩
    .show .inl q
    .show .inr ⟨k,S,e,z'.sameBut f ?_⟩;rintro rfl;show G (qch hN g (I.ok.inj _ _ _ e hc ▸ O))
  .by_cases K:S=c
   .subst K;show⟨_,J⟩
   .obtain⟨w2,z2⟩:=I.cell y S e;show⟨w2,z2.sameBut f K⟩
  .obtain⟨e,n,ne,nf,d⟩:=I.pin p hp;show⟨(f.2 p.1 ?_).trans e,n,ne,nf,d⟩;intro q;rw[q,P] at e;have q':oc=p.2:=yn e;show d T (by rw[<- q'];show R)
theorem qao{Q:Unit->Shared->Prop}(I:Inv X pins σ H s)(b:X.N.Nodup)(d:X.N[i]?=some x)(e:Loc X.env.scope x)(r:RelV v u)
  (h:∀ s',Inv X pins (σ.set i (some v)) H s'->Q () s') (c:X.fn x=true\/X.env.scope.names.lookup x=some .local:=by first | show .inl rfl | show .inr rfl | assumption):wpAny M A (storeName X.env x u) Q E s:=
 qcB I b d e r (λs' a _=>h s' a) c
theorem Inv.call'(I:Inv X pins σ H s)(g:s'.os=s.os)(u:Un (frs X.stack) ch H H' s.heap s'.heap)(d:HOk X.prog X.w H' s'.heap)(f:AllBare s'.gens)
  (a:∀ b∈ch,(b∈X.ex\/X.s₀.heap.objs.size<=b)/\b≠X.env.locals/\(∀ x c,X.env.cells.lookup x=some c->c≠b)/\∀ p∈X.pn++pins,p.1≠b):Inv X pins σ H' s':=by
 obtain⟨h',g',d',t',h⟩:=s';have e:h=s.os:=g;subst e;show I.call (g':=g') (t':=t') (d':=d') u d f a
end
abbrev XK:=Value->Option Addr->Hp->Prop
abbrev St:=List (Option V)
abbrev VK:=V->Hp->Prop
abbrev TE:=St->Hp->VK->Prop
abbrev TT:=St->Hp->(Bool->Hp->Prop)->Prop
abbrev TA:=St->Hp->(List V->Hp->Prop)->Prop
structure Ends where
 nx:St->Hp->Prop
 rt:VK
 bk:St->Hp->Prop:=λ_ _=>False
 ct:St->Hp->Prop:=λ_ _=>False
abbrev TS:=Ends->St->Hp->Prop
def EP(X:Cx)(pins:List (Addr×Obj))(σ:St)(Q:VK)(u:Value)(s':Shared):Prop:=∃ v H',Inv X pins σ H' s'/\RelV v u/\Q v H'
def TP(X:Cx)(pins:List (Addr×Obj))(σ:St)(Q:Bool->Hp->Prop)(b:Bool)(s':Shared):Prop:=∃ H',Inv X pins σ H' s'/\Q b H'
def AP(X:Cx)(pins:List (Addr×Obj))(σ:St)(Q:List V->Hp->Prop)(us:List Value)(s':Shared):Prop:=∃ vs H',Inv X pins σ H' s'/\Vals vs us/\Q vs H'
def SP(X:Cx)(pins:List (Addr×Obj))(D:Ends)(f:Flow)(s':Shared):Prop:=
 match f with
 | .next=>∃ a H',Inv X pins a H' s'/\D.nx a H'
 | .brk=>∃ a H',Inv X pins a H' s'/\D.bk a H'
 | .cont=>∃ a H',Inv X pins a H' s'/\D.ct a H'
 | .ret u=>∃ v a H',Inv X pins a H' s'/\RelV v u/\D.rt v H'
def PE(X:Cx)(e:Expr)(t:TE):Prop:=
 ∀(pins:List (Addr×Obj)) (s:Shared) (σ:St) (H:Hp) (Q:VK),Inv X pins σ H s->t σ H Q->wpAny (model X.prog X.w) X.A (eval e X.env) (EP X pins σ Q) X.xe s
def PT(X:Cx)(e:Expr)(t:TT):Prop:=
 ∀(pins:List (Addr×Obj)) (s:Shared) (σ:St) (H:Hp) (Q:Bool->Hp->Prop),Inv X pins σ H s->t σ H Q->wpAny (model X.prog X.w) X.A (isTrue e X.env (eval e X.env)) (TP X pins σ Q) X.xe s
def PW(X:Cx)(e:Expr)(t:TT):Prop:=
 ∀(a:Sem Value) (pins:List (Addr×Obj)) (s:Shared) (σ:St) (H:Hp) (Q:Bool->Hp->Prop),Inv X pins σ H s->t σ H Q->wpAny (model X.prog X.w) X.A (isTrue e X.env a) (TP X pins σ Q) X.xe s
theorem PW.pt{t:TT}(h:PW X e t):PT X e t:=h _
def PA(X:Cx)(es:List Expr)(t:TA):Prop:=
 ∀(pos:Pos) (pins:List (Addr×Obj)) (s:Shared) (σ:St) (H:Hp) (Q:List V->Hp->Prop),Inv X pins σ H s->t σ H Q->wpAny (model X.prog X.w) X.A (spliced (backTo pos (starEach es X.env))) (AP X pins σ Q) X.xe s
def PS(X:Cx)(st:Stmt)(t:TS):Prop:=
 ∀(pins:List (Addr×Obj)) (s:Shared) (σ:St) (H:Hp) (D:Ends),Inv X pins σ H s->t D σ H->wpAny (model X.prog X.w) X.A (exec st X.env) (SP X pins D) X.xe s
def PSs(X:Cx)(st:List Stmt)(t:TS):Prop:=
 ∀(pins:List (Addr×Obj)) (s:Shared) (σ:St) (H:Hp) (D:Ends),Inv X pins σ H s->t D σ H->wpAny (model X.prog X.w) X.A (execs st X.env) (SP X pins D) X.xe s
theorem thn{t:Sem α}{Q b:α->Shared->Prop}(h:wpAny M A t Q E s)(c:∀ a s,Q a s->b a s):wpAny M A t b E s:=YC h c λ_ _ x=>x
section
variable{X:Cx}
def qfG(i:Nat):TE:=fun σ H Q=>∃ v,σ[i]?=some (some v)/\Q v H
def tC(v:V):TE:=λ_ H Q=>Q v H
theorem pe_var(g:X.N[i]?=some x)(hv:Vis X.env.scope x)(f:(x==("__debug__":Str))=false:=by decide)(d:(x==("__classdict__":Str))=false:=by decide):PE X (.Name x pos) (qfG i):=by
 intro pins s σ H Q I h;obtain⟨v,e,h⟩:=h;obtain⟨m,n,hl⟩:=I.loc;obtain⟨u,r,l⟩:=hl i x v g e hv;have b:EP X pins σ Q u s:=⟨v,H,I,r,h⟩;rcases l with⟨hk,j⟩ | ⟨hk,c,hc,a⟩
 .show wpAny_Name (wpAny_loadName_local I.ok.kind hk n j b) f
 .rcases hk with hk | hk
  .show wpAny_Name (wpAny_loadName_cell I.ok.kind hk hc a b) f
  .show wpAny_Name (wpAny_loadName_free I.ok.kind hk hc a b d) f
theorem qf{i j pos}:PE X (.Constant (.int i) j pos) (tC (.int i)):=λ_ _ _ H _ I h=>wpAny_Constant_int ⟨.int i,H,I.tok _,⟨_,rfl⟩,h⟩
theorem jd{b j pos}:PE X (.Constant (.bool b) j pos) (tC (.bl b)):=λ_ _ _ H _ I h=>Constant_bool ⟨.bl b,H,I,rfl,h⟩
theorem j6{j pos}:PE X (.Constant .none j pos) (tC .non):=λ_ _ _ H _ I h=>Constant_none ⟨.non,H,I,rfl,h⟩
theorem jJ{x j pos}:PE X (.Constant (.str x) j pos) (tC (.str x)):=λ_ _ _ H _ I h=>Calls.Constant_str ⟨.str x,H,I.tok _,⟨_,rfl⟩,h⟩
def Gl(X:Cx)(x:Str):Prop:=X.env.kindOf x=some .globalImplicit
theorem zQ{Q:Value->Shared->Prop}(I:Inv X pins σ H s)(b:Gl X x)(c:X.mg x=some u)(h:Q u s)
  (a:(x==("__debug__":Str))=false:=by decide):wpAny (model X.prog X.w) X.A (eval (.Name x pos) X.env) Q E s:=
 Calls.Name_function_global I.ok.kind b (Calls.loadGlobal_global (by rw[I.ok.glob];show I.mod.glob.keeps I.bk) c h) a
theorem qbF{Q:Value->Shared->Prop}(I:Inv X pins σ H s)(c:Gl X x)(d:X.mg x=none)(hv:bootBuiltins x=some u)(h:Q u s)
  (e:x≠"__name__":=by decide) (b:(x==("__debug__":Str))=false:=by decide):wpAny (model X.prog X.w) X.A (eval (.Name x pos) X.env) Q E s:=by
 obtain⟨f,h1,a⟩:=I.mod.blt;show Calls.Name_function_global I.ok.kind c (Calls.loadGlobal_builtin (by rw[I.ok.glob];show I.mod.glob.keeps I.bk) d (by rw[I.ok.blt];show h1.keeps I.bk) ((a x e).trans hv) h) b
theorem qci(b:Gl X x)(c:X.mg x=some u)(r:RelV v u)(a:(x==("__debug__":Str))=false:=by decide):PE X (.Name x pos) (tC v):=
 λ_ _ _ H _ I h=>zQ I b c ⟨v,H,I,r,h⟩ a
theorem jK(b:Gl X x)(c:X.mg x=none)(hv:bootBuiltins x=some u)(r:RelV v u)(d:x≠"__name__":=by decide)(a:(x==("__debug__":Str))=false:=by decide):PE X (.Name x pos) (tC v):=
 λ_ _ _ H _ I h=>qbF I b c hv ⟨v,H,I,r,h⟩ d a
variable{a b:Expr}{ta tb:TE}{pos:Pos}
def tB(t:TE):TT:=fun σ H Q=>t σ H λx a=>∃ c,x=.bl c/\Q c a
theorem qT(h:PE X e t)(f:∀ a,isTrue e X.env a=(do let v <- a;standAt e.pos;holding [v] (truthy v)):=by intro _;rfl):PT X e (tB t):=by
 intro pins s σ H Q I hw;show isTrue_plain (thn (h pins s σ H _ I hw) λv j ⟨x,b,c,i,g⟩=>?_) (f _);obtain⟨d,rfl,q⟩:=g;cases i;show xV ⟨b,c,q⟩
variable{tA tB':TT}{rest:List Expr}
def qgB(t u:TT):TT:=fun σ H Q=>t σ H λc a=>if c=true then u σ a Q else Q false a
def tOr(t u:TT):TT:=fun σ H Q=>t σ H λc a=>if c=true then Q true a else u σ a Q
def qgP(t:TT):TT:=fun σ H Q=>t σ H λc a=>Q (!c) a
theorem qcj(b:PT X a tA):PW X (.BoolOp .And [a] pos) tA:=by
 intro f pins s σ H Q I h;show isTrue_and (thn (b pins s σ H Q I h) λc d e=>?_)
 cases c with
 | true=>show isTrue_and_nil e
 | false=>show e
theorem zk(b:PT X a tA):PW X (.BoolOp .Or [a] pos) tA:=by
 intro f pins s σ H Q I h;show isTrue_or (thn (b pins s σ H Q I h) λc d e=>?_)
 cases c with
 | false=>show isTrue_or_nil e
 | true=>show e
theorem qb5(g:PT X a tA)(hb:PW X (.BoolOp .And (b::rest) pos) tB'):PW X (.BoolOp .And (a::b::rest) pos) (qgB tA tB'):=by
 intro j pins s σ H Q I h;show isTrue_and (thn (g pins s σ H _ I h) λc i ⟨d,e,f⟩=>?_)
 cases c with
 | true=>show hb j pins i σ d Q e f
 | false=>show⟨d,e,f⟩
theorem zu(g:PT X a tA)(hb:PW X (.BoolOp .Or (b::rest) pos) tB'):PW X (.BoolOp .Or (a::b::rest) pos) (tOr tA tB'):=by
 intro j pins s σ H Q I h;show isTrue_or (thn (g pins s σ H _ I h) λc i ⟨d,e,f⟩=>?_)
 cases c with
 | true=>show⟨d,e,f⟩
 | false=>show hb j pins i σ d Q e f
theorem qU(d:PT X a tA):PT X (.UnaryOp .Not a pos) (qgP tA):=by
 intro pins s σ H Q I h;show isTrue_not (d pins s σ H (λc b=>Q (!c) b) I h)
def qfZ(ta tb:TE):TE:=fun σ H Q=>ta σ H λx a=>∃ c,x=.bl c/\if c=true then tb σ a Q else Q (.bl false) a
def tOrV(ta tb:TE):TE:=fun σ H Q=>ta σ H λx a=>∃ c,x=.bl c/\if c=true then Q (.bl true) a else tb σ a Q
def tNotV(ta:TE):TE:=fun σ H Q=>ta σ H λx a=>∃ c,x=.bl c/\Q (.bl (!c)) a
theorem qbf{op}(h:PE X a t):PE X (.BoolOp op [a] pos) t:=λpins s σ H Q I hw=>BoolOp_one (h pins s σ H Q I hw)
theorem qbg(g:PE X a ta)(hb:PE X (.BoolOp .And (b::rest) pos) tb):PE X (.BoolOp .And (a::b::rest) pos) (qfZ ta tb):=by
 intro pins s σ H Q I h;show BoolOp_and (thn (g pins s σ H _ I h) λv j ⟨x,e,f,i,d⟩=>?_);obtain⟨c,rfl,d⟩:=d;cases i;show xV ?_
 cases c with
 | true=>show hb pins j σ e Q f d
 | false=>show⟨.bl false,e,f,rfl,d⟩
def tIf(t:TT)(ta tb:TE):TE:=fun σ H Q=>t σ H λc a=>if c=true then ta σ a Q else tb σ a Q
theorem pe_ifExp(hc:PT X c tA)(j:PE X a ta)(hb:PE X b tb):PE X (.IfExp c a b pos) (tIf tA ta tb):=by
 intro pins s σ H Q I h;show wpAny_IfExp (thn (hc pins s σ H _ I h) λd i ⟨e,f,g⟩=>?_)
 cases d with
 | true=>show j pins i σ e Q f g
 | false=>show hb pins i σ e Q f g
end
def SqL(K:yg)(H:Hp)(a:Addr)(xs:List V):Prop:=
 Rd H a (.lst xs) \/
  ∃(o:Obj) (b:Array Value) (n:Nat),K.lookup a=some o/\o.cls=.type "list"/\o.dict=none/\o.data=.seq b n/\b.size<=sizeLine/\Vals xs b.toList
def SqT(K:yg)(H:Hp)(a:Addr)(xs:List V):Prop:=
 Rd H a (.tup xs) \/
  ∃(o:Obj) (b:Array Value) (n:Nat),K.lookup a=some o/\o.cls=.type "tuple"/\o.data=.seq b n/\b.size<=sizeLine/\Vals xs b.toList
def absV:Value->Option V
 | .none=>some .non
 | .bool b=>some (.bl b)
 | .int i _=>some (.int i)
 | .str x _=>some (.str x)
 | .bytes b _=>some (.byt b)
 | .float b _=>some (.flt b)
 | .ref a=>some (.ref a)
 | .type n=>some (.ty n)
 | _=>none
theorem RelV.abs{x:V}(r:RelV x u):absV u=some x:=by
 cases x with
 | non=>cases r;rfl
 | bl _=>cases r;rfl
 | int _=>obtain⟨t,rfl⟩:=r;rfl
 | str _=>obtain⟨t,rfl⟩:=r;rfl
 | byt _=>obtain⟨t,rfl⟩:=r;rfl
 | flt _=>obtain⟨t,rfl⟩:=r;rfl
 | ref _=>cases r;rfl
 | ty _=>cases r;rfl
theorem RelV.inj{x:V}(r:RelV x u)(q:RelV y u):x=y:=yn (r.abs.symm.trans q.abs)
theorem Vals.inj:∀{xs a:List V} {us:List Value},Vals xs us->Vals a us->xs=a
 | _,_,_,.nil,.nil=>rfl
 | _,_,_,.cons r t,.cons r' t'=>by rw[r.inj r',Vals.inj t t']
section
variable{X:Cx}{pins:List (Addr×Obj)}{σ:St}{H:Hp}{s:Shared}{a:Addr}{xs ys:List V}
theorem SqL.of{K:yg}(h:H a=some (.lst xs)):SqL K H a xs:=.inl (.inl h)
theorem SqT.of{K:yg}(h:H a=some (.tup xs)):SqT K H a xs:=.inl (.inl h)
theorem Inv.list(I:Inv X pins σ H s)(h:SqL X.K H a xs):∃ b:List Value,Vals xs b/\PlainL s.heap a b.toArray/\xs.length<=sizeLine:=by
 rcases h with h | ⟨o,b,n,hk,hc,hd,hs,hz,r⟩
 .obtain⟨z,b,n,r,e⟩:=h.ok I.hok;show⟨b,r,⟨_,n,e,rfl,rfl,rfl⟩,z⟩
 .show⟨b.toList,r,⟨o,n,I.kIn a o hk,hc,hd,by simpa using hs⟩,?_⟩;have e:=r.length;simp only[Y5] at e;lk
theorem Inv.tuple(I:Inv X pins σ H s)(h:SqT X.K H a xs):∃ b:List Value,Vals xs b/\IsTup s.heap a b.toArray/\xs.length<=sizeLine:=by
 rcases h with h | ⟨o,b,n,hk,hc,hs,hz,r⟩
 .obtain⟨z,b,r,p⟩:=h.ok I.hok;show⟨b,r,p,z⟩
 .show⟨b.toList,r,⟨o,I.kIn a o hk,hc,n,by simpa using hs⟩,?_⟩;have e:=r.length;simp only[Y5] at e;lk
theorem Inv.list_inj(I:Inv X pins σ H s)(h:SqL X.K H a xs)(h':SqL X.K H a ys):xs=ys:=by
 obtain⟨b,r,⟨o,n,e,_,_,d⟩,_⟩:=I.list h;obtain⟨its',r',⟨g,f,c,_,_,d'⟩,_⟩:=I.list h';rw[e] at c;cases c;rw[d] at d'
 injection d' with d1 _
 have:b=its':=by simpa using congrArg Array.toList d1
 subst this;show r.inj r'
theorem Inv.tuple_inj(I:Inv X pins σ H s)(h:SqT X.K H a xs)(h':SqT X.K H a ys):xs=ys:=by
 obtain⟨b,r,⟨o,e,_,n,d⟩,_⟩:=I.tuple h;obtain⟨its',r',⟨g,c,_,f,d'⟩,_⟩:=I.tuple h';rw[e] at c;cases c;rw[d] at d'
 injection d' with d1 _
 have:b=its':=by simpa using congrArg Array.toList d1
 subst this;show r.inj r'
end
abbrev Cx.wish(X:Cx)(E:Value->Shared->Prop):Cx:={ X with xe:=E }
abbrev Cx.nox(X:Cx):Cx:=X.wish λ_ _=>False
theorem Cx.Ok.wish(ok:X.Ok)(E:Value->Shared->Prop):(X.wish E).Ok:=
 ⟨ok.mod,ok.kind,ok.glob,ok.blt,ok.above,ok.inj,ok.has,ok.cab,ok.hd,ok.frames,ok.stk,ok.exf,ok.bs,ok.bsz,ok.noex,ok.exfs,ok.funs,ok.frf⟩
theorem Cx.Ok.unwish(ok:(X.wish E).Ok):X.Ok:=
 ⟨ok.mod,ok.kind,ok.glob,ok.blt,ok.above,ok.inj,ok.has,ok.cab,ok.hd,ok.frames,ok.stk,ok.exf,ok.bs,ok.bsz,ok.noex,ok.exfs,ok.funs,ok.frf⟩
section
variable{X:Cx}{pins:List (Addr×Obj)}{σ:St}{H:Hp}{s:Shared}{E:Value->Shared->Prop}
theorem Inv.wish(I:Inv X pins σ H s)(E:Value->Shared->Prop):Inv (X.wish E) pins σ H s:=⟨I.ok.wish E,I.os,I.bare,I.base,I.loc,I.cell,I.free,I.freeC,I.pin,I.hok,I.len⟩
theorem Inv.unwish(I:Inv (X.wish E) pins σ H s):Inv X pins σ H s:=⟨I.ok.unwish,I.os,I.bare,I.base,I.loc,I.cell,I.free,I.freeC,I.pin,I.hok,I.len⟩
theorem SP.unwish{f:Flow}(h:SP (X.wish E) pins D f s'):SP X pins D f s':=by
 cases f with
 | next=>obtain⟨a,H',I,q⟩:=h;show⟨a,H',I.unwish,q⟩
 | brk=>obtain⟨a,H',I,q⟩:=h;show⟨a,H',I.unwish,q⟩
 | cont=>obtain⟨a,H',I,q⟩:=h;show⟨a,H',I.unwish,q⟩
 | ret u=>obtain⟨v,a,H',I,r,q⟩:=h;show⟨v,a,H',I.unwish,r,q⟩
theorem PSs.nox{st:List Stmt}{t:TS}(h:PSs X.nox st t):PSs X st t:=λpins s σ H D I hw =>
 YC (h pins s σ H D (I.wish _) hw) (λ_ _ q=>q.unwish) λ_ _ z=>False.elim z
end
section
variable{X:Cx}{st:Stmt}{rest:List Stmt}{t u:TS}{e:Expr}{te:TE}{pos:Pos}
def qf0:TS:=λD σ H=>D.nx σ H
def qgC(t u:TS):TS:=λD σ H=>t { D with nx:=u D } σ H
theorem qw:PSs X [] qf0:=λ_ _ σ H _ I h=>ko ⟨σ,H,I,h⟩
theorem qc(h1:PS X st t)(c:PSs X rest u):PSs X (st::rest) (qgC t u):=by
 intro pins s σ H D I h;show wpAny_execs_cons (thn (h1 pins s σ H { D with nx:=u D } I h) λf d q=>?_)
 cases f with
 | next =>
  obtain⟨a,H',b,q⟩:=q;show c pins d a H' D b q
 | ret v=>show q
 | brk=>show q
 | cont=>show q
theorem qe(h1:PS X st t):PSs X [st] t:=by
 intro pins s σ H D I h;show wpAny_execs_cons (thn (h1 pins s σ H D I h) λf a q=>?_)
 cases f with
 | next=>show ko q
 | ret v=>show q
 | brk=>show q
 | cont=>show q
theorem Inv.quiet(I:Inv X pins σ H s):interactive X.env=false:=by simp[interactive,I.ok.kind]
def qf1(te:TE):TS:=λD σ H=>te σ H λ_ a=>D.nx σ a
theorem qE(c:PE X e te)(d:swapsWith e none pos.line X.env=pure false:=by rfl):PS X (.Expr e pos) (qf1 te):=by
 intro pins s σ H D I h;show wpAny_Expr_any (thn (c pins s σ H _ I h) λv i ⟨x,a,b,g,f⟩=>⟨σ,a,b,f⟩) I.quiet d
def qgQ(te:TE):TS:=λD σ H=>te σ H D.rt
theorem qq(c:PE X e te):PS X (.Return (some e) pos) (qgQ te):=by
 intro pins s σ H D I h;show wpAny_Return_some (thn (c pins s σ H _ I h) λv g ⟨x,a,b,f,d⟩=>⟨x,σ,a,b,f,d⟩)
def qf2:TS:=λD _ H=>D.rt .non H
theorem ps_retN:PS X (.Return none pos) qf2:=λ_ _ σ H _ I h=>wpAny_Return_none ⟨.non,σ,H,I,rfl,h⟩
def qgR(c:TT)(t u:TS):TS:=λD σ H=>c σ H λb a=>if b=true then t D σ a else u D σ a
theorem qI{a b:List Stmt}(hc:PT X c tc)(j:PSs X a t)(hb:PSs X b u):PS X (.If c a b pos) (qgR tc t u):=by
 intro pins s σ H D I h;show wpAny_If (thn (hc pins s σ H _ I h) λd i ⟨e,f,g⟩=>?_)
 cases d with
 | true=>show j pins i σ e D f g
 | false=>show hb pins i σ e D f g
def tNever:TS:=λ_ _ _=>False
theorem jL:PS X st tNever:=λ_ _ _ _ _ _ h=>h.elim
end
abbrev TG:=V->St->Hp->(St->Hp->Prop)->Prop
abbrev TGs:=List V->St->Hp->(St->Hp->Prop)->Prop
def PG(X:Cx)(a:Expr)(t:TG):Prop:=
 ∀(pins:List (Addr×Obj)) (s:Shared) (σ:St) (H:Hp) (v:V) (u:Value) (Q:St->Hp->Prop),Inv X pins σ H s->RelV v u->t v σ H Q ->
  wpAny (model X.prog X.w) X.A (assign a X.env u) (λ_ s'=>∃ b H',Inv X pins b H' s'/\Q b H') X.xe s
def PGs(X:Cx)(b:List Expr)(t:TGs):Prop:=
 ∀(pins:List (Addr×Obj)) (s:Shared) (σ:St) (H:Hp) (vs:List V) (us:List Value) (Q:St->Hp->Prop),Inv X pins σ H s->Vals vs us->t vs σ H Q ->
  wpAny (model X.prog X.w) X.A (assignInOrder ((assignEach b X.env).map (·.2)) us) (λ_ s'=>∃ a H',Inv X pins a H' s'/\Q a H') X.xe s
abbrev qf3:=V->V->V->Hp->(Hp->Prop)->Prop
def qgD(X:Cx)(t:qf3):Prop:=
 ∀(pins:List (Addr×Obj)) (s:Shared) (σ:St) (H:Hp) (o i v:V) (b a u:Value) (Q:Hp->Prop),Inv X pins σ H s->RelV o b->RelV i a->RelV v u->t o i v H Q ->
  wpAny (model X.prog X.w) X.A (setItem b a u) (λ_ s'=>∃ H',Inv X pins σ H' s'/\Q H') X.xe s
section
variable{X:Cx}{pos:Pos}
def qb3(i:Nat):TG:=λv σ H Q=>Q (σ.set i (some v)) H
theorem qu(b:X.N.Nodup)(d:X.N[i]?=some x)(e:Loc X.env.scope x)(c:X.fn x=true\/X.env.scope.names.lookup x=some .local:=by first | show .inl rfl | show .inr rfl | assumption):PG X (.Name x pos) (qb3 i):=by
 intro pins s σ H v u Q I r h;show wpAny_assign_Name (qao I b d e r (λs' a=>⟨_,H,a,h⟩) c)
def qgS:TGs:=λvs σ H Q=>vs=[]/\Q σ H
def qfH(t:TG)(u:TGs):TGs:=λvs σ H Q=>∃ v r,vs=v::r/\t v σ H λa H'=>u r a H' Q
theorem qaa:PGs X [] qgS:=by
 intro pins s σ H vs us Q I r h;obtain⟨e,h⟩:=h;subst e;cases r;show assignInOrder_nil ⟨σ,H,I,h⟩
theorem qY{t:TG}{u:TGs}(h1:PG X e t)(f:PGs X es u)
  (g:(assignEach (e::es) X.env).map (·.2)=assign e X.env::(assignEach es X.env).map (·.2):=by rfl):PGs X (e::es) (qfH t u):=by
 intro pins s σ H vs us Q I r h;obtain⟨v,l,d,h⟩:=h;subst d
 cases r with
 | cons r rr =>
  rw[g];show assignInOrder_cons (thn (h1 pins s σ H _ _ _ I r h) λ_ j ⟨a,b,c,i⟩=>?_);show f pins j a b _ _ Q c rr i
def qgT(K:yg)(n:Nat)(t:TGs):TG:=λv σ H Q=>∃ a xs,v=.ref a/\SqT K H a xs/\xs.length=n/\t xs σ H Q
theorem qbh{k:Nat}{t:TGs}(hc:X.calm=true)(h:PGs X es t)
  (i:(assignEach es X.env).length=n:=by rfl) (c:(assignEach es X.env).findIdx? (·.1)=none:=by rfl):PG X (.Tuple es k pos) (qgT X.K n t):=by
 intro pins s σ H v u Q I r hw;obtain⟨a,xs,g,j,hl,hw⟩:=hw;subst g;cases r;obtain⟨p,d,l,q⟩:=I.tuple j;show assign_Tuple_tuple (I.ok.hd hc) l (by simp[i,<- hl,d.length]) c λh' m=>?_;have f:Inv X pins σ H { s with heap:=h' }:=I.kept (t':=s.toks) λb o e=>m b o (Yi (yM e)) e;show h pins _ σ H xs _ Q f (by simpa using d) hw
def qgU(to d:TE)(t:qf3):TG:=λv σ H Q=>to σ H λo a=>d σ a λi b=>t o i v b λc=>Q σ c
theorem jM{o i:Expr}{to c:TE}{t:qf3}(p:PE X o to)(n:PE X i c)(q:qgD X t)
  (m:∀ v,assign (.Subscript o i pos) X.env v=(do
   let a <- holding [v] (eval o X.env);let b <- holding [v,a] (eval i X.env)
   standAt pos
   holding [v,a,b] (setItem a b v)
   release [v,a,b] []):=by intro _;rfl):PG X (.Subscript o i pos) (qgU to c t):=by
 intro pins s σ H v u Q I r h;rw[m];show yt (YG (thn (p pins s σ H _ I h) λa D ⟨x,d,g,B,w⟩=>?_));show yt (YG (thn (n pins D σ d _ g w) λb E ⟨y,e,j,C,z⟩=>?_));show yt (Xn (yt (YG (thn (q pins E σ e x y v a b u _ j B C r z) λ_ F ⟨f,l,A⟩=>?_))));show wpAny_release ⟨σ,f,l,A⟩
def qf4(te:TE)(g:TG):TS:=λD σ H=>te σ H λx a=>g x σ a D.nx
theorem jN(c:PE X e te)(d:PG X tg g)(f:swapsWithSole [tg] e pos.line X.env=pure false:=by rfl)(hw:swappedStores [tg] e X.env=pure none:=by rfl)
  (h1:(assignEach [tg] X.env).map (·.2)=[assign tg X.env]:=by rfl):PS X (.Assign [tg] e pos) (qf4 te g):=by
 intro pins s σ H D I h;show wpAny_Assign_stores (thn (c pins s σ H _ I h) λv l ⟨x,a,b,j,i⟩=>?_) f hw;rw[h1];show thn (d pins l σ a x v _ b j i) λ_ m q=>q
theorem qm{a:Pos}(f:X.N.Nodup)(l:X.N[i]?=some x)(n:Loc X.env.scope x)(g:PE X e te)(m:swapsWith e (some (.Name x a)) pos.line X.env=pure false:=by rfl)(j:X.fn x=true\/X.env.scope.names.lookup x=some .local:=by first | show .inl rfl | show .inr rfl | assumption) :
  PS X (.Assign [.Name x a] e pos) (qf4 te (qb3 i)):=by
 intro pins s σ H D I h;show wpAny_Assign_Name (thn (g pins s σ H _ I h) λv q ⟨y,b,c,p,o⟩=>?_) m;show qao c f l n p (λr d=>⟨_,b,d,o⟩) j
def qgV(i j:Nat)(ta:TA):TS:=λD σ H=>ta σ H λvs a=>∃ v w,vs=[v,w]/\D.nx ((σ.set i (some v)).set j (some w)) a
theorem ps_par{y:Str}{a b:Expr}{m n pt:Pos}{kt k2 pt2}(hc:X.calm=true)(B:X.N.Nodup)(O:X.N[i]?=some x)(P:X.N[j]?=some y)(g:i≠j)
  (C:X.env.scope.names.lookup x=some .local) (E:X.env.scope.names.lookup y=some .local) (M:PA X [a,b] ta)
  (hw:swappedStores [.Tuple [.Name x m,.Name y n] kt pt] (.Tuple [a,b] k2 pt2) X.env=pure (some [x,y]))
  (R:swapsWithSole [.Tuple [.Name x m,.Name y n] kt pt] (.Tuple [a,b] k2 pt2) pos.line X.env=pure false:=by rfl) :
  PS X (.Assign [.Tuple [.Name x m,.Name y n] kt pt] (.Tuple [a,b] k2 pt2) pos) (qgV i j ta):=by
 intro pins s σ H D I h;rw[exec_Assign_arm];show yt (Xn ?_);rw[R];show yt (yz ?_);rw[yF (by decide)];show yt (Tuple_ (thn (M _ pins s σ H _ I h) λus c ⟨vs,u,F,S,r⟩=>?_));obtain⟨v,w,L,r⟩:=r;subst L
 obtain⟨d,f,rfl,T,t⟩:∃ d f,us=[d,f]/\RelV v d/\RelV w f:=by
  cases S with
  | cons p q =>
   cases q with
   | cons p' q' =>
    cases q';show⟨_,_,rfl,p,p'⟩
 show xy ?_ wqS;have G:Inv X pins σ u { c with heap:=c.heap.push { cls:=.type "tuple",data:=.seq [d,f].toArray } }:=F.kept (t':=c.toks) λb o e=>yy _ e;rw[hw];show yt (yz ?_);show wpAny (model X.prog X.w) X.A (do rule "assign.swapped-stores";let items <- unpackItems (.ref c.heap.objs.size) 2 none;assignInOrder [λv=>bindName X.env y v,λv=>bindName X.env x v] items.reverse;pure Flow.next) _ _ _;show yt (Kb (yt (unpackItems_tuple (items:=#[d,f]) (I.ok.hd hc) (IsTup.new c.heap _) λh' l=>?_)));have J:=G.kept (h':=h') (t':=c.toks) λb o e=>l b o (Yi (yM e)) e;show wpAny _ _ (assignInOrder [λv=>bindName X.env y v,λv=>bindName X.env x v] [f,d]>>=λ_=>pure Flow.next) _ _ _;show yt (assignInOrder_cons (kG (qao J B P (.inl E) t (λU K=>?_) (.inr E))));show assignInOrder_cons (kG (qao K B O (.inl C) T (λW z=>assignInOrder_nil (yz ?_)) (.inr C)));rw[List.set_comm _ _ (Yh g)] at z;show⟨_,u,z,r⟩
end
section
variable{X:Cx}{pos:Pos}
def tWhile(c:TT)(tb:TS):TS:=λD σ H=>∃ W:Nat->St->Hp->Prop,(∃ m,W m σ H)/\∀ m σ H,W m σ H ->
 c σ H λb d=>if b=true then ∃ N:St->Hp->Prop,(∀ a H',N a H'->∃ e,e<m/\W e a H')/\tb { D with nx:=N,ct:=N,bk:=D.nx } σ d else D.nx σ d
theorem qck(y:PassesOwn (model X.prog X.w) X.A X.env X.xe)(hc:PT X c tc)(hb:PSs X body tb):PS X (.While c body [] pos) (tWhile tc tb):=by
 intro pins s σ H D I h;obtain⟨W,⟨B,F⟩,turn⟩:=h;show wpAny_While (codeAny_whileLoop (λn s'=>∃ g H',Inv X pins g H' s'/\W n g H') ?_ B ⟨σ,H,I,F⟩);rintro n C ⟨d,r,z,G⟩;show xP y (thn (hc pins C d r _ z (turn n d r G)) λb E ⟨t,u,i⟩=>?_)
 cases b with
 | true =>
  obtain⟨N,x,i⟩:=i;rw[yG rfl];show xP y (thn (hb pins E d t _ u i) λf J j=>?_)
  cases f with
  | next =>
   obtain⟨a,e,l,p⟩:=j;obtain⟨o,m,q⟩:=x a e p;show⟨o,m,a,e,l,q⟩
  | cont =>
   obtain⟨a,e,l,p⟩:=j;obtain⟨o,m,q⟩:=x a e p;show⟨o,m,a,e,l,q⟩
  | brk=>show j
  | ret v=>show j
 | false =>
  rw[yF Yq];show ko ⟨d,t,u,i⟩
end
structure It where
 go:Nat->Hp->Prop
 yld:Nat->Hp->V->Hp->Prop
 stop:Nat->Hp->Prop
def qea(X:Cx)(pins:List (Addr×Obj))(H:Hp)(b:Addr):Prop:=
 H b=none/\b≠X.env.locals/\b∉X.fs/\(b∈X.ex\/X.s₀.heap.objs.size<=b)/\(∀ x c,X.env.cells.lookup x=some c->c≠b)/\∀ p∈X.pn++pins,p.1≠b
theorem Inv.fpOk{H':Hp}(I:Inv X pins σ H s)(hb:s.heap.objs.size<=b)(a:H' b=none):qea X pins H' b:=by
 show⟨a,Xw (yj I.lt hb),I.nofs hb,.inr (yi I.sz hb),λx c e z=>?_,λp d z=>?_⟩
 .obtain⟨v,q⟩:=I.cell x c e;show absurd (yj q.lt (by rw[z];show hb)) (Yz _)
 .show absurd (yj (yM (I.pin p d).1) (by rw[z];show hb)) (Yz _)
structure Turn(P:Program)(w:World)(K:yg)(tg:Expr)(J:It)(fp:LX)(it:Addr)(tn:Nat->Heap->Prop):Prop where
 mem:it∈fp
 obj:∀ i h,tn i h->∀ b∈fp,∃ o,h.get? b=some o/\∀ v,o.data≠.cell v
 keep:∀ i h h',tn i h->(∀ b∈fp,∀ o,h.get? b=some o->h'.get? b=some o)->tn i h'
 item:∀(X:Cx),X.prog=P->X.w=w->X.K=K->X.calm=true->∀(i:Nat) (pins:List (Addr×Obj)) (s:Shared) (σ:St) (H:Hp) (E:Value->Shared->Prop),Inv X pins σ H s->(∀ b∈fp,qea X pins H b)->tn i s.heap->J.go i H ->
  wpAny (model P w) X.A (pyNext (.ref it)) (λr s1=>∃ u,r=some u /\
   wpAny (model P w) X.A (letOwnedTupleGo tg (.ref it) u) (λ_ s2=>∃ x H',Inv X pins σ H' s2/\RelV x u/\J.yld i H x H'/\tn (i+1) s2.heap/\∀ b∈fp,H' b=none) E s1) E s
 done:∀(X:Cx),X.prog=P->X.w=w->X.K=K->X.calm=true->∀(i:Nat) (pins:List (Addr×Obj)) (s:Shared) (σ:St) (H:Hp) (E:Value->Shared->Prop),Inv X pins σ H s->(∀ b∈fp,qea X pins H b)->tn i s.heap->J.stop i H ->
  wpAny (model P w) X.A (pyNext (.ref it)) (λr s1=>r=none/\Inv X pins σ H s1) E s
 self:∀(A:Around) (i:Nat) (s:Shared) (Q:Value->Shared->Prop) (E:Value->Shared->Prop),tn i s.heap->Q (.ref it) s->wpAny (model P w) A (pyIter (.ref it)) Q E s
abbrev TI:=St->Hp->(It->Hp->Prop)->Prop
def PIE(X:Cx)(pins:List (Addr×Obj))(σ:St)(tg:Expr)(R:It->Hp->Prop)(a:Value)(c:Shared):Prop:=
 ∃(it:Addr) (fp:LX) (tn:Nat->Heap->Prop) (J:It) (H':Hp),a=.ref it/\Inv X pins σ H' c/\Turn X.prog X.w X.K tg J fp it tn/\tn 0 c.heap/\(∀ b∈fp,qea X pins H' b)/\R J H'
def PI(X:Cx)(tg a:Expr)(c:TI):Prop:=
 ∀(pins:List (Addr×Obj)) (s:Shared) (σ:St) (H:Hp) (R:It->Hp->Prop),Inv X pins σ H s->c σ H R ->
  wpAny (model X.prog X.w) X.A (eval a X.env) (λv b=>wpAny (model X.prog X.w) X.A (pyIter v) (PIE X pins σ tg R) X.xe b) X.xe s
theorem qe5{o:Obj}{n:String}{vs:Array Value}{Q:Unit->Shared->Prop}(d:s.heap.get? it=some o)(hc:o.cls=.type n)(b:o.data=.fields vs)
    (c:["enumerate","zip","dict_itemiterator","dict_reverseitemiterator","odict_iterator","itertools.zip_longest","itertools.pairwise"].contains n=false) (a:Q () s):wpAny M A (letOwnedTupleGo tg (.ref it) u) Q E s:=by
  unfold letOwnedTupleGo;cases tg<;>first
    | show yz a
    | (cases u<;>first
        | show yz a
        | (show yt (wpAny_load d ?_)
           rw[hc,b];show wpAny M A (if (["enumerate","zip","dict_itemiterator","dict_reverseitemiterator","odict_iterator","itertools.zip_longest","itertools.pairwise"].contains n&&vs[0]?==some (rawInt _))=true then _ else _) Q E s;rw[yF (by intro h;rw[c,Bool.false_and] at h;cases h)];show yz a))
def Itl(K:yg)(a:Addr):It:=
 ⟨λi H=>∃ xs x,SqL K H a xs/\xs[i]?=some x,λi H x H'=>H'=H/\∀ xs,SqL K H a xs->xs[i]?=some x,λi H=>∃ xs,SqL K H a xs/\xs.length<=i⟩
def Itt(K:yg)(a:Addr):It:=
 ⟨λi H=>∃ xs x,SqT K H a xs/\xs[i]?=some x,λi H x H'=>H'=H/\∀ xs,SqT K H a xs->xs[i]?=some x,λi H=>∃ xs,SqT K H a xs/\xs.length<=i⟩
def Itr(lo:Int)(n:Nat):It:=⟨λi _=>i<n,λi H x H'=>H'=H/\x=.int (lo+i),λi _=>n<=i⟩
theorem qcC{K:yg}(a it:Addr):Turn P w K tg (Itl K a) [it] it (λi h=>h.IsListIter it a i) where
 mem:=by simp
 obj:=λi h st b hb=>by
  have e:b=it:=by simpa using hb
  subst e;obtain⟨o,e,c,d⟩:=st;show⟨o,e,λv z=>by rw[d] at z;cases z⟩
 keep:=λi h h' st k=>st.at λo e=>k it (by simp) o e
 item:=by
  intro X y hw t hc i pins s σ H E I g st A;subst y hw t;obtain⟨xs,x,j,B⟩:=A;obtain⟨C,D,p,N⟩:=I.list j;obtain⟨u,L,O⟩:=D.get B;obtain⟨l,m,J,n,q,r⟩:=g it (by simp);show wpAny_pyNext_list_item st p.isList (x:=u) (by simpa using L) λh' f R=>?_;have F:Inv X pins σ H { s with heap:=h' }:=I.turned (t':=s.toks) (λb o hb e=>(R.2 b hb).trans e) l m n q r;obtain⟨o,e,c,d⟩:=id f;show⟨u,rfl,qe5 (s:={ s with heap:=h' }) e c d (by decide) ⟨x,H,F,O,⟨rfl,λS M=>by rw[I.list_inj M j];show B⟩,f,λb hb=>(g b hb).1⟩⟩
 done:=by
  intro X y hw t hc i pins s σ H E I g st A;subst y hw t;obtain⟨xs,j,B⟩:=A;obtain⟨C,D,p,N⟩:=I.list j;obtain⟨l,m,J,n,q,r⟩:=g it (by simp);have hl:=D.length;show wpAny_pyNext_list_end (I.ok.hd hc) st p.isList (by simp;lk) λh' G=>⟨rfl,I.turned (t':=s.toks) (λb o hb e=>G b o hb e) l m n q r⟩
 self:=λ_ _ _ _ _ st h=>wpAny_pyIter_listiter st h
theorem turn_tuple{K:yg}(a it:Addr):Turn P w K tg (Itt K a) [it] it (λi h=>h.IsTupleIter it a i) where
 mem:=by simp
 obj:=λi h st b hb=>by
  have e:b=it:=by simpa using hb
  subst e;obtain⟨o,e,c,d⟩:=st;show⟨o,e,λv z=>by rw[d] at z;cases z⟩
 keep:=λi h h' st k=>st.at λo e=>k it (by simp) o e
 item:=by
  intro X A hw y hc i pins s σ H E I j st B;subst A hw y;obtain⟨xs,x,l,C⟩:=B;obtain⟨f,D,p,N⟩:=I.tuple l;obtain⟨u,L,O⟩:=D.get C;obtain⟨m,n,J,q,r,t⟩:=j it (by simp);show wpAny_pyNext_tuple_item st (show s.heap.IsTuple a f.toArray from p) (x:=u) (by simpa using L) λh' g R=>?_;have F:Inv X pins σ H { s with heap:=h' }:=I.turned (t':=s.toks) (λb o hb e=>(R.2 b hb).trans e) m n q r t;obtain⟨o,e,c,d⟩:=id g;show⟨u,rfl,qe5 (s:={ s with heap:=h' }) e c d (by decide) ⟨x,H,F,O,⟨rfl,λS M=>by rw[I.tuple_inj M l];show C⟩,g,λb hb=>(j b hb).1⟩⟩
 done:=by
  intro X A hw y hc i pins s σ H E I j st B;subst A hw y;obtain⟨xs,l,C⟩:=B;obtain⟨f,D,p,N⟩:=I.tuple l;obtain⟨m,n,J,q,r,t⟩:=j it (by simp);have hl:=D.length;show wpAny_pyNext_tuple_end (I.ok.hd hc) st (show s.heap.IsTuple a f.toArray from p) (by simp;lk) λh' G=>⟨rfl,I.turned (t':=s.toks) (λb o hb e=>G b o hb e) m n q r t⟩
 self:=λ_ _ _ _ _ st h=>wpAny_pyIter_tupleiter st h
theorem turn_range{K:yg}(it:Addr)(lo:Int)(n:Nat):Turn P w K tg (Itr lo n) [it] it (λi h=>IsRangeIter h it (lo+(i:Nat)*1) ((n:Int)-(i:Nat)) 1) where
 mem:=by simp
 obj:=λi h st b hb=>by
  have e:b=it:=by simpa using hb
  subst e
  show⟨_,st,λv z=>by
   have A:Data.fields _=Data.cell v:=z;cases A⟩
 keep:=λi h h' st k=>k it (by simp) _ st
 item:=by
  intro X p hw m hc i pins s σ H E I c st q;subst p hw m;obtain⟨d,f,x,g,j,l⟩:=c it (by simp);have W:=Walks.range (prog:=X.prog) (w:=X.w) (I.ok.hd hc) it lo 1 n;show W.item i s _ _ q st λv h' tk hv a y=>?_;obtain⟨t,rfl⟩:=hv;have r:Inv X pins σ H { s with heap:=h',toks:=tk }:=I.turned (λb o hb e=>y b o (by simpa using hb) e) d f g j l;show⟨_,rfl,qe5 (s:={ s with heap:=h',toks:=tk }) (n:="range_iterator") a rfl rfl (by decide) ⟨.int (lo+i),H,r,⟨t,?_⟩,⟨rfl,rfl⟩,a,λb hb=>(c b hb).1⟩⟩;rw[Int.mul_one]
 done:=by
  intro X p hw m hc i pins s σ H E I c st q;subst p hw m;obtain⟨d,f,x,g,j,l⟩:=c it (by simp);show wpAny_pyNext_range_end (I.ok.hd hc) st (by have:n<=i:=q;lk) λh' u=>⟨rfl,I.turned (t':=s.toks) (λb o hb e=>u b o hb e) d f g j l⟩
 self:=λ_ _ _ _ _ st h=>wpAny_pyIter_rangeiter st h
section
variable{X:Cx}{tg:Expr}
theorem qdw{R:It->Hp->Prop}{a:Int}{t u v:Tok}{tk:Nat}(I:Inv X pins σ H s)(h1:-(2 ^ 62)<=lo)(g:lo<2 ^ 62)(h:-(2 ^ 62)<=a)(i:a<2 ^ 62)
  (q:R (Itr lo (a-lo).toNat) H):wpAny (model X.prog X.w) X.A (pyIter (.ref s.heap.objs.size)) (PIE X pins σ tg R) E { s with heap:=s.heap.push { cls:=.type "range",data:=.fields #[.int lo t,.int a u,.int 1 v] },toks:=tk }:=by
 show wpAny_pyIter_range (IsRange.new ..) (small_one h1 g h i) ?_;have c:Inv X pins σ H { s with heap:=s.heap.push { cls:=.type "range",data:=.fields #[.int lo t,.int a u,.int 1 v] },toks:=tk }:=I.kept λb o e=>yy _ e;show⟨(s.heap.push { cls:=.type "range",data:=.fields #[.int lo t,.int a u,.int 1 v] }).objs.size,[(s.heap.push { cls:=.type "range",data:=.fields #[.int lo t,.int a u,.int 1 v] }).objs.size],_,_,H,rfl,
  c.kept (t':=tk) λb o e=>yy _ e,turn_range _ lo (a-lo).toNat,?_,λb hb=>?_,q⟩
 .have d:lo+((0:Nat):Int)*1=lo:=by simp
  have f:(((a-lo).toNat:Nat):Int)-((0:Nat):Int)=Builtin.Range.rangeSize lo a 1:=by rw[rangeSize_one];split<;>lk
  show IsRangeIter _ _ (lo+((0:Nat):Int)*1) ((((a-lo).toNat:Nat):Int)-((0:Nat):Int)) 1;rw[d,f];show Yd _ rfl
 .have e:b=(s.heap.push { cls:=.type "range",data:=.fields #[.int lo t,.int a u,.int 1 v] }).objs.size:=by simpa using hb
  subst e;show c.fpOk (yh _) (c.hok.fresh (yh _))
def qf5(ta:TA):TI:=fun σ H R=>ta σ H λvs a=>∃ j:Int,vs=[.int j]/\-(2 ^ 62)<=j/\j<2 ^ 62/\R (Itr 0 j.toNat) a
def qf6(ta:TA):TI:=fun σ H R=>ta σ H λvs a=>∃ i j:Int,vs=[.int i,.int j]/\(-(2 ^ 62)<=i/\i<2 ^ 62/\-(2 ^ 62)<=j/\j<2 ^ 62)/\R (Itr i (j-i).toNat) a
theorem jz{a:Expr}(f:Gl X "range")(g:X.mg "range"=none)(d:PA X [a] ta)(i:starEach [a] X.env=[(false,eval a X.env)]:=by rfl):PI X tg (.Call (.Name "range" p) [a] [] pos) (qf5 ta):=by
 intro pins s σ H R I h;show Call_ (qbF I f g boot_range (xG (thn (d pos pins s σ H _ I h) λus o ⟨vs,n,c,m,b⟩=>?_) i rfl));obtain⟨j,e,b,l,q⟩:=b;subst e
 cases m with
 | cons r rr =>
  cases rr;obtain⟨t,rfl⟩:=r;show call_range_1 (qdw c (by lk) (by lk) b l (by simpa using q))
theorem qbG{a b:Expr}(l:Gl X "range")(m:X.mg "range"=none)(g:PA X [a,b] ta)(n:starEach [a,b] X.env=[(false,eval a X.env),(false,eval b X.env)]:=by rfl)(c:starEach [b] X.env=[(false,eval b X.env)]:=by rfl) :
  PI X tg (.Call (.Name "range" p) [a,b] [] pos) (qf6 ta):=by
 intro pins s σ H R I h;show Call_ (qbF I l m boot_range (xG (thn (g pos pins s σ H _ I h) λus y ⟨vs,x,f,w,d⟩=>?_) (by rw[n,c]) (by rw[c];rfl)));obtain⟨i,j,e,⟨d,o,u,v⟩,q⟩:=d;subst e
 cases w with
 | cons r rr =>
  cases rr with
  | cons r' rr =>
   cases rr;obtain⟨t,rfl⟩:=r;obtain⟨t',rfl⟩:=r';show call_range_2 (qdw f d o u v q)
def qgW(f:TI)(g:TG)(tb:TS):TS:=λD σ H=>f σ H λJ d=>∃ W:Nat->Nat->St->Hp->Prop,(∃ m,W 0 m σ d)/\∀ i m σ H,W i m σ H ->
 (J.stop i H/\D.nx σ H)\/(J.go i H/\∃ N:St->Hp->Prop,(∀ a H',N a H'->∃ c,c<m/\W (i+1) c a H')/\∀ x H',J.yld i H x H'->g x σ H' λb e=>tb { D with nx:=N,ct:=N,bk:=D.nx } b e)
def qcD(fp:LX)(h:Heap):List (Addr×Obj):=fp.filterMap λb=>(h.get? b).map λo=>(b,o)
theorem qap{o:Obj}(hb:b∈fp)(e:h.get? b=some o):(b,o)∈qcD fp h:=List.mem_filterMap.mpr ⟨b,hb,by rw[e];rfl⟩
theorem of_pinsAt{p:Addr×Obj}(c:p∈qcD fp h):p.1∈fp/\h.get? p.1=some p.2:=by
 obtain⟨b,hb,e⟩:=List.mem_filterMap.mp c
 cases q:h.get? b with
 | none=>rw[q] at e;cases e
 | some o =>
  rw[q] at e;have a:(b,o)=p:=yn e;subst a;show⟨hb,q⟩
theorem Inv.pinned(I:Inv X pins σ H s)(h:∀ b∈fp,qea X pins H b)(i:∀ b∈fp,∃ o,s.heap.get? b=some o/\∀ v,o.data≠.cell v):Inv X (pins++qcD fp s.heap) σ H s:=
 I.pins_of λp j=>(yw.mp j).elim (λz=>I.pin p (yN _ z)) λz=>by
  obtain⟨hb,e⟩:=of_pinsAt z;obtain⟨c,f,g,_⟩:=h p.1 hb;obtain⟨o,a,d⟩:=i p.1 hb;rw[e] at a;cases a;show⟨e,c,f,g,d⟩
theorem Inv.unpinned{pl:List (Addr×Obj)}(I:Inv X (pins++pl) σ H s):Inv X pins σ H s:=I.pins_of λp a=>I.pin p (yN _ (yP _ a))
theorem qX{l:Expr}{wi:TI}(C:PassesOwn (model X.prog X.w) X.A X.env X.xe)(hc:X.calm=true)(hi:PI X tg l wi)(hg:PG X tg g)(hb:PSs X body tb)
  (hs:∀ x,foldedSetIterable l X.env x=pure x:=by intro _;rfl):PS X (.For tg l body [] pos) (qgW wi g tb):=by
 intro pins s σ H D I h;show wpAny_For (thn (hi pins s σ H _ I h) λv s1 h1=>thn h1 λaa s2 h2=>?_) hs;obtain⟨it,fp,tn,J,H2,e,I2,T,R,Z,W,⟨m0,w0⟩,turn⟩:=h2;subst e;have p:∀{H':Hp},(∀ b∈fp,H' b=none)->∀ b∈fp,qea X pins H' b:=λhn b hb=>⟨hn b hb,(Z b hb).2⟩;show codeAny_forLoop_any (λn s'=>∃ i q H',Inv X pins q H' s'/\tn i s'.heap/\(∀ b∈fp,H' b=none)/\W i n q H') ?_ m0 ⟨0,σ,H2,I2,R,λb hb=>(Z b hb).1,w0⟩;rintro n s3 ⟨i,t,K,Y,F,B,w3⟩;rcases turn i n t K w3 with⟨G,qn⟩ | ⟨go,N,hN,step⟩
 .show xP C (thn (T.done X rfl rfl rfl hc i pins s3 t K X.xe Y (p B) F G) λr s4 ⟨O,I4⟩=>?_);subst O;show ko ⟨t,K,I4,qn⟩
 .show xP C (thn (T.item X rfl rfl rfl hc i pins s3 t K X.xe Y (p B) F go) λr s4 ⟨u,O,h4⟩=>?_);subst O;show xP C (thn h4 λ_ s5 ⟨x,U,I5,r5,y5,z,M⟩=>?_);have L:=I5.pinned (p M) (T.obj _ _ z);show xP C (thn (hg _ s5 t U x u _ L r5 (step x U y5)) λ_ s6 ⟨S,H6,I6,q6⟩=>?_);show xP C (thn (hb _ s6 S H6 _ I6 q6) λf P y=>?_)
  have again:∀{a:St} {c:Hp},Inv X (pins++qcD fp s5.heap) a c P->N a c->∃ m,m<n/\∃ i q H',Inv X pins q H' P/\tn i P.heap/\(∀ b∈fp,H' b=none)/\W i m q H':=λ{a c} j E=>by
   obtain⟨m',hm,w7⟩:=hN a c E;show⟨m',hm,i+1,a,c,j.unpinned,T.keep _ _ _ z λb hb o e=>(j.pin (b,o) (yN _ (yN _ (qap hb e)))).1,λb hb=>?_,w7⟩;obtain⟨o,e,d⟩:=T.obj _ _ z b hb;show(j.pin (b,o) (yN _ (yN _ (qap hb e)))).2.1
  cases f with
  | next=>obtain⟨a,c,j,E⟩:=y;show again j E
  | cont=>obtain⟨a,c,j,E⟩:=y;show again j E
  | brk=>obtain⟨a,c,j,y⟩:=y;show⟨a,c,j.unpinned,y⟩
  | ret v=>obtain⟨x7,a,c,j,r7,y⟩:=y;show⟨x7,a,c,j.unpinned,r7,y⟩
end
theorem qP{K:yg}(b:Nat->St->Hp->Prop)(l:b 0 σ H)(hl:∀ i σ H,i<=xs.length->b i σ H->SqL K H a xs)
  (r:∀ i x σ H,xs[i]?=some x->b i σ H->g x σ H λd h=>tb { D with nx:=b (i+1),ct:=b (i+1),bk:=D.nx } d h) (n:∀ σ H,b xs.length σ H->D.nx σ H) :
  ∃ W:Nat->Nat->St->Hp->Prop,(∃ m,W 0 m σ H)/\∀ i m σ H,W i m σ H ->
   ((Itl K a).stop i H/\D.nx σ H)\/((Itl K a).go i H/\∃ N:St->Hp->Prop,(∀ c H',N c H'->∃ j,j<m/\W (i+1) j c H')/\∀ x H',(Itl K a).yld i H x H'->g x σ H' λd h=>tb { D with nx:=N,ct:=N,bk:=D.nx } d h):=by
 show⟨λi m σ H=>m=xs.length-i/\i<=xs.length/\b i σ H,⟨xs.length,by simp,Yy _,l⟩,?_⟩;rintro i m σ H ⟨rfl,o,p⟩;have q:=hl i σ H o p;by_cases f:i<xs.length
 .show .inr ⟨⟨xs,xs[i],q,by simp[f]⟩,b (i+1),λc H' s=>⟨xs.length-(i+1),by lk,rfl,f,s⟩,λx H' y=>?_⟩;obtain⟨e,y⟩:=y;subst e;show r i x σ _ (y xs q) p
 .have e:i=xs.length:=by lk
  subst e;show .inl ⟨⟨xs,q,yh _⟩,n σ H p⟩
theorem jO(a:Nat->St->Hp->Prop)(j:a 0 σ H)
  (o:∀ i σ H,i<n->a i σ H->g (.int (lo+i)) σ H λd f=>tb { D with nx:=a (i+1),ct:=a (i+1),bk:=D.nx } d f) (l:∀ σ H,a n σ H->D.nx σ H) :
  ∃ W:Nat->Nat->St->Hp->Prop,(∃ m,W 0 m σ H)/\∀ i m σ H,W i m σ H ->
   ((Itr lo n).stop i H/\D.nx σ H)\/((Itr lo n).go i H/\∃ N:St->Hp->Prop,(∀ c H',N c H'->∃ h,h<m/\W (i+1) h c H')/\∀ x H',(Itr lo n).yld i H x H'->g x σ H' λd f=>tb { D with nx:=N,ct:=N,bk:=D.nx } d f):=by
 show⟨λi m σ H=>m=n-i/\i<=n/\a i σ H,⟨n,by simp,Yy _,j⟩,?_⟩;rintro i m σ H ⟨rfl,r,p⟩;by_cases b:i<n
 .show .inr ⟨b,a (i+1),λc H' q=>⟨n-(i+1),by lk,rfl,b,q⟩,λx H' y=>?_⟩;obtain⟨e,y⟩:=y;subst e y;show o i σ _ b p
 .have e:i=n:=by lk
  subst e;show .inl ⟨yh _,l σ H p⟩
abbrev R2:=V->V->Hp->VK->Prop
def OpR(X:Cx)(f:Value->Value->Sem Value)(r:R2):Prop:=
 ∀(pins:List (Addr×Obj)) (s:Shared) (σ:St) (H:Hp) (x y:V) (v u:Value) (Q:VK),Inv X pins σ H s->RelV x v->RelV y u->r x y H Q ->
  wpAny (model X.prog X.w) X.A (f v u) (EP X pins σ Q) X.xe s
def UnR(X:Cx)(f:Value->Sem Value)(r:V->Hp->VK->Prop):Prop:=
 ∀(pins:List (Addr×Obj)) (s:Shared) (σ:St) (H:Hp) (x:V) (v:Value) (Q:VK),Inv X pins σ H s->RelV x v->r x H Q ->
  wpAny (model X.prog X.w) X.A (f v) (EP X pins σ Q) X.xe s
def zI(X:Cx)(f:Value)(r:List V->Hp->VK->Prop):Prop:=
 ∀(pins:List (Addr×Obj)) (s:Shared) (σ:St) (H:Hp) (xs:List V) (us:List Value) (Q:VK),Inv X pins σ H s->Vals xs us->r xs H Q ->
  wpAny (model X.prog X.w) X.A (call f us) (EP X pins σ Q) X.xe s
def tOp(r:R2)(ta tb:TE):TE:=fun σ H Q=>ta σ H λx a=>tb σ a λy b=>r x y b Q
def tUn(r:V->Hp->VK->Prop)(ta:TE):TE:=fun σ H Q=>ta σ H λx a=>r x a Q
def rI(C:Int->Int->Prop)(g:Int->Int->V):R2:=λx y H Q=>∃ i j,x=.int i/\y=.int j/\C i j/\Q (g i j) H
def rI0(g:Int->Int->V):R2:=λx y H Q=>∃ i j,x=.int i/\y=.int j/\Q (g i j) H
def rU(g:Int->V):V->Hp->VK->Prop:=λx H Q=>∃ i,x=.int i/\Q (g i) H
section
variable{X:Cx}{a b c:Expr}{ta tb tc:TE}{pos:Pos}
theorem qgE(m:PE X a ta)(hb:PE X b tb){R:V->V->Hp->Prop}(I:Inv X pins σ H s)
  (h:ta σ H λx i=>tb σ i λy c=>R x y c) {Q:Value->Shared->Prop}
  (n:∀ v u g x y c,Inv X pins σ c g->RelV x v->RelV y u->R x y c->wpAny (model X.prog X.w) X.A (f v u) Q X.xe g) :
  wpAny (model X.prog X.w) X.A (eval a X.env) (λv d=>wpAny (model X.prog X.w) X.A (eval b X.env) (λu e=>wpAny (model X.prog X.w) X.A (f v u) Q X.xe e) X.xe d) X.xe s:=by
 show thn (m pins s σ H _ I h) λv t ⟨x,i,j,q,o⟩=>?_;show thn (hb pins t σ i _ j o) λu g ⟨y,c,l,r,p⟩=>?_;show n v u g x y c l q r p
theorem qt{op:Operator}(f:OpR X (binaryOp op) r)(e:PE X a ta)(hb:PE X b tb):PE X (.BinOp a op b pos) (tOp r ta tb):=by
 intro pins s σ H Q I h;show wpAny_BinOp (qgE e hb I h λv u j x y c d g i q=>f pins j σ c x y v u Q d g i q)
theorem qa0{op:UnaryOp}{r:V->Hp->VK->Prop}(e:UnR X (unaryOp op) r)(d:PE X a ta):PE X (.UnaryOp op a pos) (tUn r ta):=by
 intro pins s σ H Q I h;show UnaryOp_ (thn (d pins s σ H _ I h) λv i ⟨x,b,c,g,f⟩=>e pins i σ b x v Q c g f)
theorem opI{C:Int->Int->Prop}{g:Int->Int->Int}
  (a:∀(i j:Int) (t u:Tok) (s:Shared) (Q:Value->Shared->Prop) (E:Value->Shared->Prop),C i j->Q (.int (g i j) s.toks) { s with toks:=s.toks+1 }->wpAny (model X.prog X.w) X.A (f (.int i t) (.int j u)) Q E s) :
  OpR X f (rI C λi j=>.int (g i j)):=by
 intro pins s σ H x y v u Q I b c h;obtain⟨i,j,rfl,rfl,hc,q⟩:=h;obtain⟨t,rfl⟩:=b;obtain⟨t',rfl⟩:=c;show a i j t t' s _ _ hc ⟨.int (g i j),H,I.tok _,⟨_,rfl⟩,q⟩
theorem qgy{g:Int->Int->Int}
  (a:∀(i j:Int) (t u:Tok) (s:Shared) (Q:Value->Shared->Prop) (E:Value->Shared->Prop),Q (.int (g i j) s.toks) { s with toks:=s.toks+1 }->wpAny (model X.prog X.w) X.A (f (.int i t) (.int j u)) Q E s) :
  OpR X f (rI0 λi j=>.int (g i j)):=by
 intro pins s σ H x y v u Q I b c h;obtain⟨i,j,rfl,rfl,q⟩:=h;obtain⟨t,rfl⟩:=b;obtain⟨t',rfl⟩:=c;show a i j t t' s _ _ ⟨.int (g i j),H,I.tok _,⟨_,rfl⟩,q⟩
theorem qgF{g:Int->Int->Bool}
  (a:∀(i j:Int) (t u:Tok) (s:Shared) (Q:Value->Shared->Prop) (E:Value->Shared->Prop),Q (.bool (g i j)) s->wpAny (model X.prog X.w) X.A (f (.int i t) (.int j u)) Q E s) :
  OpR X f (rI0 λi j=>.bl (g i j)):=by
 intro pins s σ H x y v u Q I b c h;obtain⟨i,j,rfl,rfl,q⟩:=h;obtain⟨t,rfl⟩:=b;obtain⟨t',rfl⟩:=c;show a i j t t' s _ _ ⟨.bl (g i j),H,I,rfl,q⟩
def CDiv(i j:Int):Prop:=0<j/\j<1073741824
def qgX(i j:Int):Prop:=0<=j/\j<=1000000/\i.natAbs<2 ^ 64
def CMul(i j:Int):Prop:=(-(2 ^ 64)<i/\i<2 ^ 64)\/(-(2 ^ 64)<j/\j<2 ^ 64)
theorem CMul.ok{i j:Int}(h:CMul i j):IntMulOk i j:=by
 rcases h with⟨h1,a⟩ | ⟨h1,a⟩
 .show .of_left (intBits_le_64 h1 a)
 .show .of_right (intBits_le_64 h1 a)
theorem two_pow_nn(k:Nat):(0:Int)<=2 ^ k:=by
 rw[two_pow_cast];show Int.natCast_nonneg _
theorem op_add:OpR X (binaryOp .Add) (rI0 λi j=>.int (i+j)):=qgy λ_ _ _ _ _ _ _ q=>add_int q
theorem qbi:OpR X (binaryOp .Sub) (rI0 λi j=>.int (i-j)):=qgy λ_ _ _ _ _ _ _ q=>sub_int q
theorem op_mul:OpR X (binaryOp .Mult) (rI CMul λi j=>.int (i*j)):=opI λ_ _ _ _ _ _ _ hc q=>mul_int q hc.ok
theorem qei:OpR X (binaryOp .FloorDiv) (rI CDiv λi j=>.int (i / j)):=opI λi j _ _ _ _ _ hc q=>by
 have h1:(0:Int)<j:=hc.1;have a:j<1073741824:=hc.2;show floordiv_int (by lk) (by rw[Int.fdiv_eq_ediv_of_nonneg i (by lk)];show q) (.inl (PyProof.noPylong_small (by lk)))
theorem zw:OpR X (binaryOp .Mod) (rI (λ_ j=>0<j) λi j=>.int (i % j)):=opI λi j _ _ _ _ _ hc q=>by
 have h1:(0:Int)<j:=hc;show mod_int' (by lk) (by rw[Int.fmod_eq_emod_of_nonneg i (by lk)];show q)
theorem op_pow:OpR X (binaryOp .Pow) (rI qgX λi j=>.int (i ^ j.toNat)):=opI λ_ _ _ _ _ _ _ hc q=>pow_int_small hc.1 hc.2.1 hc.2.2 q
theorem zJ:OpR X (binaryOp .LShift) (rI qgX λi j=>.int (i*2 ^ j.toNat)):=opI λ_ _ _ _ _ _ _ hc q=>lshift_int_small hc.1 hc.2.1 hc.2.2 q
theorem qbH:OpR X (binaryOp .RShift) (rI (λ_ j=>0<=j) λi j=>.int (i / 2 ^ j.toNat)):=opI λi j _ _ _ _ _ hc q =>
 rshift_int hc (by rw[Int.fdiv_eq_ediv_of_nonneg i (two_pow_nn _)];show q)
theorem zm:OpR X (binaryOp .BitAnd) (rI0 λi j=>.int (Builtin.bitAnd i j)):=qgy λ_ _ _ _ _ _ _ q=>and_int q
theorem qe6:OpR X (binaryOp .BitOr) (rI0 λi j=>.int (Builtin.bitOr i j)):=qgy λ_ _ _ _ _ _ _ q=>or_int q
theorem unI{f:Value->Sem Value}{g:Int->Int}
  (a:∀(i:Int) (t:Tok) (s:Shared) (Q:Value->Shared->Prop) (E:Value->Shared->Prop),Q (.int (g i) s.toks) { s with toks:=s.toks+1 }->wpAny (model X.prog X.w) X.A (f (.int i t)) Q E s) :
  UnR X f (rU λi=>.int (g i)):=by
 intro pins s σ H x v Q I b h;obtain⟨i,rfl,q⟩:=h;obtain⟨t,rfl⟩:=b;show a i t s _ _ ⟨.int (g i),H,I.tok _,⟨_,rfl⟩,q⟩
theorem qbI:UnR X (unaryOp .USub) (rU λi=>.int (-i)):=unI λ_ _ _ _ _ q=>neg_int q
theorem qb6:UnR X (unaryOp .Invert) (rU λi=>.int (Builtin.bitNot i)):=unI λ_ _ _ _ _ q=>invert_int q
end
def scal:V->V->Bool
 | .non,.non=>true | .non,.int _=>true | .int _,.non=>true | .non,.bl _=>true | .bl _,.non=>true | .non,.str _=>true | .str _,.non=>true
 | .int _,.int _=>true | .bl _,.bl _=>true | .str _,.str _=>true | .byt _,.byt _=>true
 | .int _,.str _=>true | .str _,.int _=>true | .bl _,.str _=>true | .str _,.bl _=>true
 | _,_=>false
def rEq:R2:=λx y H Q=>scal x y=true/\Q (.bl (decide (x=y))) H
theorem dec_bl{i j:Bool}:decide (V.bl i=V.bl j)=(i==j):=by
 rw[Y9];simp
section
variable{X:Cx}{a b c:Expr}{ta tb tc:TE}{pos:Pos}
theorem qdx{Q:VK}{k k':Bool}(I:Inv X pins σ H s)(q:Q (.bl k) H)(e:k=k'):EP X pins σ Q (.bool k') s:=by
 subst e;show⟨.bl k,H,I,rfl,q⟩
theorem qfI:OpR X (compareOp .Lt) (rI0 λi j=>.bl (decide (i<j))):=qgF λ_ _ _ _ _ _ _ q=>lt_int q
theorem op_le:OpR X (compareOp .LtE) (rI0 λi j=>.bl (decide (i<=j))):=qgF λ_ _ _ _ _ _ _ q=>le_int q
theorem qej:OpR X (compareOp .Gt) (rI0 λi j=>.bl (decide (j<i))):=qgF λ_ _ _ _ _ _ _ q=>gt_int q
theorem op_isN:OpR X (compareOp .Is) (λx y H Q=>y=.non/\Q (.bl (decide (x=.non))) H):=by
 intro pins s σ H x y v u Q I a b h;obtain⟨rfl,q⟩:=h;cases b;show is_none_gen (qdx I q ?_);cases x<;>first
  | (cases a;rfl)
  | (obtain⟨t,rfl⟩:=a;rfl)
theorem qa1:OpR X (compareOp .IsNot) (λx y H Q=>y=.non/\Q (.bl (!decide (x=.non))) H):=by
 intro pins s σ H x y v u Q I a b h;obtain⟨rfl,q⟩:=h;cases b;show isnot_none_gen (qdx I q ?_);cases x<;>first
  | (cases a;rfl)
  | (obtain⟨t,rfl⟩:=a;rfl)
theorem qy(b:Expr)(h:op≠.In:=by decide)(d:op≠.NotIn:=by decide):behindInMarks op b=false:=by
 have a:(op==CmpOp.In)=false:=by cases op<;>first | rfl | show absurd rfl h
 have c:(op==CmpOp.NotIn)=false:=by cases op<;>first | rfl | show absurd rfl d
 cases b<;>simp[behindInMarks,a,c]
theorem za(g:OpR X (compareOp op) r)(e:PE X a ta)(hb:PE X b tb)(f:behindInMarks op b=false):PE X (.Compare a [op] [b] pos) (tOp r ta tb):=by
 intro pins s σ H Q I h;show wpAny_Compare1 (qgE e hb I h λv u l x y c d i j q=>g pins l σ c x y v u Q d i j q) f
def qfJ(t:TE):TT:=fun σ H Q=>t σ H λx H'=>∃ k,x=.bl k/\Q k H'
theorem qj(o:OpR X (compareOp op) r)(m:PE X a ta)(hb:PE X b tb)(n:behindInMarks op b=false):PT X (.Compare a [op] [b] pos) (qfJ (tOp r ta tb)):=by
 intro pins s σ H Q I h
 show wpAny_isTrue_Compare1 (thn (m pins s σ H _ I h) λv C ⟨x,d,i,w,p⟩=>thn (hb pins C σ d _ i p) λu D ⟨y,f,j,A,q⟩ =>
  thn (o pins D σ f x y v u _ j w A q) λc E ⟨z,g,l,B,k,e,t⟩=>?_) n
 subst e;cases B;show xV ⟨g,l,t⟩
def qek(r r':R2)(ta tb tc:TE):TE:=fun σ H Q=>ta σ H λx b=>tb σ b λy c=>r x y c λz a=>∃ k,z=.bl k /\
 (if k=true then tc σ a λe d=>r' y e d Q else Q (.bl false) a)
theorem qdy(B:OpR X (compareOp op) r)(f:OpR X (compareOp op') r')(w:PE X a ta)(hb:PE X b tb)(hc:PE X c tc)
  (A:lastMarks [op,op'] [b,c]=false:=by with_unfolding_all rfl):PE X (.Compare a [op,op'] [b,c] pos) (qek r r' ta tb tc):=by
 intro pins s σ H Q I h
 show Compare_chain (thn (w pins s σ H _ I h) λv K ⟨x,m,p,F,C⟩=>chain_link (thn (hb pins K σ m _ p C) λu L ⟨y,n,q,l,D⟩ =>
  thn (B pins L σ n x y v u _ q F l D) λd M ⟨z,g,i,G,k,e,j⟩=>?_)) A
 subst e;cases G;show xV ?_
 cases k with
 | false=>show ite_ff ⟨.bl false,g,i,rfl,j⟩
 | true=>show ite_tt (chain_last (thn (hc pins M σ g _ i j) λO N ⟨P,o,t,J,E⟩=>f pins N σ o y P u O Q t l J E))
theorem qdz(F:OpR X (compareOp op) r)(f:OpR X (compareOp op') r')(D:PE X a ta)(hb:PE X b tb)(hc:PE X c tc)
  (E:lastMarks [op,op'] [b,c]=false:=by with_unfolding_all rfl):PT X (.Compare a [op,op'] [b,c] pos) (qfJ (qek r r' ta tb tc)):=by
 intro pins s σ H Q I h
 show isTrue_chain (thn (D pins s σ H _ I h) λv S ⟨x,m,q,N,J⟩=>test_link (thn (hb pins S σ m _ q J) λu T ⟨y,n,t,l,K⟩ =>
  thn (F pins T σ n x y v u _ t N l K) λd U ⟨z,g,i,O,k,e,j⟩=>?_)) E
 subst e;cases O;show xV ?_
 cases k with
 | false =>
  obtain⟨k',B,G⟩:=j;cases B;show ite_ff ⟨g,i,G⟩
 | true =>
  show ite_tt (test_last (thn (hc pins U σ g _ i j) λY W ⟨Z,o,w,P,L⟩=>thn (f pins W σ o y Z u Y _ w l P L) λd' s5 ⟨z2,p,A,R,k2,C,M⟩=>?_));subst C;cases R;show xV ⟨p,A,M⟩
theorem qb7:(sizeLine:Nat)<2 ^ 63:=by rw[YT];decide
theorem op_add_str:OpR X (binaryOp .Add) (λx y H Q=>∃ i j,x=.str i/\y=.str j/\i.length+j.length<=sizeLine/\Q (.str (i++j)) H):=by
 intro pins s σ H x y v u Q I b c h;obtain⟨i,j,rfl,rfl,a,q⟩:=h;obtain⟨t,rfl⟩:=b;obtain⟨t',rfl⟩:=c;show add_str (λt' tk=>⟨.str (i++j),H,I.tok _,⟨_,rfl⟩,q⟩) a
theorem qa2{x:V}(r:Vals [x] us):∃ u,us=[u]/\RelV x u:=by
 cases r with
 | cons r1 r2=>cases r2;show⟨_,rfl,r1⟩
theorem qe7{x:V}(r:Vals [x,y] us):∃ u a,us=[u,a]/\RelV x u/\RelV y a:=by
 cases r with
 | cons r1 r2 =>
  cases r2 with
  | cons r3 r4=>cases r4;show⟨_,_,rfl,r1,r3⟩
theorem qbJ(hc:X.calm=true):zI X (.builtin "max") (λxs H Q=>∃ i j,xs=[.int i,.int j]/\Q (.int (if j>i then j else i)) H):=by
 intro pins s σ H xs us Q I r h;obtain⟨i,j,rfl,q⟩:=h;obtain⟨u,b,rfl,⟨t,rfl⟩,⟨t',rfl⟩⟩:=qe7 r;show max_two_ints (I.ok.hd hc) λh' tk k=>⟨_,H,I.kept k,?_,q⟩;by_cases a:j>i
 .rw [yG a,yG a];show⟨_,rfl⟩
 .rw [yF a,yF a];show⟨_,rfl⟩
theorem qbK:zI X (.type "int") (λxs H Q=>(∃ i,xs=[.int i]/\Q (.int i) H)\/∃ k,xs=[.bl k]/\Q (.int (if k then 1 else 0)) H):=by
 intro pins s σ H xs us Q I r h;rcases h with⟨i,rfl,q⟩ | ⟨k,rfl,q⟩
 .obtain⟨u,rfl,t,rfl⟩:=qa2 r;show call_int_int ⟨.int i,H,I,⟨_,rfl⟩,q⟩
 .obtain⟨u,rfl,a⟩:=qa2 r;cases a;show call_int_bool ⟨.int (if k then 1 else 0),H,I.tok _,⟨_,rfl⟩,q⟩
end
structure ObjM(h:Heap)(x dx C:Addr)(mA:Str->Option Value):Prop where
 obj:h.get? x=some (PySem.W.instObj C dx)
 ns:h.Ns1 dx mA
 ne:dx≠x
theorem qcE(n:h.Ns1 dx mA):∃ od,h.get? dx=some od/\∀ name,PySem.W.lookIn name od=some (mA name):=by
 obtain⟨o,es,ep,i,d,f,_,g⟩:=n;show⟨o,i,λname=>?_⟩;have e:=g name;unfold nsFind findBy at e;rw[<- Array.find?_toList] at e;unfold PySem.W.lookIn;rw[d];dsimp only;split
 .rename_i y q
  rw[q] at e;show congrArg some e
 .rename_i q
  rw[q] at e
  have a:es.toList.any (·.refKey)=false:=by
   rw[List.any_eq_false];intro y j;obtain⟨z,t,b⟩:=f y (Array.mem_toList_iff.mp j);simp[DictEntry.refKey,b]
  have c:¬ es.toList.any (·.refKey)=true:=by rw[a];show Yq
  rw[yF c];show congrArg some e
theorem ObjM.look{x:Addr}(I:ObjM h x dx C mA):∃ od,PySem.W.InstAt h x (PySem.W.instObj C dx) C (some od)/\∀ name,PySem.W.lookIn name od=some (mA name):=
 let ⟨od,ho,hl⟩:=qcE I.ns
 ⟨od,⟨I.obj,rfl,rfl,ho⟩,hl⟩
section
variable{prog:Program}{w:World}{A:Around}{E:Value->Shared->Prop}{s:Shared}{K:yg}{x dx C f:Addr}{mA:Str->Option Value}{name:Str}{v:Value}
theorem get_map{a:Bool}{Q:Value->Shared->Prop}(X:K.In s.heap)(I:ObjM s.heap x dx C mA)(d:PySem.W.plainGet K C name=true)(e:PySem.W.hasDictIn K C=true)
  (c:PySem.W.findIn K (.ref C) name=some none) (hv:mA name=some v) (b:PySem.W.handedIn v=true) (h:Q v { s with toks:=s.toks+1 }) :
  wpAny (model prog w) A (getAttr (.ref x) name a) Q E s:=by
 obtain⟨od,J,hl⟩:=I.look;show PySem.W.get_value X J (kA d).1 (PySem.W.findObj_own e c rfl (by rw[hl,hv])) b h
theorem get_meth{pl:Sem Bool}{Q:Value×List Value->Shared->Prop}(X:K.In s.heap)(I:ObjM s.heap x dx C mA)(a:PySem.W.plainGet K C name=true)
  (b:PySem.W.findIn K (.ref C) name=some (some (.ref f))) (c:PySem.W.isFn K (.ref f)=true) (hv:mA name=none) (h:Q (.ref f,[.ref x]) s) :
  wpAny (model prog w) A (getMethod (.ref x) name pl) Q E s:=by
 obtain⟨od,J,hl⟩:=I.look;show PySem.W.method_fn X J (kA a).1 (kA a).2 b (Yl.mp c) (by show(PySem.W.lookIn name od).map (·.isSome)=some false;rw[hl,hv];rfl) h
theorem set_map{ns:LS}{Q:Unit->Shared->Prop}(X:K.In s.heap)(I:ObjM s.heap x dx C mA)
  (o:PySem.W.findIn K (.ref C) "__setattr__"=some (some (.builtin "object.__setattr__"))) (n:PySem.W.plainOver K C=true) (p:PySem.W.takerIn K C name=some none) (m:PySem.W.hasDictIn K C=true)
  (hw:PySem.Within mA ns) (hsz:ns.length<=sizeLine)
  (h:∀ h',ObjM h' x dx C (λy=>if y=name then some v else mA y)->Heap.SameBut dx s.heap h'->Q () { s with heap:=h',toks:=s.toks+2 }) :
  wpAny (model prog w) A (setAttr (.ref x) name v) Q E s:=by
 obtain⟨od,J,hl⟩:=I.look;show PySem.W.set_plain X J o (PySem.W.osa_open (s:={ s with toks:=s.toks+1 }) (r:=none) X J n p λb=>?_);obtain⟨t,hc,f⟩:=x0 m;have q:s.heap.get? x=some ⟨.ref C,some dx,.plain,#[]⟩:=I.obj;show yt (yz (yt (yt (wpAny_loadPart q (yt (PySem.W.Looks.here (s:={ s with toks:=s.toks+1 }) (kB X hc) ?_))))));rw[f];show yz (a:=some dx) (yt (yz (yt ?_)));show wpAny_nsSet1 (s:={ s with toks:=s.toks+1 }) I.ns λh' c d=>?_;obtain⟨u,l,j,i,g,e⟩:=c.count (PySem.Within.cons name v hw);show yt (wpAny_lookBehind i (by rw[g];show pastItsLine_dict (yi e (by rw[yB];lk))) ?_);show yz (h _ ⟨(d.2 _ (Yh I.ne)).trans I.obj,c,I.ne⟩ d)
theorem qdA{R:Result->Shared->Prop}{vs:List Value}(X:K.In s.heap)(c:PySem.W.makesIn K C=true)
  (b:PySem.W.findIn K (.ref C) "__init__"=some (some (.ref f))) (a:PySem.W.typeIn K (.ref f)=some (.type "function"))
  (h:codeAny (model prog w) (A.under (.builtin "type.__call__" ⟨.ref C::vs,kw⟩)) (.call (.ref f) ⟨.ref (s.heap.objs.size+1)::vs,kw⟩) (PySem.W.InitBack (s.heap.objs.size+1) R)
   { s with heap:=(s.heap.push PySem.W.emptyDict).push (PySem.W.instObj C s.heap.objs.size) }) :
  codeAny (model prog w) A (.call (.ref C) ⟨vs,kw⟩) R s:=by
 obtain⟨e,g,d,t,i⟩:=s;show PySem.W.make_core (PySem.W.makes_of X c) (YU X b) (λself=>PySem.W.bind_fn X self a) (.inl rfl) h
end
def qG(f:Str)(v:V):List (Str×V)->List (Str×V)
 | []=>[(f,v)]
 | (g,x)::r=>if g=f then(g,v)::r else(g,x)::qG f v r
theorem qD(f g:Str)(v:V):∀ fs:List (Str×V),(qG f v fs).lookup g=if g=f then some v else fs.lookup g
 | []=>by
  show List.lookup g [(f,v)]=_;by_cases h:g=f
  .have hb:(g==f)=true:=Yl.mpr h;simp only[List.lookup,hb,yG h]
  .have hb:(g==f)=false:=YB.mpr h;simp only[List.lookup,hb,yF h]
 | (k,x)::r=>by
  have b:=qD f g v r;rw[show qG f v ((k,x)::r)=(if k=f then(k,v)::r else(k,x)::qG f v r) from rfl];by_cases a:k=f
  .rw [yG a];by_cases h:g=k
   .have hb:(g==k)=true:=Yl.mpr h;simp only[List.lookup,hb,yG (h.trans a)]
   .have hb:(g==k)=false:=YB.mpr h;simp only[List.lookup,hb,yF (λe:g=f=>h (e.trans a.symm))]
  .rw [yF a];by_cases h:g=k
   .have hb:(g==k)=true:=Yl.mpr h;simp only[List.lookup,hb,yF (λe:g=f=>a (h.symm.trans e))]
   .have hb:(g==k)=false:=YB.mpr h;simp only[List.lookup,hb];show b
theorem qbL(f:Str)(v:V):∀ fs:List (Str×V),f∈(qG f v fs).map (·.1)/\∀ g,g∈fs.map (·.1)->g∈(qG f v fs).map (·.1)
 | []=>⟨by simp[qG],λg h=>by simp at h⟩
 | (k,x)::r=>by
  obtain⟨b,c⟩:=qbL f v r;rw[show qG f v ((k,x)::r)=(if k=f then(k,v)::r else(k,x)::qG f v r) from rfl];by_cases a:k=f
  .rw [yG a];subst a;show⟨by simp,λg h=>by simpa using h⟩
  .rw [yF a];show⟨?_,λg h=>?_⟩
   .rw [YJ];show yE _ b
   .rw [YJ] at h ⊢;rcases yv.mp h with e | e
    .show yv.mpr (.inl e)
    .show yE _ (c g e)
theorem jE(f:Str)(v:V):∀ fs:List (Str×V),(qG f v fs).length<=fs.length+1
 | []=>by simp[qG]
 | (k,x)::r=>by
  have b:=jE f v r;rw[show qG f v ((k,x)::r)=(if k=f then(k,v)::r else(k,x)::qG f v r) from rfl];by_cases a:k=f
  .rw [yG a,yB,yB];lk
  .rw [yF a,yB,yB];lk
theorem RelO.some_of{o:Option Value}(r:RelO (some v) o):∃ u,o=some u/\RelV v u:=by
 cases o with
 | none=>show(show False from r).elim
 | some u=>show⟨u,rfl,r⟩
theorem RelO.none_of{o:Option Value}(r:RelO none o):o=none:=by
 cases o with
 | none=>rfl
 | some u=>show(show False from r).elim
theorem qcF(r:RelV v u):PySem.W.handedIn u=true:=by
 cases v with
 | non=>cases (show u=Value.none from r);rfl
 | bl b=>cases (show u=Value.bool b from r);rfl
 | int i=>obtain⟨t,e⟩:=(show ∃ t,u=Value.int i t from r);cases e;rfl
 | str x=>obtain⟨t,e⟩:=(show ∃ t,u=Value.str x t from r);cases e;rfl
 | byt b=>obtain⟨t,e⟩:=(show ∃ t,u=Value.bytes b t from r);cases e;rfl
 | flt b=>obtain⟨t,e⟩:=(show ∃ t,u=Value.float b t from r);cases e;rfl
 | ref a=>cases (show u=Value.ref a from r);rfl
 | ty n=>cases (show u=Value.type n from r);rfl
section
variable{P:Program}{w:World}{H H':Hp}{h h':Heap}{a C dx:Addr}{fs fs':List (Str×V)}
theorem qa3(b:HOk P w H h)(e:H a=some (.ins C dx fs)):∃ mA,ObjM h a dx C mA/\(∀ f,RelO (fs.lookup f) (mA f))/\PySem.Within mA (fs.map (·.1))/\fs.length<=1000/\H dx=some (.own a):=by
 obtain⟨d,z,ne,c,mA,n,r,q⟩:=(show ObjOk P w H h a (.ins C dx fs) from b a _ e);show⟨mA,⟨c,n,ne⟩,r,q,z,d⟩
end
structure Cls(K:yg)(C:Addr):Prop where
 pg:PySem.W.plainGet K C Str.empty=true
 hd:PySem.W.hasDictIn K C=true
 po:PySem.W.plainOver K C=true
 sa:PySem.W.findIn K (.ref C) "__setattr__"=some (some (.builtin "object.__setattr__"))
theorem Cls.get{K:yg}(c:Cls K C)(f:Str):PySem.W.plainGet K C f=true:=c.pg
def NoAttr(K:yg)(C:Addr)(f:Str):Prop:=PySem.W.findIn K (.ref C) f=some none
theorem NoAttr.taker{K:yg}{f:Str}(n:NoAttr K C f):PySem.W.takerIn K C f=some none:=by
 unfold PySem.W.takerIn;rw[show PySem.W.findIn K (.ref C) f=some none from n];rfl
structure Con(K:yg)(C:Addr)(f:Str)(v:V)(u:Value):Prop where
 at_:PySem.W.findIn K (.ref C) f=some (some u)
 rel:RelV v u
 get:PySem.W.specialIn K u "__get__"=some none
 cp:PySem.W.copiedNames.contains f=false
structure Meth(K:yg)(C:Addr)(m:Str)(f:Addr):Prop where
 at_:PySem.W.findIn K (.ref C) m=some (some (.ref f))
 fn:PySem.W.isFn K (.ref f)=true
 kp:PySem.W.keepIn K (.ref f)=true
section
variable{X:Cx}{pins:List (Addr×Obj)}{σ:St}{H:Hp}{s:Shared}{a C dx:Addr}{fs:List (Str×V)}{f:Str}{v:V}{A:Around}{E:Value->Shared->Prop}
theorem getattr_ok{b:Bool}{Q:Value->Shared->Prop}(I:Inv X pins σ H s)(e:H a=some (.ins C dx fs))(c:Cls X.K C)(n:NoAttr X.K C f)(l:fs.lookup f=some v)
  (h:∀ u s',Inv X pins σ H s'->RelV v u->Q u s'):wpAny (model X.prog X.w) A (getAttr (.ref a) f b) Q E s:=by
 obtain⟨mA,O,r,_,_,_⟩:=qa3 I.hok e;obtain⟨u,g,d⟩:=RelO.some_of (v:=v) (o:=mA f) (by rw[<- l];show r f);show get_map I.kIn O (c.get f) c.hd n g (qcF d) (h u _ (I.tok _) d)
theorem qa4{m:Str}{g:Addr}{pl:Sem Bool}{Q:Value×List Value->Shared->Prop}(I:Inv X pins σ H s)(e:H a=some (.ins C dx fs))(c:Cls X.K C)(k:Meth X.K C m g)(l:fs.lookup m=none)
  (h:Q (.ref g,[.ref a]) s):wpAny (model X.prog X.w) A (getMethod (.ref a) m pl) Q E s:=by
 obtain⟨mA,O,r,_,_,_⟩:=qa3 I.hok e;have b:mA m=none:=RelO.none_of (by rw[<- l];show r m);show get_meth I.kIn O (c.get m) k.at_ k.fn b h
theorem setattr_ok{Q:Unit->Shared->Prop}(I:Inv X pins σ H s)(e:H a=some (.ins C dx fs))(c:Cls X.K C)(n:NoAttr X.K C f)(hl:fs.length<1000)(t:RelV y u)
  (h:∀ s',Inv X pins σ (upd H a (.ins C dx (qG f y fs))) s'->Q () s'):wpAny (model X.prog X.w) A (setAttr (.ref a) f u) Q E s:=by
 obtain⟨mA,O,r,j,_,i⟩:=qa3 I.hok e;have p:(fs.map (·.1)).length<=sizeLine:=by rw[ya,YT];lk
 show set_map I.kIn O c.sa c.po n.taker c.hd j p λh' d v=>h _ ?_;have l:∃ o,h'.get? dx=some o:=let ⟨o,_,_,e',_⟩:=d.ns;⟨o,e'⟩;show I.write (x:=a) (e:=dx) (by rw[e];show YV) (.inr i) (λb q hb z=>(v.2 b hb).trans z) l ?_;show⟨by rw[qg O.ne];show i,?_,O.ne,d.obj,_,d.ns,λg=>?_,λg m=>?_⟩
 .have:=jE f y fs;lk
 .show RelO ((qG f y fs).lookup g) (if g=f then some u else mA g);rw[qD];by_cases q:g=f
  .rw [yG q,yG q];show t
  .rw [yF q,yF q];show r g
 .by_cases q:g=f
  .rw [q];show(qbL f y fs).1
  .show(qbL f y fs).2 g (j g λz=>m ?_);show(if g=f then some u else mA g)=none;rw[yF q];show z
theorem Inv.made(I:Inv X pins σ H s):Inv X pins σ (upd (upd H s.heap.objs.size (.own (s.heap.objs.size+1))) (s.heap.objs.size+1) (.ins C s.heap.objs.size []))
  { s with heap:=(s.heap.push PySem.W.emptyDict).push (PySem.W.instObj C s.heap.objs.size) }:=by
 have c:(s.heap.push PySem.W.emptyDict).get? s.heap.objs.size=some PySem.W.emptyDict:=Yd s.heap rfl
 have f:((s.heap.push PySem.W.emptyDict).push (PySem.W.instObj C s.heap.objs.size)).get? (s.heap.objs.size+1)=some (PySem.W.instObj C s.heap.objs.size):=by
  have:=Yd (s.heap.push PySem.W.emptyDict) (o:=PySem.W.instObj C s.heap.objs.size) rfl
  rwa[YW] at this
 have g:(s.heap.push PySem.W.emptyDict).Ns s.heap.objs.size (λ_=>none):=⟨PySem.W.emptyDict,#[],_,c,rfl,(λe h=>absurd h (by simp)),λ_=>rfl⟩;have d:=I.laid (a:=s.heap.objs.size) (o:=.own (s.heap.objs.size+1)) (h':=s.heap.push PySem.W.emptyDict) (t':=s.toks) (λb u q=>yy _ q) (yh _) ⟨_,c⟩;show d.laid (a:=s.heap.objs.size+1) (o:=.ins C s.heap.objs.size []) (t':=s.toks) (λb u q=>yy _ q) (XT (YW _ _)) ?_;have ne:s.heap.objs.size≠s.heap.objs.size+1:=Yi (Xx _);show⟨by rw[qg ne,qb],Yy _,ne,f,λ_=>none,(Heap.Ns1.of_empty g).at λo q=>yy _ q,λ_=>YV,λy i=>absurd rfl i⟩
theorem attr_of{prog:Program}{env:Env}{f:Str}{Q:Value->Shared->Prop}(hb:attributeBase e f env (eval e env)=eval e env)
  (h:wpAny (model prog w) A (eval e env) (λo a=>wpAny (model prog w) A (getAttr o f true) Q E a) E s):wpAny (model prog w) A (eval (.Attribute e f pos) env) Q E s:=
 Attribute_any_ h (by rw[arm_eval_Attribute,hb])
end
section
variable{X:Cx}{o e value:Expr}{f:Str}{pos pos' tpos:Pos}{ta tv:TE}
end
section
variable{X:Cx}{pins:List (Addr×Obj)}{σ:St}{H:Hp}{s:Shared}{A:Around}{E:Value->Shared->Prop}{Q:Value->Shared->Prop}{c:Value}{b:Bool}
inductive TyOf(K:yg)(H:Hp):V->Value->Prop where
 | non:TyOf K H .non (.type "NoneType")
 | bl (x:Bool):TyOf K H (.bl x) (.type "bool")
 | int (i:Int):TyOf K H (.int i) (.type "int")
 | str (x:Str):TyOf K H (.str x) (.type "str")
 | flt (x:UInt64):TyOf K H (.flt x) (.type "float")
 | lst {a:Addr} {xs:List V} (e:H a=some (.lst xs)):TyOf K H (.ref a) (.type "list")
 | frz {a:Addr} {o:Obj} {xs:List V} (e:H a=some (.frz o (.lst xs))):TyOf K H (.ref a) (.type "list")
 | tup {a:Addr} {xs:List V} (e:H a=some (.tup xs)):TyOf K H (.ref a) (.type "tuple")
 | dK {a:Addr} {kvs:List (Key×V)} (e:H a=some (.dK kvs)):TyOf K H (.ref a) (.type "dict")
 | dT {a:Addr} {kvs:List (List Key×V)} (e:H a=some (.dT kvs)):TyOf K H (.ref a) (.type "dict")
 | ins {a C dx:Addr} {fs:List (Str×V)} (e:H a=some (.ins C dx fs)) (cl:Cls K C) (ha:PySem.W.findIn K (.ref C) "__class__"=some (some (.builtin "object.__class__")))
   (hn:PySem.W.specialIn K (.builtin "object.__class__") "__get__"=some (some (.builtin "getset_descriptor.__get__"))) (htk:PySem.W.takesIn K (.builtin "object.__class__")=some true)
   (hm:PySem.W.mroIn K C (.type "object")=some true):TyOf K H (.ref a) (.ref C)
end
structure Room(k:Nat)(A:Around):Prop where
 hd:A.handled=none
 dp:A.depth+3*k+5<recursionLimit
 un:A.units+16*k+200<cLine
 gd:A.guards=some []
theorem Room.mono{k:Nat}(r:Room k A)(h:j<=k):Room j A:=⟨r.hd,by have:=r.dp;lk,by have:=r.un;lk,r.gd⟩
theorem Room.deeper{k:Nat}(r:Room (k+1) A)(env:Env):Room k (A.deeper env):=
 ⟨r.hd,by have:=r.dp;show A.depth+1+3*k+5<_;lk,by have:=r.un;show A.units+3+16*k+200<_;lk,r.gd⟩
theorem make_depth:(A.under (.builtin "type.__call__" ⟨.ref C::us,kw⟩)).depth=A.depth+1:=by
 first | rfl | simp[Around.under,Code.weight,Code.isCreation,Code.isGuard,Code.isCaller,Code.frames,Code.isFrame,guardIds]
theorem make_units:(A.under (.builtin "type.__call__" ⟨.ref C::us,kw⟩)).units=A.units+1:=by
 first | rfl | simp[Around.under,Code.cUnits,Code.frames,Code.isFrame]
theorem make_guards:(A.under (.builtin "type.__call__" ⟨.ref C::us,kw⟩)).guards=A.guards:=by
 first | rfl | simp[Around.under,Code.guards,Code.isGuard,guardIds,pushGuards]
theorem Room.make{k:Nat}(r:Room (k+1) A)(C:Addr)(us:List Value)(kw:List (Str×Value)):Room k (A.under (.builtin "type.__call__" ⟨.ref C::us,kw⟩)):=
 ⟨r.hd,by have:=r.dp;rw[make_depth];lk,by have:=r.un;rw[make_units];lk,by rw[make_guards];show r.gd⟩
theorem Room.depth{k:Nat}(r:Room k A):A.depth<recursionLimit:=by have:=r.dp;lk
def qf7:TA:=λ_ H Q=>Q [] H
def qe8(ta:TE)(c:TA):TA:=fun σ H Q=>ta σ H λx a=>c σ a λxs b=>Q (x::xs) b
section
variable{X:Cx}{e:Expr}{es:List Expr}{te:TE}{t:TA}{pos:Pos}
theorem qd:PA X [] qf7:=λ_ _ _ _ H Q I h=>Calls.spliced_nil ⟨[],H,I,.nil,h⟩
theorem qa(f:PE X e te)(g:PA X es t)(i:starEach (e::es) X.env=(false,eval e X.env)::starEach es X.env:=by rfl):PA X (e::es) (qe8 te t):=by
 intro pos pins s σ H Q I h;rw[i];show wpAny _ _ (spliced ((false,eval e X.env)::backTo pos (starEach es X.env))) _ _ s;show Calls.spliced_cons (thn (f pins s σ H _ I h) λu o ⟨x,a,c,m,j⟩=>?_);show thn (g pos pins o σ a _ c j) λus p ⟨xs,b,d,n,l⟩=>⟨x::xs,b,d,.cons m n,l⟩
inductive NewT(xs:List V)(H:Hp)(Q:VK):Prop|mk (_:xs.length<=sizeLine) (_:∀ p,H p=none->Q (.ref p) (upd H p (.tup xs)))
inductive NewL(xs:List V)(H:Hp)(Q:VK):Prop|mk (_:xs.length<=sizeLine) (_:∀ p,H p=none->Q (.ref p) (upd H p (.lst xs)))
def qgG(t:TA):TE:=fun σ H Q=>t σ H λxs a=>NewT xs a Q
def qgY(t:TA):TE:=fun σ H Q=>t σ H λxs a=>NewL xs a Q
theorem jm{x1}(h:PA X es t):PE X (.Tuple es x1 pos) (qgG t):=by
 intro pins s σ H Q I g;show wpAny_Tuple_spliced (thn (h pos pins s σ H _ I g) λus a ⟨xs,c,d,r,z,q⟩=>⟨by rw[<- r.length];show z,?_⟩);have f:c a.heap.objs.size=none:=d.hok.fresh (yh _);show⟨.ref a.heap.objs.size,upd c a.heap.objs.size (.tup xs),d.laid (t':=a.toks) (λb u e=>yy _ e) (yh _) ?_,rfl,q _ f⟩;show⟨z,us,r,⟨_,Yd _ rfl,rfl,_,rfl⟩⟩
theorem qB(h:PA X es t):PE X (.List es pos) (qgY t):=by
 intro pins s σ H Q I g;show wpAny_List_spliced (thn (h pos pins s σ H _ I g) λus a ⟨xs,c,d,r,z,q⟩=>⟨by rw[<- r.length];show z,?_⟩);have f:c a.heap.objs.size=none:=d.hok.fresh (yh _);show⟨.ref a.heap.objs.size,upd c a.heap.objs.size (.lst xs),d.laid (t':=a.toks) (λb u e=>yy _ e) (yh _) ?_,rfl,q _ f⟩;show⟨z,us,0,r,Yd _ rfl⟩
end
abbrev Sp:=List V->Hp->VK->XK->Prop
abbrev CXT:=List Env->Hp->Shared->XK->Value->Shared->Prop
structure Env0(P:Program)(w:World)(K:yg)(mg:Str->Option Value)(base:Heap)(A:Around)(outer:List Env)(s:Shared)(H:Hp):Prop where
 frames:A.frames=some outer
 mod:Mod K mg base
 bs:∀ b o,base.get? b=some o->s.heap.get? b=some o/\H b=none
 bsz:base.objs.size<=s.heap.objs.size
 funs:s.heap.FunFrames base outer
 frf:∀ b∈frs outer,H b=none
 hok:HOk P w H s.heap
 bare:AllBare s.gens
def CE(outer:List Env)(P:Program)(w:World)(H:Hp)(s:Shared)(Q:VK)(u:Value)(s':Shared):Prop:=
 ∃ v H',s'.os=s.os/\AllBare s'.gens/\Un (frs outer) [] H H' s.heap s'.heap/\HOk P w H' s'.heap/\RelV v u/\Q v H'
def CR(CX:CXT)(outer:List Env)(P:Program)(w:World)(H:Hp)(s:Shared)(Q:VK)(E:XK)(r:Result)(s':Shared):Prop:=
 match r with
 | .ok (.ret u)=>CE outer P w H s Q u s'
 | .ok _=>False
 | .error e=>CX outer H s E e s'
structure FnOk(P:Program)(w:World)(K:yg)(mg:Str->Option Value)(base:Heap)(CX:CXT)(k:Nat)(f:Addr)(fd:FuncData)(ps:LS)(sp:Sp):Prop where
 len:∀ vs H Q E,sp vs H Q E->vs.length=ps.length
 run:∀(A:Around) (outer:List Env) (s:Shared) (H:Hp) (args:Args) (us:List Value) (vs:List V) (Q:VK) (E:XK),Room k A->Env0 P w K mg base A outer s H->BindsTo s fd args (ps.zip us)->Vals vs us->sp vs H Q E ->
  codeAny (model P w) A (.call (.ref f) args) (CR CX outer P w H s Q E) s
theorem Env0.make{K:yg}(e:Env0 P w K mg base A outer s H)(C:Addr)(us:List Value)(kw:List (Str×Value)) :
  Env0 P w K mg base (A.under (.builtin "type.__call__" ⟨.ref C::us,kw⟩)) outer s H:=⟨by first | show e.frames | (simpa [Around.under,Code.envs,Code.isFrame,pushEnvs] using e.frames),e.mod,e.bs,e.bsz,e.funs,e.frf,e.hok,e.bare⟩
section
variable{X:Cx}{pins:List (Addr×Obj)}{σ:St}{H:Hp}{s s':Shared}
theorem Inv.env0(I:Inv X pins σ H s):Env0 X.prog X.w X.K X.mg X.base X.A X.stack s H:=
 ⟨I.ok.frames,I.ok.mod,I.bs,yi I.ok.bsz I.sz,I.stack,I.stkFree,I.hok,I.bare⟩
theorem Inv.after{Q:VK}(I:Inv X pins σ H s)(h:CE X.stack X.prog X.w H s Q u s'):EP X pins σ Q u s':=by
 obtain⟨v,H',i,a,un,c,r,q⟩:=h;obtain⟨f,g,d,t,e⟩:=s';obtain rfl:e=s.os:=i;show⟨v,H',I.call (h':=f) (g':=g) (d':=d) (t':=t) (ch:=[]) un c a (λb z=>absurd z (by simp)),r,q⟩
end
def qel(sp:Sp)(a:List V)(E:XK)(t:TA):TE:=fun σ H Q=>t σ H λvs b=>sp (vs++a) b Q E
inductive MeR(C:Addr)(m:Str)(x:V)(H:Hp)(k:Prop):Prop|mk (a dx:Addr) (fs:List (Str×V)) (_:x=.ref a) (_:H a=some (.ins C dx fs)) (_:fs.lookup m=none) (_:k)
def qem(C:Addr)(m:Str)(sp:Sp)(a:List V)(E:XK)(ta:TE)(t:TA):TE:=fun σ H Q=>ta σ H λx b=>MeR C m x b (t σ b λvs c=>sp (x::(vs++a)) c Q E)
def qfK(C:Addr)(sp:Sp)(b:List V)(E:XK)(t:TA):TE:=fun σ H Q=>t σ H λvs a=>∀ x dx,a x=none->a dx=none->dx≠x ->
 sp (.ref x::(vs++b)) (upd (upd a dx (.own x)) x (.ins C dx [])) (λv c=>v=.non/\Q (.ref x) c) E
def Binds(K:yg)(b:FuncData)(ps:LS)(a:List Value):Prop:=
 ∀(s:Shared) (us:List Value),K.In s.heap->(us++a).length=ps.length->BindsTo s b ⟨us,[]⟩ (ps.zip (us++a))
theorem Binds.all{K:yg}{a:FuncData}(h:∀ us:List Value,us.length=ps.length->bindArgs a ⟨us,[]⟩=pure (ps.zip us)):Binds K a ps []:=λs us _ hl=>by
 rw[Ys] at hl ⊢;show .of_eq (h us hl)
def qab(CX:CXT)(X:Cx)(E:XK):Prop:=∀(pins:List (Addr×Obj)) (σ:St) (H:Hp) (s:Shared) (e:Value) (s':Shared),Inv X pins σ H s->CX X.stack H s E e s'->X.xe e s'
section
variable{X:Cx}{CX:CXT}{k:Nat}{f C:Addr}{fd:FuncData}{ps:LS}{sp:Sp}{dvs:List V}{ds:List Value}{E:XK}{x m:Str}{p pos apos:Pos}{e o:Expr}{es:List Expr}{ta:TE}{t:TA}
theorem qdB{Q:VK}(F:FnOk X.prog X.w X.K X.mg X.base CX k f fd ps sp)(d:Room k X.A)(hb:Binds X.K fd ps ds)(c:Vals dvs ds)(g:qab CX X E)
  (I:Inv X pins σ H s) (r:Vals vs us) (h:sp (vs++dvs) H Q E):wpAny (model X.prog X.w) X.A (call (.ref f) us) (EP X pins σ Q) X.xe s:=by
 have b:Vals (vs++dvs) (us++ds):=r.append c;have hl:(us++ds).length=ps.length:=by rw[<- b.length];show F.len _ _ _ _ h
 show xJ (xH (F.run X.A X.stack s H ⟨us,[]⟩ (us++ds) (vs++dvs) Q E d I.env0 (hb s us I.kIn hl) b h) λr s' a=>?_)
 cases r with
 | error e=>show g pins σ H s e s' I a
 | ok fl =>
  cases fl with
  | ret u=>show I.after a
  | next=>show False.elim a
  | brk=>show False.elim a
  | cont=>show False.elim a
theorem pe_call(F:FnOk X.prog X.w X.K X.mg X.base CX k f fd ps sp)(n:Room k X.A)(j:Gl X x)(m:X.mg x=some (.ref f))(l:PySem.W.keepIn X.K (.ref f)=true)(hb:Binds X.K fd ps ds)(g:Vals dvs ds)(o:qab CX X E)
  (d:PA X (e::es) t) (a:(x==("__debug__":Str))=false:=by decide) (i:starEach (e::es) X.env=(false,eval e X.env)::starEach es X.env:=by rfl) (b:(backTo pos (starEach es X.env)).any (·.1)=false:=by rfl) :
  PE X (.Call (.Name x p) (e::es) [] pos) (qel sp dvs E t):=by
 intro pins s σ H Q I h;show xt (zQ I j m ?_ a);show xi (h₀:=X.base) I.ok.mod.kin l (thn (d pos pins s σ H _ I h) λus v ⟨vs,u,c,r,q⟩=>⟨c.kIn,?_⟩) i b;show qdB F n hb g o c r q
theorem pe_meth{pl:Sem Bool}(z:PE X o ta)(c:Cls X.K C)(j:Meth X.K C m f)(F:FnOk X.prog X.w X.K X.mg X.base CX k f fd ps sp)(B:Room k X.A)(hb:Binds X.K fd ps ds)(y:Vals dvs ds)(G:qab CX X E)(v:PA X (e::es) t)
  (d:starEach (e::es) X.env=(false,eval e X.env)::starEach es X.env:=by rfl) (b:(backTo pos (starEach es X.env)).any (·.1)=false:=by rfl)
  (D:eval (.Call (.Attribute o m apos) (e::es) [] pos) X.env=(do
   let ov <- eval o X.env
   standAt apos.atName
   let (f,first) <- holding [ov] (getMethod ov m pl)
   callWith pos f first (backTo pos (starEach (e::es) X.env)) (backToKw pos (keywordEach [] X.env))):=by rfl) :
  PE X (.Call (.Attribute o m apos) (e::es) [] pos) (qem C m sp dvs E ta t):=by
 intro pins s σ H Q I h;show xN (pl:=pl) (thn (z pins s σ H _ I h) λu M ⟨x,n,g,L,a,dx,fs,ex,p,l,q⟩=>?_) D;subst ex;obtain rfl:u=Value.ref a:=L;show qa4 g p c j l ?_;show xi (first:=[.ref a]) (h₀:=X.base) I.ok.mod.kin j.kp (thn (v pos pins M σ n _ g q) λus O ⟨vs,N,i,r,J⟩=>⟨i.kIn,?_⟩) d b;show qdB (us:=.ref a::us) (vs:=.ref a::vs) F B hb y G i (.cons rfl r) J
theorem pe_meth0{pl:Sem Bool}(i:PE X o ta)(c:Cls X.K C)(d:Meth X.K C m f)(F:FnOk X.prog X.w X.K X.mg X.base CX k f fd ps sp)(j:Room k X.A)(hb:Binds X.K fd ps ds)(g:Vals dvs ds)(p:qab CX X E)
  (n:eval (.Call (.Attribute o m apos) [] [] pos) X.env=(do
   let ov <- eval o X.env
   standAt apos.atName
   let (f,first) <- holding [ov] (getMethod ov m pl)
   callWith pos f first (backTo pos (starEach [] X.env)) (backToKw pos (keywordEach [] X.env))):=by rfl) :
  PE X (.Call (.Attribute o m apos) [] [] pos) (qem C m sp dvs E ta qf7):=by
 intro pins s σ H Q I h;show xN (pl:=pl) (thn (i pins s σ H _ I h) λu v ⟨x,t,b,r,a,dx,fs,ex,e,l,q⟩=>?_) n;subst ex;obtain rfl:u=Value.ref a:=r;show qa4 b e c d l ?_;show PySem.W.callWith_K0 (first:=[.ref a]) b.kIn d.kp (qdB (us:=[.ref a]) (vs:=[.ref a]) F j hb g p b (.cons rfl .nil) q)
structure Mk(K:yg)(C f:Addr):Prop where
 makes:PySem.W.makesIn K C=true
 init:PySem.W.findIn K (.ref C) "__init__"=some (some (.ref f))
 fn:PySem.W.isFn K (.ref f)=true
 kp:PySem.W.keepIn K (.ref C)=true
theorem run_make{Q:VK}(M:Mk X.K C f)(F:FnOk X.prog X.w X.K X.mg X.base CX k f fd ps sp)(m:Room (k+1) X.A)(hb:Binds X.K fd ps ds)(l:Vals dvs ds)
  (n:qab CX X E) (I:Inv X pins σ H s) (r:Vals vs us)
  (h:∀ x dx,H x=none->H dx=none->dx≠x->sp (.ref x::(vs++dvs)) (upd (upd H dx (.own x)) x (.ins C dx [])) (λv g=>v=.non/\Q (.ref x) g) E) :
  wpAny (model X.prog X.w) X.A (call (.ref C) us) (EP X pins σ Q) X.xe s:=by
 have c:=h (s.heap.objs.size+1) s.heap.objs.size (I.hok.fresh (Xf _)) (I.hok.fresh (yh _)) (Yi (Xx _));have b:=Inv.made (C:=C) I;have d:Vals (V.ref (s.heap.objs.size+1)::(vs++dvs)) (Value.ref (s.heap.objs.size+1)::(us++ds)):=.cons rfl (r.append l)
 have hl:(Value.ref (s.heap.objs.size+1)::us++ds).length=ps.length:=by
  have e:=d.length;rw[F.len _ _ _ _ c] at e;show e.symm
 show xJ (qdA (f:=f) I.kIn M.makes M.init (Yl.mp M.fn) (xH (F.run _ X.stack _ _ ⟨Value.ref (s.heap.objs.size+1)::us,[]⟩ (Value.ref (s.heap.objs.size+1)::(us++ds)) _ _ E (m.make C us [])
  (b.env0.make C us []) (hb _ (Value.ref (s.heap.objs.size+1)::us) b.kIn hl) d c) λr s' a=>?_))
 cases r with
 | error e=>show n pins σ _ _ e s' b a
 | ok fl =>
  cases fl with
  | ret u =>
   obtain⟨v,H',i,p,j,o⟩:=b.after a;subst j;show⟨p,⟨V.ref (s.heap.objs.size+1),H',i,rfl,o⟩⟩
  | next=>show False.elim a
  | brk=>show False.elim a
  | cont=>show False.elim a
theorem pe_make(M:Mk X.K C f)(F:FnOk X.prog X.w X.K X.mg X.base CX k f fd ps sp)(m:Room (k+1) X.A)(j:Gl X x)(l:X.mg x=some (.ref C))(hb:Binds X.K fd ps ds)(g:Vals dvs ds)(n:qab CX X E)
  (d:PA X (e::es) t) (a:(x==("__debug__":Str))=false:=by decide) (i:starEach (e::es) X.env=(false,eval e X.env)::starEach es X.env:=by rfl) (b:(backTo pos (starEach es X.env)).any (·.1)=false:=by rfl) :
  PE X (.Call (.Name x p) (e::es) [] pos) (qfK C sp dvs E t):=by
 intro pins s σ H Q I h;show xt (zQ I j l ?_ a);show xi (h₀:=X.base) I.ok.mod.kin M.kp (thn (d pos pins s σ H _ I h) λus u ⟨vs,o,c,r,q⟩=>⟨c.kIn,?_⟩) i b;show run_make M F m hb g n c r q
end
section
variable{X:Cx}{CX:CXT}{k:Nat}{f C:Addr}{fd:FuncData}{ps ks:LS}{sp:Sp}{E:XK}{x m:Str}{p pos apos kpos:Pos}{e o:Expr}{es:List Expr}{kws:List Keyword}{te ta:TE}{t tk:TA}{nm:Option Str}
structure KBinds(K:yg)(fd:FuncData)(ps ks:LS)(g:List Value->List Value->List Value)(gV:List V->List V->List V):Prop where
 to:∀(s:Shared) (us ws:List Value),K.In s.heap->(g us ws).length=ps.length->BindsTo s fd ⟨us,ks.zip ws⟩ (ps.zip (g us ws))
 rel:∀{vs:List V} {us:List Value} {zs:List V} {ws:List Value},Vals vs us->Vals zs ws->Vals (gV vs zs) (g us ws)
variable{g:List Value->List Value->List Value}{gV:List V->List V->List V}
end
structure FnScope(N P:LS)(sc:Scope):Prop where
 kind:sc.kind=.function
 co:sc.isCoroutine=false
 gen:sc.isGenerator=false
 nd:N.Nodup
 pre:N.take P.length=P
 par:∀ x∈P,sc.names.lookup x=some .local\/sc.names.lookup x=some .cell
 nofree:∀ y∈sc.names,y.2≠.free
theorem fS{P:LS}(a:sc.kind=.function:=by rfl)(b:sc.isCoroutine=false:=by rfl)(c:sc.isGenerator=false:=by rfl)(d:N.Nodup:=by room)(e:N.take P.length=P:=by rfl)(f:∀ x∈P,sc.names.lookup x=some .local\/sc.names.lookup x=some .cell:=by room)(g:∀ y∈sc.names,y.2≠.free:=by room):FnScope N P sc:=⟨a,b,c,d,e,f,g⟩
theorem qcG:∀{binds:List (Str×Value)} {m:Str->Option Value},(∀ v,(x,v)∉binds)->bindL kindOf binds m x=m x
 | [],_,_=>rfl
 | (n,v)::r,m,h=>by
  unfold bindL;rw[qcG λw hw=>h w (yE _ hw)];split
  .have:x≠n:=by rintro rfl;show h v yL
   simp[this]
  .rfl
theorem qcH:∀{binds:List (Str×Value)} {m:Str->Option Value},(∀ v,(x,v)∉binds)->bindC kindOf binds m x=m x
 | [],_,_=>rfl
 | (n,v)::r,m,h=>by
  unfold bindC;rw[qcH λw hw=>h w (yE _ hw)];split
  .rfl
  .have:x≠n:=by rintro rfl;show h v yL
   simp[this]
theorem qcI{v:Value}:∀{P:LS} {vs:List Value} {i:Nat} {m:Str->Option Value},P.Nodup->P[i]?=some x->vs[i]?=some v->kindOf x=some .local ->
  bindL kindOf (P.zip vs) m x=some v
 | [],_,_,_,_,h,_,_=>by simp at h
 | _::_,[],_,_,_,_,h,_=>by simp at h
 | p::P,w::vs,0,m,nd,h1,h2,hk=>by
  simp at h1 h2;subst h1;subst h2;show bindL kindOf ((p,w)::P.zip vs) m p=_;unfold bindL;rw[qcG λv hv=>(yp.mp nd).1 (Ke hv).1,yG hk];simp
 | p::P,w::vs,i+1,m,nd,h1,h2,hk=>by
  show bindL kindOf ((p,w)::P.zip vs) m x=_;unfold bindL;show qcI (i:=i) (yp.mp nd).2 (by simpa using h1) (by simpa using h2) hk
theorem qcJ{v:Value}:∀{P:LS} {vs:List Value} {i:Nat} {m:Str->Option Value},P.Nodup->P[i]?=some x->vs[i]?=some v->kindOf x≠some .local ->
  bindC kindOf (P.zip vs) m x=some v
 | [],_,_,_,_,h,_,_=>by simp at h
 | _::_,[],_,_,_,_,h,_=>by simp at h
 | p::P,w::vs,0,m,nd,h1,h2,hk=>by
  simp at h1 h2;subst h1;subst h2;show bindC kindOf ((p,w)::P.zip vs) m p=_;unfold bindC;rw[qcH λv hv=>(yp.mp nd).1 (Ke hv).1,yF hk];simp
 | p::P,w::vs,i+1,m,nd,h1,h2,hk=>by
  show bindC kindOf ((p,w)::P.zip vs) m x=_;unfold bindC;show qcJ (i:=i) (yp.mp nd).2 (by simpa using h1) (by simpa using h2) hk
def start(N:LS)(vs:List V):St:=vs.map some++List.replicate (N.length-vs.length) none
def qfh(CX:CXT)(P:Program)(w:World)(K:yg)(mg:Str->Option Value)(base:Heap)(N:LS)(qual:Str)(scope:Scope)(f:Addr)(b:Value)(A:Around)(outer:List Env)(s:Shared)(H:Hp)(E:XK):Cx where
 prog:=P
 w:=w
 K:=K
 mg:=mg
 base:=base
 A:=A.deeper (envOfC qual scope s.heap.objs.size f b)
 N:=N
 s₀:=s
 H₀:=H
 env:=envOfC qual scope s.heap.objs.size f b
 outer:=outer
 stack:=envOfC qual scope s.heap.objs.size f b::outer
 ex:=[]
 calm:=true
 fn:=λ_=>true
 pn:=[]
 xe:=λe s'=>wpAny (model P w) (A.deeper (envOfC qual scope s.heap.objs.size f b)) (leaving (envOfC qual scope s.heap.objs.size f b) e) (λ_ a=>CX outer H s E e a) (λc a=>CX outer H s E c a) s'
theorem qdC(h:sc.names.lookup x=some .cell):∃ c,(cellsFrom n sc.names []).lookup x=some c:=by
 have q:=PySem.W.cellsFrom_some sc.names n [] (.inl h);show Y7.mp q
theorem inv_start{K:yg}{f:Addr}{o:Value}{D:Shared}{E:XK}
  (S:FnScope N ps scope) (G:A.handled=none) (g:Env0 P w K mg base A outer s H) (hl:vs.length=ps.length) (r:Vals vs us)
  (x:InCallC s s.heap.objs.size (bindL (envOfC qual scope s.heap.objs.size f o).kindOf (ps.zip us) λ_=>none) (cellsFrom (s.heap.objs.size+1) scope.names []) (bindC (envOfC qual scope s.heap.objs.size f o).kindOf (ps.zip us) λ_=>none) D) :
  Inv (qfh CX P w K mg base N qual scope f o A outer s H E) [] (start N vs) H D:=by
 have I:ps.length<=N.length:=by have:=congrArg List.length S.pre;rw[yU] at this;lk
 obtain⟨h1,tk,rfl,B⟩:=x.done;have j:∀ b:Addr,b∉(qfh CX P w K mg base N qual scope f o A outer s H E).ex:=λb z=>absurd (show b∈([]:LX) from z) (by simp);show⟨⟨g.mod,S.kind,rfl,rfl,yh _,λy z c h1 d=>?_,λy hy=>?_,λy c _ h=>?_,λ_=>G,Around.frames_deeper g.frames,.inr ⟨rfl,rfl⟩,λb z=>absurd z (j b),g.bs,g.bsz,λb _ _=>j b,λb z=>absurd z (j b),g.funs,g.frf⟩,
  rfl,g.bare,Un.kept B,⟨_,x.toInCall.ns,λi y v h1 d L=>?_⟩,λy c h=>⟨_,x.cell y c h⟩,g.hok.fresh (yh _),λy c h=>?_,λp l=>absurd (show p∈([]:List (Addr×Obj)) from l) (by simp),g.hok.kept B,?_⟩
 .show name_of_addr x.apart (xZ h1) (xZ d)
 .have hy:scope.names.lookup y=some .cell\/scope.names.lookup y=some .free:=hy;rcases hy with hy | hy
  .show qdC hy
  .show absurd rfl (S.nofree _ (xZ hy))
 .show yS (x.above y c (xZ h))
 .have t:i<vs.length:=by
   unfold start at d;by_cases t:i<vs.length
   .show t
   .rw [yH (by simpa using t)] at d;rw[Xa] at d;split at d<;>cases d
  have F:vs[i]?=some v:=by
   unfold start at d;rw[yX (by simpa using t),yd] at d
   cases e:vs[i]? with
   | none=>rw[e] at d;cases d
   | some a=>rw[e] at d;cases d;rfl
  obtain⟨u,C,J⟩:=r.get F
  have l:ps[i]?=some y:=by
   rw[<- S.pre,List.getElem?_take_of_lt (by lk)];show h1
  have m:ps.Nodup:=by rw[<- S.pre];show S.nd.sublist (kL _ _)
  show⟨u,J,?_⟩;rcases S.par y (ye l) with k | k
  .show .inl ⟨k,qcI m l C k⟩
  .obtain⟨c,e⟩:=qdC (n:=s.heap.objs.size+1) k;show .inr ⟨.inl k,c,e,?_⟩;have q:=x.cell y c e;rw[qcJ m l C (by show scope.names.lookup y≠_;rw[k];decide)] at q;show q
 .show g.hok.fresh (yS (x.above y c (xZ h)))
 .unfold start;show _=N.length;rw[yu,ya,xq];lk
theorem qf8{K:yg}{k:Nat}{f:Addr}{name:Str}{c:Arguments}{M kV j O a ct oc:Value}{L od:Option Addr}
  {D:Array (Option Value)} {sp:Sp} (lk:K.lookup f=some ⟨oc,od,.func (PySem.W.fnOf name qual c body scope M kV j O L a ct),D⟩) (z:PySem.W.codeIn K a qual=true) (S:FnScope N ps scope)
  (len:∀ vs H Q E,sp vs H Q E->vs.length=ps.length)
  (g:∀(A:Around) (outer:List Env) (s:Shared) (H:Hp) (vs:List V) (Q:VK) (E:XK),Room k (A.deeper (envOfC qual scope s.heap.objs.size f a))->sp vs H Q E ->
   ∃ t,PSs (qfh CX P w K mg base N qual scope f a A outer s H E) body t/\t { nx:=λ_ H'=>Q .non H',rt:=Q } (start N vs) H) :
  FnOk P w K mg base CX (k+1) f (PySem.W.fnOf name qual c body scope M kV j O L a ct) ps sp:=by
 show⟨len,λA outer s H args us vs Q E B l hb r p=>?_⟩;have hl:=len _ _ _ _ p;have G:K.In s.heap:=l.mod.kin.keeps λb o e=>(l.bs b o e).1;have C:s.heap.NoLimit:=l.mod.nolimit.keeps λb o e=>(l.bs b o e).1
 have h:∀ y∈ps.zip us,scope.names.lookup y.1=some .local\/(scope.names.lookup y.1=some .cell/\((cellsFrom (s.heap.objs.size+1) scope.names []).lookup y.1).isSome=true):=λ⟨n,v⟩ Z=>by
  rcases S.par n (Ke Z).1 with q | q
  .show .inl q
  .show .inr ⟨q,PySem.W.cellsFrom_some _ _ _ (.inl q)⟩
 show codeAny_call_function B.depth (G _ _ lk) rfl S.co S.gen rfl (PySem.W.codeRec_of G z) (hb _ _ _ _ ?_);show wpAny_newFunctionEnv_cells S.kind h λenv U R x=>?_;subst U;show⟨C.keeps x.toInCall.keep,codeAny_func ?_⟩;obtain⟨t,Y,X⟩:=g A outer s H vs Q E (B.deeper _) p;have I:Inv (qfh CX P w K mg base N qual scope f a A outer s H E) [] (start N vs) H R:=inv_start S B.hd l hl r x;show YC (Y [] R (start N vs) H _ I X) (λT s' i=>?_) λe s' i=>i
 have m:∀{d:St} {H':Hp} {v:V} {u:Value},Inv (qfh CX P w K mg base N qual scope f a A outer s H E) [] d H' s'->RelV v u->Q v H'->CE outer P w H s Q u s':=
  λ{d H' v u} J F q=>⟨v,H',J.os,J.bare,J.base,J.hok,F,q⟩
 cases T with
 | ret u =>
  obtain⟨v,d,H',J,F,q⟩:=i;show m J F q
 | next =>
  obtain⟨d,H',J,q⟩:=i;show m (v:=V.non) (u:=Value.none) J rfl q
 | brk =>
  obtain⟨_,_,_,q⟩:=i;show False.elim q
 | cont =>
  obtain⟨_,_,_,q⟩:=i;show False.elim q
section
variable{X:Cx}{x:Str}{p pos:Pos}{e:Expr}{es:List Expr}{t:TA}{id T:String}{r:List V->Hp->VK->Prop}
def tCB(r:List V->Hp->VK->Prop)(t:TA):TE:=fun σ H Q=>t σ H λvs a=>r vs a Q
theorem qr(hc:zI X (.builtin id) r)(i:Gl X x)(j:X.mg x=none)(hv:bootBuiltins x=some (.builtin id))(f:PA X (e::es) t)(l:x≠"__name__":=by decide)(a:(x==("__debug__":Str))=false:=by decide)
  (g:starEach (e::es) X.env=(false,eval e X.env)::starEach es X.env:=by rfl) (b:(backTo pos (starEach es X.env)).any (·.1)=false:=by rfl):PE X (.Call (.Name x p) (e::es) [] pos) (tCB r t):=by
 intro pins s σ H Q I h;show xt (qbF I i j hv ?_ l a);show PyProof.Rows.callWith_builtin1 (thn (f pos pins s σ H _ I h) λus o ⟨vs,c,d,n,m⟩=>hc pins o σ c vs us Q d n m) g b
theorem qV(hc:zI X (.type T) r)(i:Gl X x)(j:X.mg x=none)(hv:bootBuiltins x=some (.type T))(f:PA X (e::es) t)(l:x≠"__name__":=by decide)(a:(x==("__debug__":Str))=false:=by decide)
  (g:starEach (e::es) X.env=(false,eval e X.env)::starEach es X.env:=by rfl) (b:(backTo pos (starEach es X.env)).any (·.1)=false:=by rfl):PE X (.Call (.Name x p) (e::es) [] pos) (tCB r t):=by
 intro pins s σ H Q I h;show xt (qbF I i j hv ?_ l a);show xG (thn (f pos pins s σ H _ I h) λus o ⟨vs,c,d,n,m⟩=>hc pins o σ c vs us Q d n m) g b
end
end L2
namespace HT
open PySem PyProof.Rows
variable{hi lo:Option Int}{sl t:Addr}{vl vu:Value}
def lexLt:LY->LY->Bool
 | [],[]=>false
 | [],_::_=>true
 | _::_,[]=>false
 | x::xs,y::ys=>if x=y then lexLt xs ys else decide (x<y)
section
open PySem.SeqAt
open PySem.AutoSeq1 (wpAny_loadPart')
open PySem.MeetsSeq PySem.MeetsSeq2 PySem.MeetsSeq3
end
section
variable{prog:Program}{w:World}{A:Around}{E:Value->Shared->Prop}{s:Shared}
theorem cat_tup{b:Addr}{vs a:List Value}{Q:Value->Shared->Prop}(r:IsTup s.heap t vs.toArray)(hb:IsTup s.heap b a.toArray)(hv:vs≠[])
  (h1:a=[]->Q (.ref t) s) (q:a≠[]->Q (.ref s.heap.objs.size) { s with heap:=s.heap.push { cls:=.type "tuple",data:=.seq (vs++a).toArray } })
  (hsz:vs.length+a.length<=sizeLine):wpAny (model prog w) A (binaryOp .Add (.ref t) (.ref b)) Q E s:=by
 obtain⟨⟨cls,m,data,sl⟩,i,hc,n,o⟩:=id r;obtain⟨⟨l,d,j,h⟩,c,f,p,g⟩:=id hb;simp only at hc o f g;subst hc o f g;have e:vs.toArray++a.toArray=(vs++a).toArray:=by simp
 by_cases hw:a=[]
 .show concat_meets ⟨_,i,rfl⟩ ⟨_,c,rfl⟩ noFill_tuple_add seq_tuple_add PySem.F.slot_tuple_add PySem.F.entry_tuple_add (PySem.F.args_tuple_add_2 _ _)
   (tuple_addW1 t b vs.toArray a.toArray n p m d sl h (by simpa using hv) (by simp[hw])) ⟨i,c,h1 hw⟩
 .show concat_meets ⟨_,i,rfl⟩ ⟨_,c,rfl⟩ noFill_tuple_add seq_tuple_add PySem.F.slot_tuple_add PySem.F.entry_tuple_add (PySem.F.args_tuple_add_2 _ _)
   (tuple_addW2 t b vs.toArray a.toArray n p m d sl h (by simpa using hv) (by simpa using hw) (by rw[yD,yD];show hsz)) ⟨i,c,?_⟩
  rw[e];show q hw
def sIx(n d:Nat):Option Int->Nat
 | none=>d
 | some v=>if v<0 then(v+(n:Int)).toNat else min v.toNat n
theorem sIx_none(n d:Nat):sIx n d none=d:=rfl
theorem sIx_nat(n d k:Nat):sIx n d (some (k:Int))=min k n:=by
 show(if (k:Int)<0 then((k:Int)+(n:Int)).toNat else min (k:Int).toNat n)=min k n;rw[yF (by lk),yV]
theorem sIx_le(n d:Nat)(a:d<=n)(o:Option Int):sIx n d o<=n:=by
 cases o with
 | none=>show a
 | some v =>
  show(if v<0 then(v+(n:Int)).toNat else min v.toNat n)<=n;by_cases hv:v<0
  .rw [yG hv];lk
  .rw [yF hv];show kh _ _
theorem qen(v:Int)(n d:Nat):(if v<0 then max (v+(n:Int)) 0 else min v (n:Int))=((sIx n d (some v):Nat):Int):=by
 show(if v<0 then max (v+(n:Int)) 0 else min v (n:Int))=(((if v<0 then(v+(n:Int)).toNat else min v.toNat n):Nat):Int);by_cases hv:v<0
 .simp only[yG hv];lk
 .simp only[yF hv];lk
theorem adjust_gen(lo hi:Option Int)(n:Nat):Builtin.Slice.sliceAdjust lo hi 1 (n:Int)=(((sIx n 0 lo:Nat):Int),((sIx n n hi:Nat):Int)):=by
 have h1:¬ ((1:Int)<0):=by lk
 unfold Builtin.Slice.sliceAdjust;simp only[h1,XU];show Xj ?_ ?_
 .cases lo with
  | none=>rfl
  | some v=>show qen v n 0
 .cases hi with
  | none=>rfl
  | some v=>show qen v n n
theorem places_gen(i j:Nat):Builtin.Slice.slicePlaces (i:Int) (j:Int) 1=j-i:=by
 unfold Builtin.Slice.slicePlaces;have h1:(1:Int)>0:=by lk
 simp only[h1,Xy,Int.ediv_one];split<;>lk
theorem qb8{v:Value}{o:Option Int}{Q:Option Int->Shared->Prop}(p:IsPart v o)(h:Q o s):wpAny (model prog w) A (Builtin.Slice.slicePartIndex v) Q E s:=by
 cases p with
 | none=>show slicePart_none h
 | int i t=>show slicePart_int h
theorem sliceApplied_gen{n:Nat}{Q:Int×Int×Nat->Shared->Prop}(d:s.heap.IsSliceOf sl vl vu .none)(pl:IsPart vl lo)(e:IsPart vu hi)
  (h:Q (((sIx n 0 lo:Nat):Int),1,sIx n n hi-sIx n 0 lo) s):wpAny (model prog w) A (Builtin.Slice.sliceApplied (.ref sl) (pure (n:Int))) Q E s:=by
 obtain⟨f,b,c,a⟩:=id d;unfold Builtin.Slice.sliceApplied Builtin.Slice.sliceFields;show yt (yt (XR b a (x:=vl) rfl (yt (XR b a (x:=vu) rfl (yt (XR b a (x:=.none) rfl (yz ?_)))))));show yt (slicePart_none ?_);show wpAny _ _ (if ((1:Int)==0)=true then _ else _) _ _ s;rw[yF (by decide)];show yt (qb8 pl (yt (qb8 e (yt (yz ?_)))));show wpAny _ _ (match Builtin.Slice.sliceAdjust lo hi 1 (n:Int) with | (lo,hi)=>pure (lo,(1:Int),Builtin.Slice.slicePlaces lo hi 1)) _ _ s;rw[adjust_gen lo hi n];show wpAny _ _ (pure (((sIx n 0 lo:Nat):Int),(1:Int),Builtin.Slice.slicePlaces ((sIx n 0 lo:Nat):Int) ((sIx n n hi:Nat):Int) 1)) _ _ s;rw[places_gen];show yz h
theorem pick_gen(xs:Array Value)(i k:Nat):((List.range k).filterMap λ(m:Nat)=>xs[((i:Int)+(m:Int)*1).toNat]?).toArray=((xs.toList.drop i).take k).toArray:=by
 have e:(λ(m:Nat)=>xs[((i:Int)+(m:Int)*1).toNat]?)=λm=>xs[i+m]?:=by
  funext m;have:((i:Int)+(m:Int)*1).toNat=i+m:=by lk
  rw[this]
 rw[e];have:=pick_run xs i k;rw[List.filterMap_map] at this;have a:((λx=>xs[x]?) ∘ λx=>i+x)=λm=>xs[i+m]?:=rfl;rw[a] at this;rw[this]
theorem getItem_tuple_cut{items:Array Value}{Q:Value->Shared->Prop}(b:IsTup s.heap t items)(g:s.heap.IsSliceOf sl vl vu .none)(pl:IsPart vl lo)(l:IsPart vu hi)
  (hw:¬ (sIx items.size 0 lo=0/\sIx items.size items.size hi=items.size))
  (h:Q (.ref s.heap.objs.size) { s with heap:=s.heap.push { cls:=.type "tuple",data:=.seq ((items.toList.drop (sIx items.size 0 lo)).take (sIx items.size items.size hi-sIx items.size 0 lo)).toArray } })
  (hsz:items.size<=sizeLine):wpAny (model prog w) A (getItem (.ref t) (.ref sl)) Q E s:=by
 have a:sizeOk (.seq ((items.toList.drop (sIx items.size 0 lo)).take (sIx items.size items.size hi-sIx items.size 0 lo)).toArray):=by
  show((items.toList.drop (sIx items.size 0 lo)).take (sIx items.size items.size hi-sIx items.size 0 lo)).toArray.size<=sizeLine;rw[yD,yU,YA,Y5];lk
 have n:sIx items.size items.size hi<=items.size:=sIx_le _ _ (yh _) hi;obtain⟨j,f,d,i⟩:=id g;have c:s.TypeIs (.ref sl) "slice":=⟨j,f,d⟩;unfold getItem
 try with_reducible show YG ?_
 first | show yt (yz ?_) | skip
 show yt (wpAny_sequenceKey b.typeIs (by decide) ?_);show yt (wpAny_callSpecial?_slot (name:=Str.ofString "__getitem__") b.typeIs xY
  (wpAny_call_entry xY b.typeIs entry_tuple_getitem ?_ (args_tuple_getitem _ _)))
 show wpAny _ _ (Builtin.Tuple.tupleItemsOf (.ref t)>>=_) _ _ s;show yt (tupleItemsOf_ b ?_);show yt (wpAny_typeOf c ?_);rw[yG (by decide)];show yt (sliceApplied_gen g pl l ?_)
 have e:¬ ((((sIx items.size 0 lo:Nat):Int)==0&&(1:Int)==1&&(sIx items.size items.size hi-sIx items.size 0 lo)==items.size)=true):=by
  intro q;rw[yO,yO] at q;have o:((sIx items.size 0 lo:Nat):Int)=0:=eq_of_beq q.1.1;have p:sIx items.size items.size hi-sIx items.size 0 lo=items.size:=eq_of_beq q.2;show hw ⟨by lk,by lk⟩
 show wpAny _ _ (if (((sIx items.size 0 lo:Nat):Int)==0&&(1:Int)==1&&(sIx items.size items.size hi-sIx items.size 0 lo)==items.size)=true then _ else _) _ _ s;rw[yF e,pick_gen]
 first
  | show yt (m:=Builtin.Tuple.tupleExact _) (xy (yz ⟨_,rfl,yz h⟩) a)
  | show yt (m:=Builtin.Tuple.tupleExact _) (xy (yt (yz (yz ⟨_,rfl,yz h⟩))) a)
  | show yt (yt (m:=Builtin.Tuple.tupleExact _) (xy (yz (yz ⟨_,rfl,yz h⟩)) a))
  | show yt (yt (m:=Builtin.Tuple.tupleExact _) (xy (yz ⟨_,rfl,yz h⟩) a))
end
end HT
namespace L2
open PySem PySem.Spec PyProof.Rows
variable{A:Around}{H H':Hp}{P:Program}{a p:Addr}{h':Heap}{i:Int}{its its' us:List Value}{j n t':Nat}{kvs:List (List Key×V)}{o:Option V}{pins:List (Addr×Obj)}{r:R2}{s:Shared}{u v:Value}{w:World}{x y:V}{xs:List V}{α:Type}{σ:St}
abbrev TO:=St->Hp->(Option Int->Hp->Prop)->Prop
def PO(X:Cx)(e:Option Expr)(t:TO):Prop:=
 ∀(pins:List (Addr×Obj)) (s:Shared) (σ:St) (H:Hp) (Q:Option Int->Hp->Prop),Inv X pins σ H s->t σ H Q ->
  wpAny (model X.prog X.w) X.A (evalPart e X.env) (λu s'=>∃ o H',Inv X pins σ H' s'/\IsPart u o/\Q o H') X.xe s
def qeo:TO:=λ_ H Q=>Q none H
def qf9(t:TE):TO:=fun σ H Q=>t σ H λx a=>∃ i,x=.int i/\Q (some i) a
section
variable{X:Cx}{e:Expr}{te:TE}{lo hi:Option Expr}{tl th:TO}{pos p2:Pos}
theorem jw:PO X none qeo:=by
 intro pins s σ H Q I h;rw[evalPart_none];show yz ⟨none,H,I,.none,h⟩
theorem jk(h:PE X e te):PO X (some e) (qf9 te):=by
 intro pins s σ H Q I hw;rw[evalPart_some];show thn (h pins s σ H _ I hw) λu f ⟨x,a,b,d,c⟩=>?_;obtain⟨i,rfl,q⟩:=c;obtain⟨t,rfl⟩:=d;show⟨some i,a,b,.int i t,q⟩
def SlR(X:Cx)(r:V->Option Int->Option Int->Hp->VK->Prop):Prop:=
 ∀(pins:List (Addr×Obj)) (s:Shared) (σ:St) (H:Hp) (x:V) (v b c:Value) (lo hi:Option Int) (a:Addr) (Q:VK),Inv X pins σ H s->RelV x v->s.heap.IsSliceOf a b c .none->IsPart b lo->IsPart c hi->r x lo hi H Q ->
  ∃ T id,typeLookup (.type T) "__getitem__"=pure (some (.builtin id))/\s.TypeIs v T/\wpAny (model X.prog X.w) X.A (getItem v (.ref a)) (EP X pins σ Q) X.xe s
def tSl(r:V->Option Int->Option Int->Hp->VK->Prop)(te:TE)(tl th:TO):TE:=fun σ H Q=>te σ H λx a=>tl σ a λl b=>th σ b λu c=>r x l u c Q
theorem qZ{r:V->Option Int->Option Int->Hp->VK->Prop}(z:SlR X r)(t:PE X e te)(hl:PO X lo tl)(C:PO X hi th):PE X (.Subscript e (.Slice lo hi none p2) pos) (tSl r te tl th):=by
 intro pins s σ H Q I h;show Subscript_ (thn (t pins s σ H _ I h) λv K ⟨x,g,j,J,E⟩=>?_);show wpAny_Slice (thn (hl pins K σ g _ j E) λc L ⟨l,i,m,pl,F⟩=>thn (C pins L σ i _ m F) λd a ⟨u,f,n,D,G⟩=>?_);rw[evalPart_none];show yz ?_;have o:Inv X pins σ f { a with heap:=a.heap.push { cls:=.type "slice",data:=.fields #[c,d,.none] } }:=n.kept (t':=a.toks) λb M q=>yy _ q;obtain⟨T,id,p,B,y⟩:=z pins { a with heap:=a.heap.push { cls:=.type "slice",data:=.fields #[c,d,.none] } } σ f x v c d l u a.heap.objs.size Q o J (Heap.IsSliceOf.new ..) pl D G;show wpAny (model X.prog X.w) X.A (subscriptTail e (.Slice lo hi none p2) v (.ref a.heap.objs.size)) (EP X pins σ Q) X.xe { a with heap:=a.heap.push { cls:=.type "slice",data:=.fields #[c,d,.none] } };show tail_any (ops:=[.ref a.heap.objs.size,v]) B p y (by with_unfolding_all rfl)
def qb9(xs:List V)(lo hi:Option Int):List V:=(xs.drop (HT.sIx xs.length 0 lo)).take (HT.sIx xs.length xs.length hi-HT.sIx xs.length 0 lo)
theorem qbM(xs:List V)(lo hi:Option Int):(qb9 xs lo hi).length<=xs.length:=by
 unfold qb9;rw[yU,YA];lk
inductive rSlT(K:yg)(x:V)(lo:Option Int)(hi:Option Int)(H:Hp)(Q:VK):Prop|mk (a xs:_) (_:x=.ref a) (_:SqT K H a xs) (_:¬ (HT.sIx xs.length 0 lo=0/\HT.sIx xs.length xs.length hi=xs.length)) (_:∀ p,H p=none->Q (.ref p) (upd H p (.tup (qb9 xs lo hi))))
theorem sl_tup:SlR X (rSlT X.K):=by
 intro pins s σ H x v n p lo hi m Q I j f pl i h;obtain⟨a,xs,rfl,g,hw,q⟩:=h;cases j;obtain⟨its,r,d,e⟩:=I.tuple g;have c:its.toArray.size=xs.length:=by rw[yD];show r.length.symm
 show⟨"tuple",_,xY.lookup,d.typeIs,?_⟩;show HT.getItem_tuple_cut d f pl i (by rw[c];show hw) ?_ (by rw[c];show e);rw[c];show⟨.ref s.heap.objs.size,_,I.laid (t':=s.toks) (o:=.tup (qb9 xs lo hi)) (λb l q=>yy _ q) (yh _) ?_,rfl,q _ (I.hok.fresh (yh _))⟩;show⟨yi (qbM xs lo hi) e,_,(r.drop (HT.sIx xs.length 0 lo)).take (HT.sIx xs.length xs.length hi-HT.sIx xs.length 0 lo),IsTup.new _ _⟩
inductive rLtT(K:yg)(x:V)(y:V)(H:Hp)(Q:VK):Prop|mk (a b ns ms:_) (_:x=.ref a) (_:y=.ref b) (_:SqT K H a (ns.map V.int)) (_:SqT K H b (ms.map V.int)) (_:Q (.bl (HT.lexLt ns ms)) H)
inductive rCatT(K:yg)(x:V)(y:V)(H:Hp)(Q:VK):Prop|mk (a b xs ys:_) (_:x=.ref a) (_:y=.ref b) (_:SqT K H a xs) (_:SqT K H b ys) (_:xs≠[]) (_:xs.length+ys.length<=sizeLine) (_:(ys=[]->Q (.ref a) H)) (_:(ys≠[]->∀ p,H p=none->Q (.ref p) (upd H p (.tup (xs++ys)))))
theorem Vals.nil_iff(r:Vals xs us):us=[]↔xs=[]:=by
 cases r with
 | nil=>simp
 | cons _ _=>simp
theorem op_catT:OpR X (binaryOp .Add) (rCatT X.K):=by
 intro pins s σ H x y v u Q I n p h;obtain⟨a,b,xs,r,rfl,rfl,g,hb,i,e,l,m⟩:=h;cases n;cases p;obtain⟨its,d,j,_⟩:=I.tuple g;obtain⟨f,c,p2,_⟩:=I.tuple hb;show HT.cat_tup j p2 (λz=>i (d.nil_iff.mp z)) (λz=>⟨.ref a,H,I,rfl,l (c.nil_iff.mp z)⟩) (λz=>?_) (by rw[<- d.length,<- c.length];show e);show⟨.ref s.heap.objs.size,_,I.laid (t':=s.toks) (o:=.tup (xs++r)) (λb t q=>yy _ q) (yh _) ?_,rfl,m (λw=>z (c.nil_iff.mpr w)) _ (I.hok.fresh (yh _))⟩;show⟨by rw[yu];show e,_,d.append c,IsTup.new _ _⟩
end
def ixN(n:Nat)(i:Int):Option Nat:=if 0<=i then(if i<n then some i.toNat else none) else if -(n:Int)<=i then some (i+n).toNat else none
def atI{α:Type}(xs:List α)(i:Int):Option α:=(ixN xs.length i).bind λj=>xs[j]?
theorem qep(h:ixN n i=some j):seqIndex? i n=some j/\j<n/\-(n:Int)<=i/\i<n:=by
 unfold ixN at h;by_cases a:0<=i
 .rw [yG a] at h;by_cases h1:i<n
  .rw [yG h1] at h;have e:i.toNat=j:=yn h;show⟨by rw[seqIndex_of a h1,e],by lk,by lk,h1⟩
  .rw [yF h1] at h;cases h
 .rw [yF a] at h;by_cases h1:-(n:Int)<=i
  .rw [yG h1] at h;have e:(i+n).toNat=j:=yn h;show⟨by rw[seqIndex_neg (by lk) h1,e],by lk,h1,by lk⟩
  .rw [yF h1] at h;cases h
theorem qdc{xs:List α}{v:α}(h:atI xs i=some v):∃ j,seqIndex? i xs.length=some j/\xs[j]?=some v/\j<xs.length/\-(xs.length:Int)<=i/\i<xs.length:=by
 unfold atI at h
 cases e:ixN xs.length i with
 | none=>rw[e] at h;cases h
 | some j =>
  rw[e] at h;obtain⟨h1,a,b,c⟩:=qep e;show⟨j,h1,h,a,b,c⟩
theorem qk{xs:List α}{v:α}(h:xs[j]?=some v):atI xs (j:Int)=some v:=by
 have a:j<xs.length:=(yc.mp h).1
 have e:ixN xs.length (j:Int)=some j:=by
  unfold ixN;rw[yG (by lk),yG (by lk)];simp
 unfold atI;rw[e];show h
theorem atI_last(xs:List α)(v:α):atI (xs++[v]) (-1)=some v:=by
 have hl:(xs++[v]).length=xs.length+1:=by simp
 have e:ixN (xs++[v]).length (-1)=some xs.length:=by
  unfold ixN;rw[hl,yF (by decide),yG (by lk)]
  congr 1
  lk
 unfold atI;rw[e];show(xs++[v])[xs.length]?=some v;simp
def PlainIx(b:Expr):Prop:=∀ o i,subscripted b false o i=operate [o,i] (getItem o i)
def IxR(X:Cx)(r:R2):Prop:=
 ∀(b a:Expr) (pins:List (Addr×Obj)) (s:Shared) (σ:St) (H:Hp) (x y:V) (v u:Value) (Q:VK),Inv X pins σ H s->RelV x v->RelV y u->r x y H Q ->
  subscripted a false v u=operate [v,u] (getItem v u)->wpAny (model X.prog X.w) X.A (subscriptTail b a v u) (EP X pins σ Q) X.xe s
def MtR(X:Cx)(id:String)(r:V->List V->Hp->VK->Prop):Prop:=
 ∀(pins:List (Addr×Obj)) (s:Shared) (σ:St) (H:Hp) (x:V) (xs:List V) (v:Value) (us:List Value) (Q:VK),Inv X pins σ H s->RelV x v->Vals xs us->r x xs H Q ->
  wpAny (model X.prog X.w) X.A (call (.builtin id) (v::us)) (EP X pins σ Q) X.xe s
section
variable{X:Cx}{a b:Expr}{ta tb:TE}{pos:Pos}
theorem IxR.or{d:R2}(h:IxR X r)(h':IxR X d):IxR X (λx y H Q=>r x y H Q\/d x y H Q):=by
 intro b a pins s σ H x y v u Q I e f q c;rcases q with q | q
 .show h b a pins s σ H x y v u Q I e f q c
 .show h' b a pins s σ H x y v u Q I e f q c
theorem qo(f:IxR X r)(e:PE X a ta)(hb:PE X b tb)(g:PlainIx b):PE X (.Subscript a b pos) (tOp r ta tb):=by
 intro pins s σ H Q I h;show Subscript_ (qgE e hb I h λv u l x y c d i j q=>f a b pins l σ c x y v u Q d i j q (g _ _))
inductive rIxL(K:yg)(x:V)(y:V)(H:Hp)(Q:VK):Prop|mk (p xs i v:_) (_:x=.ref p) (_:y=.int i) (_:SqL K H p xs) (_:atI xs i=some v) (_:Q v H)
inductive rIxT(K:yg)(x:V)(y:V)(H:Hp)(Q:VK):Prop|mk (p xs i v:_) (_:x=.ref p) (_:y=.int i) (_:SqT K H p xs) (_:atI xs i=some v) (_:Q v H)
inductive rIxS(x:V)(y:V)(H:Hp)(Q:VK):Prop|mk (z i c:_) (_:x=.str z) (_:y=.int i) (_:z.length<=sizeLine) (_:atI z.cps.toList i=some c) (_:Q (.str ⟨#[c]⟩) H)
theorem ix_list:IxR X (rIxL X.K):=by
 intro e d pins s σ H x y v u Q I C D h l;obtain⟨p,xs,i,z,rfl,rfl,B,A,q⟩:=h;cases C;obtain⟨t,rfl⟩:=D;obtain⟨its,r,pl,G⟩:=I.list B;obtain⟨j,h1,m,E,n,o⟩:=qdc A;obtain⟨w,f,c⟩:=r.get m;have hl:=r.length;have F:=qb7;have a:EP X pins σ Q w s:=⟨z,H,I,c,q⟩;by_cases g:0<=i
 .have b:i.toNat=j:=by
   rw[seqIndex_of g o] at h1;show yn h1
  show item_listR pl.isList g (by lk) (by rw[b];simpa using f) a l
 .have b:(i+(its.toArray.size:Int)).toNat=j:=by
   rw[seqIndex_neg (by lk) n] at h1;rw[yD,<- hl];show yn h1
  show subscriptTail_builtinR (x:=w) pl.isList.typeIs kM.lookup
   (wpAny_getItem_list_neg (Q:=λr s'=>r=w/\EP X pins σ Q r s') pl.isList (by lk) (by rw[yD]<;>lk) (by lk) (by rw[b];simpa using f) ⟨rfl,a⟩) l
theorem ix_tup:IxR X (rIxT X.K):=by
 intro d c pins s σ H x y v u Q I n o h m;obtain⟨p,xs,i,z,rfl,rfl,l,g,q⟩:=h;cases n;obtain⟨t,rfl⟩:=o;obtain⟨its,r,pl,E⟩:=I.tuple l;obtain⟨j,h1,f,A,B,C⟩:=qdc g;obtain⟨w,e,b⟩:=r.get f;have hl:=r.length;have D:=qb7;have a:EP X pins σ Q w s:=⟨z,H,I,b,q⟩;show subscriptTail_builtinR (x:=w) pl.typeIs slot_tuple_getitem.lookup
  (getItem_tuple (j:=j) (Q:=λr s'=>r=w/\EP X pins σ Q r s') pl (by lk) (by lk) (by rw[yD,<- hl];show h1) (by simpa using e) ⟨rfl,a⟩) m
theorem ix_str:IxR X rIxS:=by
 intro b a pins s σ H x y v u Q I o p h n;obtain⟨z,i,c,rfl,rfl,A,m,q⟩:=h;obtain⟨t,rfl⟩:=o;obtain⟨t',rfl⟩:=p;obtain⟨j,h1,f,r,g,l⟩:=qdc m;have hl:z.cps.toList.length=z.length:=by simp[Str.length]
 rw[hl] at h1 g l;have w:=qb7
 show tail_any (typeIs_str s z t) slot_str_getitem.lookup (getItem_str (c:=c) (by
  have d:decide (i < -(2 ^ 63:Int))=false:=ym (by lk);have e:decide (i ≥ 2 ^ 63)=false:=ym (by lk);rw[d,e,Kn]) (by rw[h1];simpa using f) ⟨.str ⟨#[c]⟩,H,I.tok _,⟨_,rfl⟩,q⟩) n
def rIx(K:yg):R2:=λx y H Q=>rIxL K x y H Q\/rIxT K x y H Q\/rIxS x y H Q
theorem ix_seq:IxR X (rIx X.K):=ix_list.or (ix_tup.or ix_str)
theorem mapSeq_set(its:List Value)(n j:Nat)(u:Value):Obj.mapSeq (·.setIfInBounds j u) { cls:=.type "list",data:=.seq its.toArray n }={ cls:=.type "list",data:=.seq (its.set j u).toArray n }:=by
 simp[Obj.mapSeq]
theorem Inv.lst(I:Inv X pins σ H s)(h:H p=some (.lst xs)) :
  ∃(its:List Value) (n:Nat),Vals xs its/\s.heap.get? p=some { cls:=.type "list",data:=.seq its.toArray n }/\xs.length<=sizeLine:=by
 obtain⟨z,its,n,r,e⟩:=I.hok p _ h;show⟨its,n,r,e,z⟩
theorem Inv.lstUpd{c:List V}{a:Nat}{f:Obj->Obj}(I:Inv X pins σ H s)(h:H p=some (.lst xs))
  (g:s.heap.get? p=some { cls:=.type "list",data:=.seq its.toArray n }) (d:f { cls:=.type "list",data:=.seq its.toArray n }={ cls:=.type "list",data:=.seq its'.toArray a }) (r:Vals c its') (i:c.length<=sizeLine) (t:Nat) :
  Inv X pins σ (upd H p (.lst c)) { s with heap:=s.heap.update p f,toks:=t }:=by
 have e:(s.heap.update p f).get? p=some { cls:=.type "list",data:=.seq its'.toArray a }:=by
  rw[xr f g (by rw[d]<;>rfl),d]
 show I.write (x:=p) (e:=p) (by rw[h];trivial) (.inl rfl) (λb u hb q=>(YE _ _ (Yh hb)).trans q) ⟨_,e⟩ ?_;show⟨i,its',a,r,e⟩
inductive rSetL(o:V)(i:V)(v:V)(H:Hp)(Q:(Hp->Prop)):Prop|mk (p xs k j:_) (_:o=.ref p) (_:i=.int k) (_:H p=some (.lst xs)) (_:ixN xs.length k=some j) (_:Q (upd H p (.lst (xs.set j v))))
theorem set_list:qgD X rSetL:=by
 intro pins s σ H o i v C B u Q I x w y h;obtain⟨p,xs,k,j,rfl,rfl,g,l,q⟩:=h;cases x;obtain⟨t,rfl⟩:=w;obtain⟨its,n,r,b,m⟩:=I.lst g;obtain⟨h1,z,e,f⟩:=qep l;have hl:=r.length;have A:=qb7
 have c:Inv X pins σ (upd H p (.lst (xs.set j v))) { s with heap:=s.heap.update p (Obj.mapSeq (·.setIfInBounds j u)) }:=
  I.lstUpd g b (mapSeq_set its n j u) (r.set y j) (by rw[xQ];show m) s.toks
 by_cases d:0<=k
 .have a:k.toNat=j:=by
   rw[seqIndex_of d f] at h1;show yn h1
  show PySem.W.ki_setAt b d (by lk) (by rw[yD,<- hl];show f) (by rw[a];show⟨_,c,q⟩)
 .have a:(k+(its.toArray.size:Int)).toNat=j:=by
   rw[seqIndex_neg (by lk) e] at h1;rw[yD,<- hl];show yn h1
  show PySem.W.ki_setBack b (by lk) (by rw[yD,<- hl];show e) (by lk) (by rw[a];show⟨_,c,q⟩)
theorem slice_bounds(lo a:Option Int)(n:Nat):(sliceBounds lo a none n).1=((HT.sIx n 0 lo:Nat):Int)/\(sliceBounds lo a none n).2.1=((HT.sIx n n a:Nat):Int)/\(sliceBounds lo a none n).2.2=1:=by
 show⟨?_,?_,rfl⟩
 .cases lo with
  | none=>simp[sliceBounds,HT.sIx]
  | some i =>
   simp only[sliceBounds,HT.sIx,Option.getD_none,show(1:Int)>0 by decide,Xy];by_cases h:i<0
   .simp only[h,Xy]<;>lk
   .simp only[h,XU]<;>lk
 .cases a with
  | none=>simp[sliceBounds,HT.sIx]
  | some i =>
   simp only[sliceBounds,HT.sIx,Option.getD_none,show(1:Int)>0 by decide,Xy];by_cases h:i<0
   .simp only[h,Xy]<;>lk
   .simp only[h,XU]<;>lk
theorem slicePick_cut(its:List Value)(lo a:Option Int):slicePick its.toArray lo a none=((its.drop (HT.sIx its.length 0 lo)).take (HT.sIx its.length its.length a-HT.sIx its.length 0 lo)).toArray:=by
 obtain⟨h1,b,c⟩:=slice_bounds lo a its.toArray.size;unfold slicePick;rw[h1,b,c];simp only[sliceRange_one,pick_run,yD]<;>rfl
inductive rSlL(K:yg)(x:V)(lo:Option Int)(hi:Option Int)(H:Hp)(Q:VK):Prop|mk (a xs:_) (_:x=.ref a) (_:SqL K H a xs) (_:∀ p,H p=none->Q (.ref p) (upd H p (.lst (qb9 xs lo hi))))
theorem sl_list:SlR X (rSlL X.K):=by
 intro pins s σ H x v p t lo d n Q I l f pl j h;obtain⟨a,xs,rfl,g,q⟩:=h;cases l;obtain⟨its,r,e,i⟩:=I.list g;have c:=r.length;show⟨"list",_,kM.lookup,e.isList.typeIs,?_⟩;show wpAny_getItem_list_slice e.isList f pl j .none (by simp) ?_ (by rw[yD]<;>lk);rw[slicePick_cut,<- c];show⟨.ref s.heap.objs.size,_,I.laid (t':=s.toks) (o:=.lst (qb9 xs lo d)) (λb m q=>yy _ q) (yh _) ?_,rfl,q _ (I.hok.fresh (yh _))⟩;show⟨yi (qbM xs lo d) i,_,0,(r.drop (HT.sIx xs.length 0 lo)).take (HT.sIx xs.length xs.length d-HT.sIx xs.length 0 lo),Yd _ rfl⟩
def qay:V->Bool
 | .non=>true
 | .bl _=>true
 | .int _=>true
 | .str _=>true
 | _=>false
def eqV:V->V->Bool
 | .non,.non=>true
 | .bl a,.bl b=>a==b
 | .bl a,.int b=>(if a then 1 else 0)==b
 | .int a,.bl b=>a==(if b then 1 else 0)
 | .int a,.int b=>a==b
 | .str a,.str b=>a==b
 | _,_=>false
theorem qeq(e:RelV y u)(c:RelV x v)(f:qay y=true)(d:qay x=true):SeqAt.EqAt A s u v (eqV y x):=by
 cases y with
 | non =>
  cases e
  cases x with
  | non=>cases c;show kq _
  | bl b=>cases c;show SeqAt.EqAt.none_bool b
  | int b=>obtain⟨t,rfl⟩:=c;show SeqAt.EqAt.none_int b t
  | str b=>obtain⟨t,rfl⟩:=c;show SeqAt.EqAt.none_str b t
  | _=>show absurd (show false=true from d) Yq
 | bl a =>
  cases e
  cases x with
  | non=>cases c;show SeqAt.EqAt.bool_none a
  | bl b=>cases c;show SeqAt.EqAt.bool_bool a b
  | int b=>obtain⟨t,rfl⟩:=c;show SeqAt.EqAt.bool_int a b t
  | str b=>obtain⟨t,rfl⟩:=c;show SeqAt.EqAt.bool_str a b t
  | _=>show absurd (show false=true from d) Yq
 | int a =>
  obtain⟨t',rfl⟩:=e
  cases x with
  | non=>cases c;show SeqAt.EqAt.int_none a t'
  | bl b=>cases c;show SeqAt.EqAt.int_bool a t' b
  | int b=>obtain⟨t,rfl⟩:=c;show SeqAt.EqAt.int_int a t' b t
  | str b=>obtain⟨t,rfl⟩:=c;show SeqAt.EqAt.int_str a t' b t
  | _=>show absurd (show false=true from d) Yq
 | str a =>
  obtain⟨t',rfl⟩:=e
  cases x with
  | non=>cases c;show SeqAt.EqAt.str_none a t'
  | bl b=>cases c;show SeqAt.EqAt.str_bool a t' b
  | int b=>obtain⟨t,rfl⟩:=c;show SeqAt.EqAt.str_int a t' b t
  | str b=>obtain⟨t,rfl⟩:=c;show SeqAt.EqAt.str_str a t' b t
  | _=>show absurd (show false=true from d) Yq
 | _=>show absurd (show false=true from f) Yq
def eqU(x:V)(u:Value):Bool:=match u with
 | .none=>eqV .non x
 | .bool b=>eqV (.bl b) x
 | .int i _=>eqV (.int i) x
 | .str z _=>eqV (.str z) x
 | _=>false
theorem qer(r:RelV y u)(f:qay y=true):eqU x u=eqV y x:=by
 cases y with
 | non=>cases r;rfl
 | bl b=>cases r;rfl
 | int i=>obtain⟨t,rfl⟩:=r;rfl
 | str z=>obtain⟨t,rfl⟩:=r;rfl
 | _=>show absurd (show false=true from f) Yq
theorem qbN:∀{xs:List V} {us:List Value},Vals xs us->xs.all qay=true->us.any (eqU x)=xs.any λy=>eqV y x
 | _,_,.nil,_=>rfl
 | y::xs,u::us,.cons r t,f=>by
  rw[ki,yO] at f;rw[kj,kj,qer r f.1,qbN t f.2]
theorem qaq(b:RelV x v)(a:qay x=true):∀{xs:List V} {us:List Value},Vals xs us->xs.all qay=true->∀ u∈us,SeqAt.EqAt A s u v (eqU x u)
 | _,_,.nil,_=>λu hu=>by cases hu
 | y::xs,u::us,.cons r t,f=>λc hu=>by
  rw[ki,yO] at f;rcases yv.mp hu with rfl | hu
  .rw [qer r f.1];show qeq r b f.1 a
  .show qaq b a t f.2 c hu
def inV(x:V)(xs:List V):Bool:=xs.any λy=>eqV y x
inductive rIn(K:yg)(neg:Bool)(x:V)(y:V)(H:Hp)(Q:VK):Prop|mk (p xs:_) (_:y=.ref p) (_:(SqL K H p xs\/SqT K H p xs)) (_:qay x=true) (_:xs.all qay=true) (_:Q (.bl (if neg then !inV x xs else inV x xs)) H)
theorem op_in_seq:OpR X (compareOp .In) (rIn X.K false):=by
 intro pins s σ H x y v u Q I b d h;obtain⟨p,xs,rfl,hq,a,fs,q⟩:=h;cases d;rcases hq with hq | hq
 .obtain⟨its,r,pl,c⟩:=I.list hq;show SeqAt.in_listAt (eqU x) pl.isList (λw hw=>qaq b a r fs w (by simpa using hw)) ⟨.bl _,H,I,rfl,?_⟩;rw[show its.toArray.any (eqU x)=its.any (eqU x) by simp,qbN r fs];show q
 .obtain⟨its,r,pl,c⟩:=I.tuple hq;show SeqAt.in_tupleAt (eqU x) pl (λw hw=>qaq b a r fs w (by simpa using hw)) ⟨.bl _,H,I,rfl,?_⟩;rw[show its.toArray.any (eqU x)=its.any (eqU x) by simp,qbN r fs];show q
theorem op_notIn_seq:OpR X (compareOp .NotIn) (rIn X.K true):=by
 intro pins s σ H x y v u Q I b d h;obtain⟨p,xs,rfl,hq,a,fs,q⟩:=h;cases d;rcases hq with hq | hq
 .obtain⟨its,r,pl,c⟩:=I.list hq;show SeqAt.notIn_listAt (eqU x) pl.isList (λw hw=>qaq b a r fs w (by simpa using hw)) ⟨.bl _,H,I,rfl,?_⟩;rw[show its.toArray.any (eqU x)=its.any (eqU x) by simp,qbN r fs];show q
 .obtain⟨its,r,pl,c⟩:=I.tuple hq;show SeqAt.notIn_tupleAt (eqU x) pl (λw hw=>qaq b a r fs w (by simpa using hw)) ⟨.bl _,H,I,rfl,?_⟩;rw[show its.toArray.any (eqU x)=its.any (eqU x) by simp,qbN r fs];show q
theorem call_len_seq:zI X (.builtin "len") (λxs H Q=>∃ p b,xs=[.ref p]/\(SqL X.K H p b\/SqT X.K H p b)/\Q (.int b.length) H):=by
 intro pins s σ H xs us Q I r h;obtain⟨p,b,rfl,hq,q⟩:=h;obtain⟨u,rfl,e⟩:=qa2 r;cases e;have f:=qb7;rcases hq with hq | hq
 .obtain⟨its,c,pl,d⟩:=I.list hq;have a:=c.length;show Calls.call_len_list pl.isList (by simp only[yD]<;>lk) ⟨.int b.length,H,I.tok _,⟨s.toks+1,by rw[yD,a]⟩,q⟩
 .obtain⟨its,c,pl,d⟩:=I.tuple hq;have a:=c.length;show len_tuple pl (by simp only[yD]<;>lk) ⟨.int b.length,H,I.tok _,⟨s.toks+1,by rw[yD,a]⟩,q⟩
theorem call_len_str:zI X (.builtin "len") (λxs H Q=>∃ z,xs=[.str z]/\z.length<=sizeLine/\Q (.int z.length) H):=by
 intro pins s σ H xs us Q I r h;obtain⟨z,rfl,b,q⟩:=h;obtain⟨u,rfl,t,rfl⟩:=qa2 r;have a:=qb7;show len_str (by lk) ⟨.int z.length,H,I.tok _,⟨_,rfl⟩,q⟩
theorem call_list_of:zI X (.type "list") (λxs H Q=>∃ p d,xs=[.ref p]/\(SqL X.K H p d\/SqT X.K H p d)/\∀ l,H l=none->Q (.ref l) (upd H l (.lst d))):=by
 intro pins s σ H xs us Q I r h;obtain⟨p,d,rfl,hq,q⟩:=h;obtain⟨u,rfl,x⟩:=qa2 r;cases x;have f:∀(its:List Value),Vals d its->d.length<=sizeLine->∀(h':Heap) (a:Nat),(∀ b v,s.heap.get? b=some v->h'.get? b=some v) ->
   h'.get? s.heap.objs.size=some { cls:=.type "list",dict:=none,data:=.seq its.toArray a,slots:=#[] }->EP X pins σ Q (.ref s.heap.objs.size) { s with heap:=h' }:=λits c i h' a j e =>
  ⟨.ref s.heap.objs.size,_,I.laid (t':=s.toks) j (yh _) (show ObjOk X.prog X.w _ h' _ (.lst d) from⟨i,its,a,c,e⟩),rfl,q _ (I.hok.fresh (yh _))⟩
 rcases hq with hq | hq
 .obtain⟨its,c,pl,i⟩:=I.list hq;have g:=c.length;obtain⟨o,t,hc,n,m⟩:=pl.isList;show call_list_seq p (.inl rfl) t hc m (λh' a j e=>f its c i h' a j e) (by simp only[yD]<;>lk)
 .obtain⟨its,c,pl,i⟩:=I.tuple hq;have g:=c.length;obtain⟨o,t,hc,n,m⟩:=pl;show call_list_seq p (.inr rfl) t hc m (λh' a j e=>f its c i h' a j e) (by simp only[yD]<;>lk)
theorem call_tuple_of:zI X (.type "tuple") (λxs H Q=>∃ p a,xs=[.ref p]/\((SqL X.K H p a/\∀ l,H l=none->Q (.ref l) (upd H l (.tup a)))\/(SqT X.K H p a/\Q (.ref p) H))):=by
 intro pins s σ H xs us Q I r h;obtain⟨p,a,rfl,h⟩:=h;obtain⟨u,rfl,n⟩:=qa2 r;cases n;rcases h with⟨c,q⟩ | ⟨c,q⟩
 .obtain⟨its,d,pl,i⟩:=I.list c;have g:=d.length;show call_tuple_list pl.isList (λh' m=>?_) (by simp only[yD]<;>lk);have f:Inv X pins σ H { s with heap:=h' }:=I.kept (t':=s.toks) m
  have j:Inv X pins σ (upd H h'.objs.size (.tup a)) { s with heap:=h'.push { cls:=.type "tuple",data:=.seq its.toArray } }:=
   f.laid (t':=s.toks) (λb o e=>yy _ e) (yh _) (show ObjOk X.prog X.w _ _ _ (.tup a) from⟨i,its,d,IsTup.new _ _⟩)
  show⟨.ref h'.objs.size,_,j,rfl,q _ (f.hok.fresh (yh _))⟩
 .obtain⟨its,d,pl,i⟩:=I.tuple c;show call_tuple_same pl ⟨.ref p,H,I,rfl,q⟩
def tyV(K:yg)(T:String)(x:V)(H:Hp):Prop:=match x with
 | .str _=>T="str"
 | .int _=>T="int"
 | .ref p=>(T="list"/\∃ xs,SqL K H p xs)\/(T="tuple"/\∃ o,K.lookup p=some o/\o.cls=.type "tuple"/\o.dict=none) \/
   (T="dict"/\((∃ kvs,H p=some (.dK kvs))\/∃ kvs,H p=some (.dT kvs)))\/(T="set"/\∃ S n,H p=some (.set S n))
 | _=>False
theorem tyV_is{T:String}(I:Inv X pins σ H s)(r:RelV x v)(ty:tyV X.K T x H) :
  s.TypeIs v T/\∀ a,v=.ref a->∃ g,s.heap.get? a=some g/\g.dict=none:=by
 cases x with
 | str z =>
  obtain⟨t,rfl⟩:=r;cases (show T="str" from ty);show⟨typeIs_str s z t,λ_ e=>nomatch e⟩
 | int i =>
  obtain⟨t,rfl⟩:=r;cases (show T="int" from ty);show⟨typeIs_int s i t,λ_ e=>nomatch e⟩
 | ref p =>
  cases r;rcases ty with⟨rfl,xs,h⟩ | ⟨rfl,o,b,hc,f⟩ | ⟨rfl,b⟩ | ⟨rfl,S,n,b⟩
  .obtain⟨its,_,pl,_⟩:=I.list h;show⟨pl.isList.typeIs,λa e=>?_⟩;cases e;obtain⟨o,n,e,c,f,_⟩:=pl;show⟨o,e,f⟩
  .show⟨⟨o,I.kIn p o b,hc⟩,λa e=>?_⟩;cases e;show⟨o,I.kIn _ o b,f⟩
  .have z:∃ o,s.heap.get? p=some o/\o.ExactDict:=by
    rcases b with⟨kvs,b⟩ | ⟨kvs,b⟩
    .obtain⟨_,_,_,_,o,_,_,e,ex,_⟩:=I.hok p _ b;show⟨o,e,ex⟩
    .obtain⟨_,_,_,_,o,_,_,e,ex,_⟩:=I.hok p _ b;show⟨o,e,ex⟩
   obtain⟨o,e,ex⟩:=z;show⟨⟨o,e,ex.1⟩,λa d=>?_⟩;cases d;show⟨o,e,ex.2.1⟩
  .obtain⟨o,_,_,_,e,ex,_⟩:=I.hok p _ b;show⟨⟨o,e,ex.1⟩,λa d=>?_⟩;cases d;show⟨o,e,ex.2.1⟩
 | _=>show False.elim ty
def tBM0(K:yg)(T:String)(r:V->List V->Hp->VK->Prop)(to:TE):TE:=fun σ H Q=>to σ H λx a=>tyV K T x a/\r x [] a Q
def tBM(K:yg)(T:String)(r:V->List V->Hp->VK->Prop)(to:TE)(t:TA):TE:=fun σ H Q=>to σ H λx a=>tyV K T x a/\t σ a λxs b=>r x xs b Q
variable{o e:Expr}{es:List Expr}{to:TE}{t:TA}{name:Str}{apos cpos:Pos}{T id:String}{r:V->List V->Hp->VK->Prop}
theorem pe_bm(A:PlainAttrs T)(f:Slot T name id)(g:typeOf (.builtin id)=pure (.type "method_descriptor"))(w:MtR X id r)(y:PE X o to)(u:PA X (e::es) t)
  (b:attributeBase o name X.env (eval o X.env)=eval o X.env:=by rfl)
  (d:((backTo cpos (starEach (e::es) X.env)).all (λx=>!x.1)&&(backToKw cpos (keywordEach [] X.env)).all (λx=>x.1.isSome)
   && decide ((e::es).length+([]:List Keyword).length+(if ([]:List Keyword).isEmpty then 0 else 1)<30))=true:=by rfl)
  (c:(apos.endLine==cpos.line)=true:=by rfl) (z:starEach (e::es) X.env=(false,eval e X.env)::starEach es X.env:=by rfl) (a:(backTo cpos (starEach es X.env)).any (·.1)=false:=by rfl) :
  PE X (.Call (.Attribute o name apos) (e::es) [] cpos) (tBM X.K T r to t):=by
 intro pins s σ H Q I h;show wpAny_Call_method_late b d c rfl (thn (y pins s σ H _ I h) λv E ⟨x,m,i,l,ty,B⟩=>?_);obtain⟨h1,q⟩:=tyV_is i l ty;show⟨T,id,A,f,g,h1,q,?_⟩;have j:=u cpos pins E σ m _ i B;rw[z] at j ⊢;show Calls.callWith_builtin (by show(false||(backTo cpos (starEach es X.env)).any (·.1))=false;rw[a]<;>rfl) (Calls.evalArgs_plain ?_);show thn j λus F ⟨vs,n,p,D,C⟩=>w pins F σ n x vs v us Q p l D C
end
def MtM(X:Cx)(id:String)(r:V->List V->Hp->VK->Prop):Prop:=
 ∀(pins:List (Addr×Obj)) (s:Shared) (σ:St) (H:Hp) (x:V) (xs:List V) (v:Value) (us:List Value) (Q:VK),Inv X pins σ H s->RelV x v->Vals xs us->r x xs H Q ->
  wpAny (model X.prog X.w) X.A (call (.builtin id) (v::us)) (EP X pins σ Q) X.xe s
theorem Vals.one:∀{x:V} {us:List Value},Vals [x] us->∃ u,us=[u]/\RelV x u
 | _,_,.cons r .nil=>⟨_,rfl,r⟩
theorem Vals.eraseIdx:∀{xs:List V} {us:List Value} (i:Nat),Vals xs us->Vals (xs.eraseIdx i) (us.eraseIdx i)
 | _,_,_,.nil=>.nil
 | _,_,0,.cons _ t=>t
 | _,_,i+1,.cons r t=>.cons r (Vals.eraseIdx i t)
theorem Vals.rep(h:Vals xs us):∀ k:Nat,Vals (List.replicate k xs).flatten (List.replicate k us).flatten
 | 0=>.nil
 | k+1=>by
  rw[xB,xB,Xo,Xo];show Vals.append h (Vals.rep h k)
theorem qcK:∀(l:List α) (i:Nat),(l.eraseIdx i).length<=l.length
 | [],_=>yh _
 | _::_,0=>Xf _
 | _::r,i+1=>kS (qcK r i)
theorem qcL(its:List Value):∀(k:Nat) (acc:List Value),
  List.foldl (λb c=>b++c) acc.toArray (List.replicate k its.toArray)=(acc++(List.replicate k its).flatten).toArray
 | 0,acc=>by simp
 | k+1,acc=>by
  have e:acc.toArray++its.toArray=(acc++its).toArray:=by simp
  have a:(acc++its)++(List.replicate k its).flatten=acc++(List.replicate (k+1) its).flatten:=by
   rw[xB,Xo,Yp]
  rw[<- a,<- qcL its k (acc++its),<- e,xB,List.foldl_cons]
section
variable{X:Cx}{pins:List (Addr×Obj)}{σ:St}{H:Hp}{s:Shared}{l b:Addr}{xs ys zs:List V}
theorem Inv.lset{f:Array Value->Array Value}(I:Inv X pins σ H s)(a:H l=some (.lst xs))
  (e:s.heap.get? l=some { cls:=.type "list",data:=.seq its.toArray n }) (b:f its.toArray=its'.toArray) (hv:Vals ys its') (d:ys.length<=sizeLine) :
  Inv X pins σ (upd H l (.lst ys)) { s with heap:=s.heap.update l (Obj.mapSeq f),toks:=t' }:=by
 have q:=PySem.IsL.update e f;rw[b] at q;show I.write (x:=l) (e:=l) (by rw[a];show trivial) (.inl rfl) (λg u hb c=>(YE s.heap (Obj.mapSeq f) (Yh hb)).trans c) ⟨_,q⟩ ?_;show⟨d,its',_,hv,q⟩
theorem Inv.lnew(I:Inv X pins σ H s)(hv:Vals ys its)(a:ys.length<=sizeLine) :
  Inv X pins σ (upd H s.heap.objs.size (.lst ys)) { s with heap:=s.heap.push { cls:=.type "list",data:=.seq its.toArray },toks:=t' }:=
 I.laid (λ_ _ q=>yy _ q) (yh _) ⟨a,its,0,hv,Yd _ rfl⟩
theorem Inv.fresh(I:Inv X pins σ H s):H s.heap.objs.size=none:=I.hok.fresh (yh _)
theorem Inv.lstM(I:Inv X pins σ H s)(a:H l=some (.lst xs)):xs.length<=sizeLine/\∃(its:List Value) (n:Nat),Vals xs its/\xs.length=its.length/\s.heap.get? l=some { cls:=.type "list",data:=.seq its.toArray n }:=by
 obtain⟨z,its,n,r,e⟩:=I.hok l _ a;show⟨z,its,n,r,r.length,e⟩
theorem qdD(h:n<=sizeLine):Builtin.List.listTooLong n=false:=by
 unfold Builtin.List.listTooLong;show ym (by lk)
end
section
variable{X:Cx}
inductive rAppend(x:V)(vs:List V)(H:Hp)(Q:VK):Prop|mk (l xs y:_) (_:x=.ref l) (_:vs=[y]) (_:H l=some (.lst xs)) (_:xs.length<sizeLine) (_:Q .non (upd H l (.lst (xs++[y]))))
theorem mt_append:MtM X "list.append" rAppend:=by
 intro pins s σ H x vs v us Q I d c h;obtain⟨l,xs,y,rfl,rfl,a,f,q⟩:=h;cases d;obtain⟨u,rfl,b⟩:=c.one;obtain⟨z,its,n,r,hl,e⟩:=I.lstM a;show kH F.slot_list_append ⟨_,e,rfl⟩ F.entry_list_append (F.args_list_append_2 _ _) (PySem.list_append l its.toArray n u (by rw[yD];lk)) ⟨e,?_⟩;show⟨.non,_,I.lset (its':=its++[u]) a e (by simp) (r.append (.cons b .nil)) ?_,rfl,q⟩;rw[yu,ke];lk
inductive rExtend(x:V)(vs:List V)(H:Hp)(Q:VK):Prop|mk (l b xs zs:_) (_:x=.ref l) (_:vs=[.ref b]) (_:H l=some (.lst xs)) (_:H b=some (.lst zs)) (_:xs.length+zs.length<=sizeLine) (_:Q .non (upd H l (.lst (xs++zs))))
theorem mt_extend:MtM X "list.extend" rExtend:=by
 intro pins s σ H x vs v us Q I t p h;obtain⟨l,b,xs,A,rfl,rfl,d,g,w,q⟩:=h;cases t;obtain⟨u,rfl,o⟩:=p.one;cases o;obtain⟨z,its,n,r,hl,e⟩:=I.lstM d;obtain⟨y,a,j,m,i,f⟩:=I.lstM g;have hsz:its.toArray.size+a.toArray.size<=sizeLine:=by rw[yD,yD];lk
 have c:¬ (!its.toArray.isEmpty&&Builtin.List.listTooLong (its.toArray.size+a.toArray.size))=true:=by
  rw[qdD hsz,Bool.and_false];show Yq
 show kH F.slot_list_extend ⟨_,e,rfl⟩ F.entry_list_extend (F.args_list_extend_2 _ _)
  (AutoSeq1.list_extend_list_list_0 l its.toArray n b a.toArray j c (by rw[yD];lk) (by lk)) ⟨e,f,?_⟩
 show⟨.non,_,I.lset (its':=its++a) d e (by simp) (r.append m) ?_,rfl,q⟩;rw[yu];lk
inductive rPop(x:V)(vs:List V)(H:Hp)(Q:VK):Prop|mk (l xs y:_) (_:x=.ref l) (_:vs=[]) (_:H l=some (.lst xs)) (_:xs[xs.length-1]?=some y) (_:Q y (upd H l (.lst xs.dropLast)))
inductive rPopAt(x:V)(vs:List V)(H:Hp)(Q:VK):Prop|mk (l xs i k y:_) (_:x=.ref l) (_:vs=[.int i]) (_:H l=some (.lst xs)) (_:-(2 ^ 63)<=i) (_:i<2 ^ 63) (_:seqIndex? i xs.length=some k) (_:xs[k]?=some y) (_:Q y (upd H l (.lst (xs.eraseIdx k))))
theorem mt_popAt:MtM X "list.pop" rPopAt:=by
 intro pins s σ H x vs v us Q I m j h;obtain⟨l,xs,i,k,y,rfl,rfl,b,h1,c,d,f,q⟩:=h;cases m;obtain⟨u,rfl,g⟩:=j.one;obtain⟨t,rfl⟩:=g;obtain⟨z,its,n,r,hl,e⟩:=I.lstM b;obtain⟨w,hw,a⟩:=r.get f;show kH F.slot_list_pop ⟨_,e,rfl⟩ F.entry_list_pop (F.args_list_pop_2 _ _)
  (MeetsSeq.list_pop_at l its.toArray n i t k w (fitsIndex_both h1 c) (by rw[yD,<- hl];show d) (by rw[<- Array.getElem?_toList];show hw) (by rw[yD];lk)) ⟨e,?_⟩
 show⟨y,_,I.lset (its':=its.eraseIdx k) b e ?_ (r.eraseIdx k) ?_,a,q⟩
 .show its.toArray.eraseIdxIfInBounds k=(its.eraseIdx k).toArray;rw[List.eraseIdxIfInBounds_toArray]
 .have:=qcK xs k;lk
inductive rReverse(x:V)(vs:List V)(H:Hp)(Q:VK):Prop|mk (l xs:_) (_:x=.ref l) (_:vs=[]) (_:H l=some (.lst xs)) (_:Q .non (upd H l (.lst xs.reverse)))
inductive rClear(x:V)(vs:List V)(H:Hp)(Q:VK):Prop|mk (l xs:_) (_:x=.ref l) (_:vs=[]) (_:H l=some (.lst xs)) (_:Q .non (upd H l (.lst [])))
inductive rCat(x:V)(y:V)(H:Hp)(Q:VK):Prop|mk (l b xs zs:_) (_:x=.ref l) (_:y=.ref b) (_:H l=some (.lst xs)) (_:H b=some (.lst zs)) (_:xs.length+zs.length<=sizeLine) (_:∀ p,H p=none->Q (.ref p) (upd H p (.lst (xs++zs))))
theorem op_cat:OpR X (binaryOp .Add) rCat:=by
 intro pins s σ H x y v u Q I m o h;obtain⟨l,b,xs,A,rfl,rfl,g,f,p,q⟩:=h;cases m;cases o;obtain⟨z,its,n,r,hl,e⟩:=I.lstM g;obtain⟨w,a,t,j,i,c⟩:=I.lstM f;show PySem.P.add_list e c ?_ (by rw[yD,yD];lk);have d:its.toArray++a.toArray=(its++a).toArray:=by simp
 rw[d];show⟨.ref _,_,I.lnew (t':=s.toks) (r.append j) (by rw[yu];lk),rfl,q _ I.fresh⟩
inductive rRep(x:V)(y:V)(H:Hp)(Q:VK):Prop|mk (l k xs:_) (_:x=.ref l) (_:y=.int k) (_:H l=some (.lst xs)) (_:-(2 ^ 63)<=k) (_:k<2 ^ 63) (_:xs.length*k.toNat<=sizeLine) (_:∀ p,H p=none->Q (.ref p) (upd H p (.lst (List.replicate k.toNat xs).flatten)))
theorem qes(xs:List α)(k:Nat):(List.replicate k xs).flatten.length=k*xs.length:=by
 induction k with
 | zero=>simp
 | succ k ih=>rw[xB,Xo,yu,ih,Nat.succ_mul,Nat.add_comm]
theorem qdE:OpR X (binaryOp .Mult) rRep:=by
 intro pins s σ H x y v u Q I B C h;obtain⟨l,k,xs,rfl,rfl,A,h1,w,o,q⟩:=h;cases B;obtain⟨t,rfl⟩:=C;obtain⟨z,its,n,r,hl,e⟩:=I.lstM A;have f:its.toArray.size*k.toNat<=sizeLine:=by rw[yD,<- hl];show o
 have c:¬ its.toArray.size*k.toNat>(2 ^ 63-1) / 8:=by
  have:(sizeLine:Nat)<=(2 ^ 63-1) / 8:=by decide
  lk
 have d:¬ (!Builtin.List.listFitsIndex k)=true:=by
  rw[fitsIndex_both h1 w];show Yq
 have b:¬ Builtin.List.listTooLong (its.toArray.size*k.toNat)=true:=by
  rw[qdD f];show Yq
 have g:List.foldl (λi j=>i++j) #[] (List.replicate (if its.toArray.isEmpty=true then 0 else k.toNat) its.toArray)=(List.replicate k.toNat its).flatten.toArray:=by
  have p:∀ m:Nat,List.foldl (λi j=>i++j) #[] (List.replicate m its.toArray)=(List.replicate m its).flatten.toArray:=λm=>by
   have:=qcL its m [];rw[List.nil_append] at this;show this
  rw[p]
  cases its with
  | nil=>simp
  | cons a r'=>rw[yF (by simp)]
 show wpAny_binaryOp_repeat_ref (T:="list") (U:="int") (by decide) ⟨_,e,rfl⟩ (λs'=>typeIs_int s' k t) noFill_list_mul F.fills_int_mul F.slot_int_rmul repeat_list F.slot_int_index.lookup
  (kH F.slot_int_rmul (typeIs_int s k t) F.entry_int_rmul (F.args_int_rmul_2 _ _) (int___rmul___int_list k t l its.toArray n)
   ⟨e,rfl,⟨_,e,rfl⟩,kH F.slot_list_mul ⟨_,e,rfl⟩ F.entry_list_mul (F.args_list_mul_2 _ _) (AutoListH.list___mul___list_int_3 l its.toArray n k t d c b) ⟨e,?_⟩⟩)
 rw[g];show⟨.ref _,_,I.lnew (t':=s.toks) (r.rep k.toNat) (by rw[qes,Nat.mul_comm];show o),rfl,q _ I.fresh⟩
end
section
variable{prog:Program}{w:World}{A:Around}{E:Value->Shared->Prop}{s:Shared}
set_option maxRecDepth 100000 in
end
section
variable{X:Cx}
end
section
variable{κ:Type}[DecidableEq κ]
def zv(kvs:List (κ×V))(k:κ):Option V:=(kvs.find? λa=>decide (a.1=k)).map (·.2)
def zR(kvs:List (κ×V))(k:κ)(v:V):List (κ×V):=
 if (kvs.any λa=>decide (a.1=k))=true then kvs.map (λa=>if a.1=k then(a.1,v) else a) else kvs++[(k,v)]
def dropK(kvs:List (κ×V))(k:κ):List (κ×V):=kvs.filter λa=>decide (a.1≠k)
theorem jl{p:κ×V}{r:List (κ×V)}{k:κ}(e:p.1=k):zv (p::r) k=some p.2:=by simp[zv,xR,e]
theorem q8{p:κ×V}{r:List (κ×V)}{k:κ}(e:¬ p.1=k):zv (p::r) k=zv r k:=by simp[zv,xR,e]
theorem qar(k:κ):∀ kvs:List (κ×V),(kvs.any λa=>decide (a.1=k))=(zv kvs k).isSome
 | []=>rfl
 | p::r=>by
  rw[kj];by_cases e:p.1=k
  .simp only[jl e,yA e,Bool.true_or,XI]
  .rw [q8 e,ym e,Bool.false_or];show qar k r
theorem qdF(k j:κ)(y:V):∀ kvs:List (κ×V),zv (kvs.map λa=>if a.1=k then(a.1,y) else a) j=(zv kvs j).map λx=>if j=k then y else x
 | []=>rfl
 | p::r=>by
  have b:=qdF k j y r;rw[YJ];by_cases h:p.1=k
  .rw [yG h];by_cases e:p.1=j
   .rw [jl (p:=(p.1,y)) e,jl e,ku,yG (e.symm.trans h)]
   .rw [q8 (p:=(p.1,y)) e,q8 e,b]
  .rw [yF h];by_cases e:p.1=j
   .rw [jl (p:=p) e,jl e,ku,yF (λz=>h (e.trans z))]
   .rw [q8 (p:=p) e,q8 e,b]
theorem qcM(k j:κ)(y:V):∀ kvs:List (κ×V),zv kvs k=none->zv (kvs++[(k,y)]) j=if j=k then some y else zv kvs j
 | [],_=>by
  by_cases e:k=j
  .rw [yG e.symm];show jl (p:=(k,y)) e
  .rw [yF (λz=>e z.symm)];show q8 (p:=(k,y)) e
 | p::r,hn=>by
  rw[kU];have a:¬ p.1=k:=λz=>by rw[jl z] at hn;cases hn
  rw[q8 a] at hn;have b:=qcM k j y r hn;by_cases e:p.1=j
  .rw [jl e,jl e,yF (λz=>a (e.trans z))]
  .rw [q8 e,q8 e,b]
theorem qbm(kvs:List (κ×V))(k j:κ)(y:V):zv (zR kvs k y) j=if j=k then some y else zv kvs j:=by
 unfold zR;by_cases a:(kvs.any λc=>decide (c.1=k))=true
 .rw [yG a,qdF];rw[qar] at a;by_cases e:j=k
  .obtain⟨x,b⟩:=Y7.mp a;rw[yG e,e,b,ku,yG rfl]
  .rw [yF e]
   cases zv kvs j with
   | none=>rfl
   | some x=>rw[ku,yF e]
 .rw [yF a];show qcM k j y kvs ?_;rw[qar] at a
  cases q:zv kvs k with
  | none=>rfl
  | some x=>rw[q] at a;show(a rfl).elim
theorem jV(kvs:List (κ×V))(k:κ)(v:V):(zR kvs k v).length<=kvs.length+1:=by
 unfold zR;split
 .rw [ya];lk
 .rw [yu,yB,Yk];lk
theorem qbn{kvs:List (κ×V)}{k:κ}(v:V)(h:zv kvs k=none):zR kvs k v=kvs++[(k,v)]:=by
 unfold zR;rw[qar,h];show yF (by decide)
theorem RelO.isSome_eq{u:Option Value}(r:RelO o u):o.isSome=u.isSome:=by
 cases o with
 | none=>cases u with
  | none=>rfl
  | some _=>show(show False from r).elim
 | some _=>cases u with
  | none=>show(show False from r).elim
  | some _=>rfl
theorem KV.val{kvs:List (κ×V)}{vs:List (κ×Value)}(r:KV kvs vs)(k:κ):RelO (zv kvs k) (valueAt vs k):=by
 unfold KV at r
 induction r with
 | nil=>show YV
 | @cons p q ps qs h t ih =>
  obtain⟨h1,c⟩:=h;by_cases e:p.1=k
  .have a:q.1=k:=h1.symm.trans e;have b:valueAt (q::qs) k=some q.2:=by simp[valueAt,xR,a]
   rw[jl e,b];show c
  .have a:¬ q.1=k:=λz=>e (h1.trans z);have b:valueAt (q::qs) k=valueAt qs k:=by simp[valueAt,xR,a]
   rw[q8 e,b];show ih
theorem KV.any{kvs:List (κ×V)}{vs:List (κ×Value)}(r:KV kvs vs)(k:κ):(kvs.any λa=>decide (a.1=k))=vs.any λa=>decide (a.1=k):=by
 unfold KV at r
 induction r with
 | nil=>rfl
 | cons h t ih=>rw[kj,kj,ih,h.1]
theorem KV.repl{kvs:List (κ×V)}{vs:List (κ×Value)}(r:KV kvs vs)(k:κ)(c:RelV y u) :
  KV (kvs.map λa=>if a.1=k then(a.1,y) else a) (vs.map λa=>if a.1=k then(a.1,u) else a):=by
 unfold KV at r ⊢
 induction r with
 | nil=>show .nil
 | @cons p q ps qs h t ih =>
  rw[YJ,YJ];show .cons ?_ ih;obtain⟨h1,b⟩:=h;by_cases e:p.1=k
  .rw [yG e,yG (h1.symm.trans e)];show⟨h1,c⟩
  .rw [yF e,yF (λz=>e (h1.trans z))];show⟨h1,b⟩
theorem KV.put{kvs:List (κ×V)}{vs:List (κ×Value)}(r:KV kvs vs)(k:κ)(a:RelV y u):KV (zR kvs k y) (stored vs k u):=by
 unfold zR stored;rw[r.any k];by_cases e:(vs.any λb=>decide (b.1=k))=true
 .rw [yG e,yG e];show r.repl k a
 .rw [yF e,yF e];show Paired.snoc r ⟨rfl,a⟩
theorem KV.length{kvs:List (κ×V)}{vs:List (κ×Value)}(r:KV kvs vs):kvs.length=vs.length:=Paired.length r
end
theorem qet{k:Key}(r:RelV (kV k) u):(jI P w).is k u=true:=by
 cases k with
 | inl i=>obtain⟨t,e⟩:=(show ∃ t,u=Value.int i t from r);subst e;show mixKind_int P w i t
 | inr x=>obtain⟨t,e⟩:=(show ∃ t,u=Value.str x t from r);subst e;show mixKind_str P w x t
theorem qcN:∀{ks:List Key} {us:List Value},Vals (ks.map kV) us->ItemsAre (jI P w) ks us
 | [],_,r=>by rw[List.map_nil] at r;cases r;show .nil
 | k::ks,_,r=>by
  rw[YJ] at r
  cases r with
  | cons h t=>show .cons (qet h) (qcN t)
abbrev KT(H:Hp):List (List Key×V)->List (List Key×Addr×Value)->Prop:=Paired λp q=>p.1=q.1/\H q.2.1=some (.tup (p.1.map kV))/\RelV p.2 q.2.2
theorem KT.val{xs:List (List Key×Addr×Value)}(r:KT H kvs xs)(k:List Key):RelO (zv kvs k) ((atKey xs k).map (·.2)):=by
 induction r with
 | nil=>show YV
 | @cons p q ps qs h t ih =>
  obtain⟨h1,_,c⟩:=h;by_cases e:p.1=k
  .have a:q.1=k:=h1.symm.trans e;have b:atKey (q::qs) k=some q.2:=by simp[atKey,xR,a]
   rw[jl e,b];show c
  .have a:¬ q.1=k:=λz=>e (h1.trans z);have b:atKey (q::qs) k=atKey qs k:=by simp[atKey,xR,a]
   rw[q8 e,b];show ih
theorem KT.repl{xs:List (List Key×Addr×Value)}(r:KT H kvs xs)(k:List Key)(d:RelV y u) :
  KT H (kvs.map λa=>if a.1=k then(a.1,y) else a) (xs.map (putAt k u)):=by
 induction r with
 | nil=>show .nil
 | @cons p q ps qs h t ih =>
  rw[YJ,YJ];show .cons ?_ ih;obtain⟨h1,b,c⟩:=h;unfold putAt;by_cases e:p.1=k
  .rw [yG e,yG (h1.symm.trans e)];show⟨h1,b,d⟩
  .rw [yF e,yF (λz=>e (h1.trans z))];show⟨h1,b,c⟩
theorem KT.put{xs:List (List Key×Addr×Value)}(r:KT H kvs xs)(k:List Key){b:Addr}(hb:H b=some (.tup (k.map kV)))(a:RelV y u) :
  KT H (zR kvs k y) (storedH xs k b u):=by
 have e:(kvs.any λc=>decide (c.1=k))=(atKey xs k).isSome:=by
  rw[qar,(r.val k).isSome_eq,Xp]
 unfold zR storedH;rw[e];by_cases q:(atKey xs k).isSome=true
 .rw [yG q,yG q];show r.repl k a
 .rw [yF q,yF q];show Paired.snoc r ⟨rfl,hb,a⟩
theorem KT.keeps{xs:List (List Key×Addr×Value)}(r:KT H kvs xs)(c:∀ b a,H b=some (.tup a)->H' b=some (.tup a)):KT H' kvs xs:=
 Paired.mapP r λ_ _ z=>⟨z.1,c _ _ z.2.1,z.2.2⟩
section
variable{P:Program}{w:World}{H:Hp}{h:Heap}{a:Addr}
theorem qga{u:HO}(ok:HOk P w H h)(e:Rd H a u):ObjOk P w H h a u:=e.ok ok
theorem qeb{kvs:List (Key×V)}(ok:HOk P w H h)(e:Rd H a (.dK kvs)):kvs.length<=sizeLine/\(a==sysModules)=false/\∃ vs,KV kvs vs/\h.DictOf (jI P w) a vs:=
 show ObjOk P w H h a (.dK kvs) from qga ok e
theorem qgb{kvs:List (Key×V)}(ok:HOk P w H h)(e:H a=some (.dK kvs)):kvs.length<=sizeLine/\(a==sysModules)=false/\∃ vs,KV kvs vs/\h.DictOf (jI P w) a vs:=qeb ok (.inl e)
theorem qcO{ks:List Key}(ok:HOk P w H h)(e:H a=some (.tup (ks.map kV))):(tupleKind (jI P w)).is h ks a:=by
 obtain⟨_,its,r,o,h1,b,n,c⟩:=(show ObjOk P w H h a (.tup (ks.map kV)) from ok a _ e);show⟨o,its.toArray,n,h1,b,c,by simpa using qcN r⟩
theorem qeu(ok:HOk P w H h)(e:Rd H a (.dT kvs)):kvs.length<=sizeLine/\(a==sysModules)=false /\
  ∃ xs,KT H kvs xs/\h.DictOfH (tupleKind (jI P w)) a xs:=by
 obtain⟨z,y,xs,r,o,es,ep,h1,b,c,d,f⟩:=(show ObjOk P w H h a (.dT kvs) from qga ok e);show⟨z,y,xs,r,o,es,ep,h1,b,c,d,λx hx=>?_,f⟩
 have all:∀{l:List (List Key×V)} {m:List (List Key×Addr×Value)},KT H l m->∀ x∈m,(tupleKind (jI P w)).is h x.1 x.2.1:=by
  intro l m q
  induction q with
  | nil=>intro x hx;show nomatch hx
  | @cons p q ps qs hq t ih =>
   intro x hx;rcases yv.mp hx with e | hx
   .subst e;show qcO ok (by rw[<- hq.1];show hq.2.1)
   .show ih x hx
 show all r x hx
theorem dt_of(ok:HOk P w H h)(e:H a=some (.dT kvs)):kvs.length<=sizeLine/\(a==sysModules)=false /\
  ∃ xs,KT H kvs xs/\h.DictOfH (tupleKind (jI P w)) a xs:=qeu ok (.inl e)
end
def DGet(H:Hp)(a:Addr)(y:V)(r:Option V):Prop:=
 (∃ kvs k,Rd H a (.dK kvs)/\y=kV k/\r=zv kvs k)\/∃ kvs k b,Rd H a (.dT kvs)/\y=.ref b/\H b=some (.tup (k.map kV))/\r=zv kvs k
def DPut(H:Hp)(a:Addr)(y v:V)(H':Hp):Prop:=
 (∃ kvs k,H a=some (.dK kvs)/\y=kV k/\kvs.length<sizeLine/\H'=upd H a (.dK (zR kvs k v))) \/
 ∃ kvs k b,H a=some (.dT kvs)/\y=.ref b/\H b=some (.tup (k.map kV))/\kvs.length<sizeLine/\H'=upd H a (.dT (zR kvs k v))
theorem DGet.k{kvs:List (Key×V)}{k:Key}(e:H a=some (.dK kvs)):DGet H a (kV k) (zv kvs k):=.inl ⟨kvs,k,.inl e,rfl,rfl⟩
theorem DPut.k{kvs:List (Key×V)}{k:Key}{v:V}(e:H a=some (.dK kvs))(hl:kvs.length<sizeLine):DPut H a (kV k) v (upd H a (.dK (zR kvs k v))):=.inl ⟨kvs,k,e,rfl,hl,rfl⟩
section
variable{X:Cx}{pins:List (Addr×Obj)}{σ:St}{H:Hp}{s:Shared}{a:Addr}{y v:V}{u r:Value}{o:Option V}{A:Around}{E:Value->Shared->Prop}
theorem Inv.big(I:Inv X pins σ H s):sysModules<s.heap.objs.size:=by
 have h:mainGlobals<s.heap.objs.size:=(I.mod.glob.keeps I.bk).lt;show Nat.lt_trans (by decide) h
theorem d_getItem{Q:Value->Shared->Prop}(x:A.units+1<cLine)(I:Inv X pins σ H s)(g:DGet H a y (some v))(n:RelV y u)(h:∀ f s',Inv X pins σ H s'->RelV v f->Q f s') :
  wpAny (model X.prog X.w) A (getItem (.ref a) u) Q E s:=by
 rcases g with⟨kvs,k,e,j,l⟩ | ⟨kvs,k,b,e,j,q,l⟩
 .subst j;obtain⟨z,r,vs,c,i⟩:=qeb I.hok e;obtain⟨f,hw,d⟩:=RelO.some_of (v:=v) (o:=valueAt vs k) (by rw[l];show c.val k);show wpAny_getItem_of (qet n) i.mapOf hw (h f _ (I.tok _) d)
 .subst j;cases (show u=Value.ref b from n);obtain⟨z,r,xs,c,i⟩:=qeu I.hok e;obtain⟨f,hw,d⟩:=RelO.some_of (v:=v) (o:=(atKey xs k).map (·.2)) (by rw[l];show c.val k);obtain⟨p,t,m⟩:=yo.mp hw;show wpAny_getItem_heap (XJ x) (qcO I.hok q) i t ?_;rw[m];show h f _ (I.tok _) d
theorem d_in{Q:Value->Shared->Prop}(n:A.units+1<cLine)(I:Inv X pins σ H s)(g:DGet H a y o)(j:RelV y u)(h:∀ s',Inv X pins σ H s'->Q (.bool o.isSome) s') :
  wpAny (model X.prog X.w) A (compareOp .In u (.ref a)) Q E s:=by
 rcases g with⟨kvs,k,e,f,l⟩ | ⟨kvs,k,b,e,f,m,l⟩
 .subst f;obtain⟨z,i,vs,c,d⟩:=qeb I.hok e;show wpAny_in_of (qet j) i d.mapOf ?_;rw[<- (c.val k).isSome_eq,<- l];show h _ (I.tok _)
 .subst f;cases (show u=Value.ref b from j);obtain⟨z,i,xs,c,d⟩:=qeu I.hok e;show wpAny_in_heap (XJ n) (qcO I.hok m) i d ?_;have q:=(c.val k).isSome_eq;rw[Xp] at q;rw[<- q,<- l];show h _ (I.tok _)
theorem d_notIn{Q:Value->Shared->Prop}(n:A.units+1<cLine)(I:Inv X pins σ H s)(g:DGet H a y o)(j:RelV y u)(h:∀ s',Inv X pins σ H s'->Q (.bool (!o.isSome)) s') :
  wpAny (model X.prog X.w) A (compareOp .NotIn u (.ref a)) Q E s:=by
 rcases g with⟨kvs,k,e,f,l⟩ | ⟨kvs,k,b,e,f,m,l⟩
 .subst f;obtain⟨z,i,vs,c,d⟩:=qeb I.hok e;show wpAny_notIn_of (qet j) i d.mapOf ?_;rw[<- (c.val k).isSome_eq,<- l];show h _ (I.tok _)
 .subst f;cases (show u=Value.ref b from j);obtain⟨z,i,xs,c,d⟩:=qeu I.hok e;show wpAny_notIn_heap (XJ n) (qcO I.hok m) i d ?_;have q:=(c.val k).isSome_eq;rw[Xp] at q;rw[<- q,<- l];show h _ (I.tok _)
theorem qev{c:HO}(I:Inv X pins σ H s)(g:Mut (H a))(f:Heap.SameBut a s.heap h')(d:∃ q,h'.get? a=some q)(new:ObjOk X.prog X.w (upd H a c) h' a c) :
  Inv X pins σ (upd H a c) { s with heap:=h',toks:=t' }:=
 I.write (x:=a) (e:=a) g (.inl rfl) (λb q hb z=>(f.2 b hb).trans z) d new
theorem dk_new{kvs:List (Key×V)}{vs:List (Key×Value)}(z:kvs.length<=sizeLine)(d:(a==sysModules)=false)(b:KV kvs vs)(c:h'.DictOf (jI P w) a vs) :
  ObjOk P w H' h' a (.dK kvs):=⟨z,d,vs,b,c⟩
theorem d_setItem{Q:Unit->Shared->Prop}(M:A.units+1<cLine)(I:Inv X pins σ H s)(g:DPut H a y v H')(D:RelV y u)(C:RelV v r)(h:∀ s',Inv X pins σ H' s'->Q () s') :
  wpAny (model X.prog X.w) A (setItem (.ref a) u r) Q E s:=by
 rcases g with⟨kvs,k,e,n,l,m⟩ | ⟨kvs,k,b,e,n,x,l,m⟩
 .subst n m;obtain⟨z,o,vs,d,j⟩:=qgb I.hok e;have t:vs.length<=sizeLine:=by rw[<- d.length];show z
  have hl:(zR kvs k v).length<=sizeLine:=by have:=jV kvs k v;lk
  show wpAny_setItem_pairs (hsz:=t) (qet D) j λh' f p=>h _ ?_;have L:∃ q,h'.get? a=some q:=let ⟨q,_,_,i,_⟩:=f;⟨q,i⟩;show qev I (by rw[e];show YV) p L (dk_new hl o (d.put k C) f)
 .subst n m;cases (show u=Value.ref b from D);obtain⟨z,o,xs,d,j⟩:=dt_of I.hok e;have t:xs.length<=sizeLine:=by rw[<- Paired.length d];show z
  have hl:(zR kvs k v).length<=sizeLine:=by have:=jV kvs k v;lk
  show wpAny_setItem_heap (hsz:=t) (XJ M) (qcO I.hok x) j λh' f p=>h _ ?_;obtain⟨q,es,ep,i,F,G,J,_,K⟩:=f;show qev I (by rw[e];show YV) p ⟨q,i⟩ ⟨hl,o,_,(d.put k x C).keeps λc N B=>?_,q,es,ep,i,F,G,J,K⟩;rw[qg (qaZ B e (λz=>nomatch z))];show B
end
section
variable{X:Cx}{pins:List (Addr×Obj)}{σ:St}{H:Hp}{s:Shared}{a:Addr}{kvs:List (Key×V)}{k:Key}{u:Value}{A:Around}{E:Value->Shared->Prop}
theorem d_len{Q:Value->Shared->Prop}(I:Inv X pins σ H s)(e:Rd H a (.dK kvs))(h:∀ t s',Inv X pins σ H s'->Q (.int kvs.length t) s'):wpAny (model X.prog X.w) A (call (.builtin "len") [.ref a]) Q E s:=by
 obtain⟨z,d,vs,b,c⟩:=qeb I.hok e;show call_len_dict d c (by rw[<- b.length];rw[YT] at z;lk) ?_;rw[<- b.length];show h _ _ (I.tok _)
end
theorem dict_typeIs{X:Cx}(I:Inv X pins σ H s)(g:DGet H a y o):s.TypeIs (.ref a) "dict":=by
 rcases g with⟨kvs,k,e,_,_⟩ | ⟨kvs,k,b,e,_,_,_⟩
 .obtain⟨_,_,vs,_,c⟩:=qeb I.hok e;show c.typeIs
 .obtain⟨_,_,xs,_,c⟩:=qeu I.hok e;show c.typeIs
section
variable{X:Cx}{o i e value:Expr}{pos pos' tpos:Pos}{td ty tv:TE}
end
theorem dk_empty(h:Heap)(hb:sysModules<h.objs.size):ObjOk P w H (h.push { cls:=.type "dict",data:=.dict #[] }) h.objs.size (.dK []):=
 ⟨Yy _,YB.mpr (Yh (Yi hb)),[],.nil,Heap.DictOf.new h⟩
def tDNewK:TE:=λ_ H Q=>∀ p,H p=none->Q (.ref p) (upd H p (.dK []))
section
variable{X:Cx}{pos:Pos}
theorem jr:PE X (.Dict [] [] pos) tDNewK:=λpins s σ H Q I h =>
 wpAny_Dict_empty ⟨.ref s.heap.objs.size,_,I.laid (a:=s.heap.objs.size) (o:=.dK []) (t':=s.toks) (λ_ _ q=>yy _ q) (yh _) (dk_empty s.heap I.big),rfl,h _ (I.hok.fresh (yh _))⟩
end
def mergeK(kvs a:List (Key×V)):List (Key×V):=a.foldl (λacc b=>zR acc b.1 b.2) kvs
structure M1(X:Cx)(o:Expr)(m:Str)(apos:Pos)(e:Expr)(cpos:Pos):Prop where
 base:attributeBase o m X.env (eval o X.env)=eval o X.env
 few:((backTo cpos (starEach [e] X.env)).all (λx=>!x.1)&&(backToKw cpos (keywordEach [] X.env)).all (λx=>x.1.isSome)
  && decide (([e]:List Expr).length+([]:List Keyword).length+(if ([]:List Keyword).isEmpty then 0 else 1)<30))=true
 line:(apos.endLine==cpos.line)=true
 trees:backTo cpos (starEach [e] X.env)=[(false,eval e X.env)]
structure M2(X:Cx)(o:Expr)(m:Str)(apos:Pos)(e f:Expr)(cpos:Pos):Prop where
 base:attributeBase o m X.env (eval o X.env)=eval o X.env
 few:((backTo cpos (starEach [e,f] X.env)).all (λx=>!x.1)&&(backToKw cpos (keywordEach [] X.env)).all (λx=>x.1.isSome)
  && decide (([e,f]:List Expr).length+([]:List Keyword).length+(if ([]:List Keyword).isEmpty then 0 else 1)<30))=true
 line:(apos.endLine==cpos.line)=true
 trees:backTo cpos (starEach [e,f] X.env)=[(false,eval e X.env),(false,eval f X.env)]
def IsD(H:Hp)(a:Addr):Prop:=(∃ kvs,Rd H a (.dK kvs))\/∃ kvs,Rd H a (.dT kvs)
section
variable{X:Cx}{pins:List (Addr×Obj)}{σ:St}{H:Hp}{s:Shared}{a:Addr}{y d:V}{u r:Value}{o:Option V}{A:Around}{E:Value->Shared->Prop}
end
def tDGet2(e ty f:TE):TE:=fun σ H Q=>e σ H λx b=>∃ a,x=.ref a/\IsD b a/\ty σ b λy d=>f σ d λz c=>∃ o,DGet c a y o/\Q (o.getD z) c
section
variable{X:Cx}{o e f:Expr}{apos cpos:Pos}{td ty tx:TE}
end
section
variable{X:Cx}{pins:List (Addr×Obj)}{σ:St}{H:Hp}{s:Shared}{a:Addr}{kvs:List (Key×V)}{A:Around}{E:Value->Shared->Prop}
end
section
variable{X:Cx}{pins:List (Addr×Obj)}{σ:St}{H:Hp}{s:Shared}{a:Addr}{y:V}{u:Value}{A:Around}{E:Value->Shared->Prop}
end
end L2
namespace Att
open PySem PySem.W PySem.Calls PyProof.Rows
variable{P:Params}{h:Heap}{l:OpenLaw}{n:Nat}
theorem ints_of_wellAll:∀(ns:LY) (vs:List Value),WellAll P h vs (ns.map WData.int)->IntsAre vs ns:=by
 intro ns
 induction ns with
 | nil =>
  intro vs w;rw[List.map_nil] at w;cases w;show .nil
 | cons n ns ih =>
  intro vs w;rw[YJ] at w
  cases w with
  | cons a b =>
   cases a;show .cons _ _ (ih _ b)
theorem script_of(p:l.most=some n){args:List WData}{c:List Value}
  (b:l.row.toRowW.claim.pre args=true) (j:WellAll P h c args) :
  ∃ a vs ns,c=[Value.ref a]/\args=[WData.list (ns.map WData.int)]/\h.get? a=some { cls:=.type "list",data:=.seq vs.toArray }/\IntsAre vs ns/\ns.length<=n:=by
 have i:WShape.hasAll [] args [.list .int]=true:=(pre_splitW b).1;have hc:l.pre.holds [] { args:=args }=true:=(pre_splitW b).2;obtain⟨d,r,rfl,h1,m⟩:=hasAllW_cons i;obtain rfl:=hasAllW_nil m;obtain⟨xs,rfl,o⟩:=hasW_list h1;obtain⟨ns,rfl⟩:=items_int o
 have e:ns.length<=n:=by
  unfold OpenLaw.pre at hc
  have f:(WTm.not (.lt (.lit (.int (n:Int))) (.len (.arg 0)))).holds [] { args:=[.list (ns.map .int)] }=true:=by
   have f:=(holds_andW hc).1;rw[p] at f;show f
  have g:=condW_of f (w_not (w_lt w_lit (w_len_list (w_arg rfl))));rw[ya] at g;show Nat.le_of_not_lt λq=>?_;have s:(n:Int)<((ns.length:Nat):Int):=by lk
  first
   | (rw[yA s] at g;show absurd g (by decide))
   | (simp at g;lk)
 cases j with
 | cons w1 w2 =>
  cases w2
  cases w1 with
  | list ho hall=>show⟨_,_,ns,rfl,rfl,ho,ints_of_wellAll ns _ hall,e⟩
theorem post_true(l:OpenLaw)(args:List WData):l.row.toRowW.claim.post args (.bool true) args=true:=
 postW_of (r:=l.row.toRowW) (X:=(true==true))
  (show WShape.has [] (.bool true) .bool=true by first | rfl | decide | simp[WShape.has,WShape.arms,WShape.armsAll])
  (show(WTm.eq .res (.lit (.bool true))).value [] { args:=args,res:=some (.bool true),after:=args }=some (.bool (true==true)) from w_eq_bool (w_res rfl) w_lit) rfl
theorem attach_call{q:Program}{loose:LS}{XP:(Str->Option Value)->Heap->Prop}{YP:World->Heap->Prop}{d:DefRec}
  (M:l.most=some n) (u:d.params.defaults=[])
  (call:∀(w:World) (c b:Shared) (s y:Str->Option Value) (h:Addr) (o:Obj) (z p e:Value) (a:Addr) (vs:List Value) (ns:LY),
   Ground q loose [] XP w c s y b.heap->YP w b.heap ->
   b.heap.get? h=some o->o.data=.func (docDef d.name d.params d.body d.scope z p e)->b.heap.CodeRec p d.name->s d.name=some (.ref h) ->
   b.heap.get? a=some { cls:=.type "list",data:=.seq vs.toArray }->IntsAre vs ns->ns.length<=n->b.gens=#[] ->
   codeAny (model l.prog w) callerA (.call (.ref h) ⟨[.ref a],[]⟩) (λr s'=>r=.ok (.ret (.bool true))/\OldK b.heap s'.heap/\s'.os=b.os/\AllBare s'.gens) b) :
  WalkO q loose XP YP l.row.toRowW d [] (λf vs=>PySem.call f vs):=by
 intro w c b s y G Y h o z p e D kV N I t A v J args C as m B P x K;obtain rfl:D=.none:=Dflts.none A u;obtain rfl:kV=.none:=Dflts.noKw A;obtain⟨a,vs,ns,rfl,rfl,j,g,i⟩:=script_of M m x;show enter_call (xH (call w c b s y h o z p e a vs ns G Y N (fd_plain I) t v j g i J) λr s' O=>?_);obtain⟨rfl,E,F,H⟩:=O;show⟨.inl ⟨.bool true,.bool true,[],rfl,λ_=>rfl,.bool true,post_true l _,λ_=>⟨List.Pairwise.nil,λ_ L=>(nomatch L)⟩⟩,E,F,H⟩
section
variable{prog:Program}{w:World}{A:Around}{E:Value->Shared->Prop}{s:Shared}{K:Frag}
def ledger(h:Heap)(L d:Addr):List (Addr×Obj):=(List.range h.objs.size).filterMap λa=>if a=L\/a=d then none else(h.get? a).map λo=>(a,o)
end
end Att
namespace L2
open PySem PySem.Spec PyProof.Rows
variable{A B:Prop}{H H':Hp}{a f:Addr}{fd:FuncData}{n:Nat}{ps:LS}{qual x:Str}{sp:Sp}{st:Stmt}
theorem qcP:∀{vs:List Value} {ns:LY},IntsAre vs ns->Vals (ns.map V.int) vs
 | _,_,.nil=>.nil
 | _,_,.cons n t h=>.cons ⟨t,rfl⟩ (qcP h)
def qgH(H:Hp):Prop:=∀ b,H b=none\/∃ o xs,H b=some (.frz o (.lst xs))
theorem law_call{P:Program}{w:World}{K:yg}{C O:Str->Option Value}{CX:CXT}{k:Nat}{I:Addr}{c:Shared}{vs:List Value}{ns:LY}
  (S:K.In c.heap) (t:c.heap.Ns mainGlobals C) (hb:c.heap.Ns builtinsNs O) (L:∀ x:Str,x≠"__name__"->O x=bootBuiltins x) (p:c.heap.NoLimit) (hg:c.gens=#[])
  (E:c.heap.get? a=some { cls:=.type "list",data:=.seq vs.toArray }) (X:IntsAre vs ns) (hl:ns.length<=sizeLine) (hr:Room k callerA)
  (F:∀ base:Heap,K.In base->base.Ns mainGlobals C->FnOk P w K C base CX k I fd [x] sp) (i:∀(s:Shared) (u:Value),BindsTo s fd ⟨[u],[]⟩ [(x,u)])
  (N:∀ H:Hp,qgH H->SqL K H a (ns.map V.int)->sp [.ref a] H (λv _=>v=.bl true) λ_ _ _=>False)
  (J:∀ H e s',CX [] H c (λ_ _ _=>False) e s'->False) :
  codeAny (model P w) callerA (.call (.ref I) ⟨[.ref a],[]⟩) (λr s'=>r=.ok (.ret (.bool true))/\OldK c.heap s'.heap/\s'.os=c.os/\AllBare s'.gens) c:=by
 have Y:=qcP X;have B:=X.length;have g:∀ H:Hp,qgH H->SqL K H a (ns.map V.int)->HOk P w H c.heap->(∀ b,H b≠none->b=a)->(H a≠none->K.lookup a=none) ->
   codeAny (model P w) callerA (.call (.ref I) ⟨[.ref a],[]⟩) (λr s'=>r=.ok (.ret (.bool true))/\OldK c.heap s'.heap/\s'.os=c.os/\AllBare s'.gens) c:=by
  intro H W hS y U hK;have base_of:∀{b:Addr} {o:Obj},c.heap.get? b=some o->H b=none->(qe4 c.heap H).get? b=some o:=λe n=>hidT_get e n
  have R:∀{b:Addr} {o:Obj} {es:Array DictEntry} {ep:Nat},c.heap.get? b=some o->o.data=.dict es ep->H b=none:=λ{b o es ep} e d=>by
   cases q:H b with
   | none=>rfl
   | some u =>
    have G:b=a:=U b (by rw[q];simp);subst G;rw[E] at e;cases e;have d':Data.seq vs.toArray _=Data.dict es ep:=d;cases d'
  have f:∀{b:Addr} {m:Str->Option Value},c.heap.Ns b m->(qe4 c.heap H).Ns b m:=λ{b m} ⟨o,es,ep,e,d,r⟩=>⟨o,es,ep,base_of e (R e d),d,r⟩
  have l:K.In (qe4 c.heap H):=λb o e=>base_of (S b o e) (by
   cases q:H b with
   | none=>rfl
   | some u =>
    have G:b=a:=U b (by rw[q];simp);subst G;rw[hK (by rw[q];simp)] at e;cases e)
  have hM:Mod K C (qe4 c.heap H):=⟨l,f t,⟨O,f hb,L⟩,let ⟨mc,h1,h2⟩:=p;⟨mc,f h1,h2⟩⟩;have Z:Env0 P w K C (qe4 c.heap H) callerA [] c H:=⟨rfl,hM,λb o e=>of_hidT e,XT (hidT_size _ _),trivial,λb hb=>absurd (show b∈([]:LX) from hb) (by simp),y,.of_eq hg⟩;show xH ((F _ l (f t)).run callerA [] c H ⟨[.ref a],[]⟩ [.ref a] [.ref a] _ _ hr Z (i c (.ref a)) (.cons rfl .nil) (N H W hS)) λr s' h=>?_
  cases r with
  | error e=>show(J H e s' h).elim
  | ok fl =>
   cases fl with
   | next=>show False.elim h
   | brk=>show False.elim h
   | cont=>show False.elim h
   | ret u =>
    obtain⟨v,H',os,j,un,A,r',q⟩:=h;have q':v=.bl true:=q;subst q';obtain rfl:u=Value.bool true:=r';show⟨rfl,OldK.of_keep λb o e=>?_,os,j⟩
    cases q:H b with
    | none=>show un.keep b o e q (by intro z;show absurd (show b∈([]:LX) from z) (by simp)) (by simp)
    | some u =>
     rcases W b with z | ⟨ob,xs,z⟩
     .rw [q] at z;cases z
     .have z2:=un.frzs b ob _ z;obtain⟨T,_⟩:=y b _ z;obtain⟨e2,_⟩:=A b _ z2;rw[e] at T;cases T;show e2
 cases M:K.lookup a with
 | some o =>
  have e:=S a o M;rw[E] at e;cases e;show g (λ_=>none) (λ_=>.inl rfl) (.inr ⟨_,vs.toArray,_,M,rfl,rfl,rfl,by rw[yD,B];show hl,by simpa using Y⟩) (λb u z=>by have D:(none:Option HO)=some u:=z;cases D) (λb z=>absurd rfl z) λz=>absurd rfl z
 | none =>
  show g (λb=>if b=a then some (.frz { cls:=.type "list",data:=.seq vs.toArray } (.lst (ns.map V.int))) else none) (λb=>?_) (.inl (.inr ⟨{ cls:=.type "list",data:=.seq vs.toArray },yG rfl⟩)) (λb u z=>?_) (λb z=>?_) λ_=>M
  .by_cases hb:b=a
   .show .inr ⟨_,_,yG hb⟩
   .show .inl (yF hb)
  .by_cases hb:b=a
   .have D:=(yG hb).symm.trans z;cases D;subst hb;show⟨E,by rw[ya];show hl,vs,_,Y,E⟩
   .have D:=(yF hb).symm.trans z;cases D
  .by_cases hb:b=a
   .show hb
   .show absurd (yF hb) z
abbrev KOf{K:yg}{h:Heap}(_:K.In h):yg:=K
theorem walk_of{l:PySem.W.OpenLaw}{k:Nat}{q:Program}{loose:LS}{XP:(Str->Option Value)->Heap->Prop}{YP:World->Heap->Prop}{d:DefRec}{K:Params->yg}{CX:World->CXT}{sp:World->Sp}
  (P:l.most=some n) (A:n<=sizeLine) (y:d.params.defaults=[]) (R:Room k callerA)
  (M:∀(w:World) (h:Heap),YP w h->(K w.params).In h)
  (F:∀(w:World) (j:Str->Option Value) (r:Addr) (h:Heap),(K w.params).In h->h.Ns mainGlobals j->j d.name=some (.ref r) ->
   ∃ fd:FuncData,(∀(s:Shared) (u:Value),BindsTo s fd ⟨[u],[]⟩ [(x,u)]) /\
    ∀ base:Heap,(K w.params).In base->base.Ns mainGlobals j->FnOk l.prog w (K w.params) j base (CX w) k r fd [x] (sp w))
  (B:∀(w:World) (H:Hp) (a:Addr) (ns:LY),ns.length<=n->qgH H->SqL (K w.params) H a (ns.map V.int)->sp w [.ref a] H (λv _=>v=.bl true) λ_ _ _=>False)
  (t:∀(w:World) (H:Hp) (s:Shared) (e:Value) (s':Shared),CX w [] H s (λ_ _ _=>False) e s'->False) :
  PySem.W.WalkO q loose XP YP l.row.toRowW d [] (λf vs=>PySem.call f vs):=by
 show Att.attach_call P y λw D p j Z r o pm S E a vs ns G Y X U N z m i c O=>?_;have C:=M w _ Y;obtain⟨fd,hb,I⟩:=F w j r _ C G.T.g z;show law_call C G.T.g G.T.b G.T.builtins G.T.nolimit O m i (yi c A) R I hb (λH J L=>B w H a ns c J L) λH e s'=>t w H p e s'
abbrev CX0:CXT:=λ_ _ _ _ _ _=>False
abbrev E0:XK:=λ_ _ _=>False
theorem qF{X:Cx}:qab CX0 X E0:=λ_ _ _ _ _ _ _ h=>h.elim
structure Fun(K:yg)(x qual:Str)(st:Stmt)(f:Addr)(fd:FuncData):Prop where
 ex:∃(oc:Value) (od:Option Addr) (kV doc pm:Value) (an:Option Addr) (cdv ct:Value) (osl:Array (Option Value)),
  fd=PySem.W.fnOf x qual (qaD st) (zS st) (qh st) .none kV doc pm an cdv ct/\K.lookup f=some ⟨oc,od,.func fd,osl⟩/\PySem.W.codeIn K cdv qual=true
 kp:PySem.W.keepIn K (.ref f)=true
section
variable{P:Program}{w:World}{K:yg}{mg:Str->Option Value}{base:Heap}
theorem Fun.ok{N:LS}{k:Nat}(F:Fun K x qual st f fd)(S:FnScope N ps (qh st)) (c:∀(b:Value) (A:Around) (a:List Env) (s:Shared) (H:Hp) (vs:List V) (Q:VK) (E:XK),Room k (A.deeper (envOfC qual (qh st) s.heap.objs.size f b))->sp vs H Q E ->
   ∃ t,PSs (qfh CX0 P w K mg base N qual (qh st) f b A a s H E).nox (zS st) t/\t { nx:=λ_ H'=>Q .non H',rt:=Q } (start N vs) H) (len:∀ vs H Q E,sp vs H Q E->vs.length=ps.length:=by intro _ _ _ _ h;cases h;subst_vars;rfl):wqP (k+1) f fd ps sp:=by
 obtain⟨n,od,kV,g,o,m,b,ct,l,rfl,j,d⟩:=F.ex;show qf8 j d S len λA a s H vs Q E i e=>?_;obtain⟨t,h,q⟩:=c b A a s H vs Q E i e;show⟨t,h.nox,q⟩
theorem Fun.binds(F:Fun K x qual st f fd)
  (h:∀(kV b d:Value) (c:Option Addr) (a ct:Value) (us:List Value),us.length=ps.length->bindArgs (PySem.W.fnOf x qual (qaD st) (zS st) (qh st) .none kV b d c a ct) ⟨us,[]⟩=pure (ps.zip us)):Binds K fd ps []:=by
 obtain⟨j,od,kV,b,d,c,a,ct,g,rfl,i,e⟩:=F.ex;show .all (h kV b d c a ct)
theorem fun_mk{h:Value}{od e:Option Addr}{d:Array (Option Value)}{kV b g a ct:Value}(l:K.lookup f=some ⟨h,od,.func (PySem.W.fnOf x qual (qaD st) (zS st) (qh st) .none kV b g e a ct),d⟩)
  (c:PySem.W.codeIn K a qual=true) (k:PySem.W.keepIn K (.ref f)=true):Fun K x qual st f (PySem.W.fnOf x qual (qaD st) (zS st) (qh st) .none kV b g e a ct):=⟨⟨h,od,kV,b,g,e,a,ct,d,rfl,l,c⟩,k⟩
end
theorem qv(h:n<=1000):n<sizeLine:=Yj h (by decide)
section
variable{X:Cx}
theorem pv(i:Nat){b:Pos}(c:X.N[i]?=some x:=by rfl)(hv:Vis X.env.scope x:=by first | show yK rfl | show XC (yK rfl) | show XC (XC rfl))(d:(x==("__debug__":Str))=false:=by decide)
  (a:(x==("__classdict__":Str))=false:=by decide):PE X (.Name x b) (qfG i):=pe_var c hv d a
theorem call_lenD:zI X (.builtin "len") (λxs H Q=>∃ a kvs,xs=[V.ref a]/\H a=some (.dK kvs)/\Q (.int kvs.length) H):=by
 intro b s f H xs us Q I r h;obtain⟨a,kvs,rfl,d,q⟩:=h;obtain⟨u,rfl,e⟩:=qa2 r;cases e;show d_len I (.inl d) λt s' c=>⟨.int kvs.length,H,c,⟨t,rfl⟩,q⟩
end
theorem zd(h:A):if true=true then A else B:=by
 rw[yG rfl];show h
theorem qL{c:Prop}[Decidable c](h1:c->A)(a:¬ c->B):if c then A else B:=by
 by_cases h:c
 .rw [yG h];show h1 h
 .rw [yF h];show a h
def Same(H H':Hp):Prop:=∀ b o,H b=some o->H' b=some o
theorem Same.refl(H:Hp):Same H H:=λ_ _ h=>h
theorem Same.trans{d e:Hp}(a:Same H d)(b:Same d e):Same H e:=λc o h=>b c o (a c o h)
theorem Same.free(e:Same H H'){l:Addr}(h:H' l=Option.none):H l=Option.none:=by
 cases q:H l with
 | none=>rfl
 | some o =>
  rw[e l o q] at h;cases h
theorem Same.seq{K:yg}{xs:List V}(e:Same H H')(h:SqL K H a xs):SqL K H' a xs:=by
 rcases h with(h | ⟨o,h⟩) | h
 .show .inl (.inl (e _ _ h))
 .show .inl (.inr ⟨o,e _ _ h⟩)
 .show .inr h
section
variable{κ:Type}[DecidableEq κ]
end
end L2
set_option maxHeartbeats 4000000
namespace L2
open PySem PySem.Spec PyProof.Rows
variable{A:Around}{C D a a0 c e f it p:Addr}{E:Value->Shared->Prop}{H H':Hp}{M:Model}{N ps:LS}{P prog:Program}{QO:Option Int->Hp->Prop}{R:It->Hp->Prop}{T:String}{X:Cx}{acc:List (Str×Addr)}{b expr:Bool}{dx:Option Addr}{elt iter tg:Expr}{env:Env}{fd:FuncData}{fl t u:Value}{fp zs:LX}{g:TG}{h h':Heap}{i j:Int}{ifs:List Expr}{its l us:List Value}{ixs:LN}{n nl:Nat}{od:Option Obj}{ox:Obj}{pins:List (Addr×Obj)}{pos:Pos}{qual x z:Str}{s:Shared}{sc scope:Scope}{sp:Sp}{tc:TT}{te:TE}{tk:Tok}{v y:V}{vs xs ys:List V}{w:World}{wi:TI}{σ:St}
section
variable{prog:Program}{w:World}{A:Around}{R:Result->Shared->Prop}{s:Shared}
theorem compLoop_own{a:Expr}{it acc:Value}(I:Nat->Shared->Prop)
  (turn:∀ n s,I n s->wpAny (model prog w) A (pyNext it) (λr e=>match r with
   | none=>R (.ok .next) e
   | some v=>wpAny (model prog w) A (letOwnedTupleGo a it v) (λ_ b=>wpAny (model prog w) A (assign a env v) (λ_ i =>
     wpAny (model prog w) A (forIn ifs true λc r=>if r=true then do let ok <- isTrue c env (eval c env);pure (ForInStep.yield ok) else pure (ForInStep.yield r)) (λok f =>
      if ok=true then wpAny (model prog w) A (eval elt env) (λx j =>
       wpAny (model prog w) A (call (.builtin "list.append") [acc,x]) (λ_ l=>∃ m,m<n/\I m l) (λ_ _=>False) j) (λ_ _=>False) f
      else ∃ m,m<n/\I m f) (λ_ _=>False) i) (λ_ _=>False) b) (λ_ _=>False) e) (λ_ _=>False) s)
  (n:Nat) (h:I n s) :
  codeAny (model prog w) A (.compLoop (.ListComp elt [⟨a,iter,ifs,0⟩] scope pos) 0 it acc env) R s:=by
 show codeAny_loop rfl I (λn s t=>?_) n h;show wpAny _ A ((compTurn (.ListComp elt [⟨a,iter,ifs,0⟩] scope pos) 0 it acc env).onRaise (λx=>do noteFrame x env;theTreesLotGoes x)) _ _ s;show wpAny_noted ?_;rw[compTurn_list];show yt (Xn (yt (YC (turn n s t) (λr e h1=>?_) λ_ _ h'=>h'.elim)))
 cases r with
 | none=>show yz h1
 | some v =>
  show yt (YC h1 (λ_ b d=>?_) λ_ _ h'=>h'.elim);show yt (YC d (λ_ i o=>yt (YC o (λok f g=>?_) λ_ _ h'=>h'.elim)) λ_ _ h'=>h'.elim)
  cases ok with
  | false=>show yz ⟨rfl,g⟩
  | true =>
   show yt (yt (YC g (λx j p=>yt (YC p (λ_ l q=>yz (yz ⟨rfl,q⟩)) λ_ _ h'=>h'.elim)) λ_ _ h'=>h'.elim))
end
def qM(env:Env):List (Str×NameKind)->List (Str×Addr)->List (Str×Addr)
 | [],acc=>acc
 | (n,k)::r,acc=>qM env r (if (k==.free)=true then(n,(env.cells.lookup n).getD 0)::acc else acc)
theorem zT:∀{names:List (Str×NameKind)} {acc:List (Str×Addr)} {x:Str} {c:Addr},(qM env names acc).lookup x=some c ->
  ((x,NameKind.free)∈names/\c=(env.cells.lookup x).getD 0)\/acc.lookup x=some c
 | [],_,_,_,h=>.inr h
 | (n,k)::r,acc,x,c,h=>by
  unfold qM at h;rcases zT h with⟨h1,f⟩ | h1
  .show .inl ⟨yE _ h1,f⟩
  .by_cases a:(k==NameKind.free)=true
   .rw [yG a,Xb] at h1
    cases b:x==n with
    | true =>
     rw[b] at h1;have e:x=n:=Yl.mp b;have d:k=.free:=Yl.mp a;subst e d;show .inl ⟨yL,(yn h1).symm⟩
    | false =>
     rw[b] at h1;show .inr h1
   .rw [yF a] at h1;show .inr h1
theorem qaI:∀{names:List (Str×NameKind)} {acc:List (Str×Addr)} {x:Str},(∃ c,acc.lookup x=some c)->∃ c,(qM env names acc).lookup x=some c
 | [],_,_,h=>h
 | (n,k)::r,acc,x,h=>by
  unfold qM;apply qaI;by_cases a:(k==NameKind.free)=true
  .rw [yG a,Xb]
   cases b:x==n with
   | true=>show⟨_,rfl⟩
   | false=>show h
  .rw [yF a];show h
theorem zU:∀{names:List (Str×NameKind)} {acc:List (Str×Addr)} {x:Str},(x,NameKind.free)∈names->∃ c,(qM env names acc).lookup x=some c
 | [],_,_,h=>by cases h
 | (n,k)::r,acc,x,h=>by
  unfold qM;rcases yv.mp h with e | e
  .cases e;apply qaI;rw[show(NameKind.free==NameKind.free)=true from rfl,yG rfl,Xb,Xc];show⟨_,rfl⟩
  .show zU e
theorem qaJ(h:∀ n,(n,NameKind.free)∈scope.names->∃ c,env.cells.lookup n=some c):closureFor scope env=pure (qM env scope.names []):=by
 have f:∀(names:List (Str×NameKind)) (acc:List (Str×Addr)),(∀ n,(n,NameKind.free)∈names->∃ c,env.cells.lookup n=some c) ->
   (forIn names acc (λ(x:Str×NameKind) (r:List (Str×Addr))=>(if (x.2==NameKind.free)=true then(cellOf env x.1>>=λc=>pure (ForInStep.yield ((x.1,c)::r))) else pure (ForInStep.yield r):Sem (ForInStep (List (Str×Addr))))))=(pure (qM env names acc):Sem (List (Str×Addr))):=by
  intro names
  induction names with
  | nil=>intro acc _;rfl
  | cons x r ih =>
   intro acc d;obtain⟨n,k⟩:=x;rw[List.forIn_cons];unfold qM;by_cases a:(k==NameKind.free)=true
   .have g:k=.free:=Yl.mp a;subst g;obtain⟨c,hc⟩:=d n yL;have i:cellOf env n=pure c:=by unfold cellOf;rw[hc]
    simp only[a,Xy,i,hc,Option.getD_some];show ih _ λm b=>d m (yE _ b)
   .simp only[a,XU];show ih _ λm b=>d m (yE _ b)
 have e:=f scope.names [] h;unfold closureFor;show Eq.trans (congrArg (λm=>m>>=pure) e) rfl
@[reducible] def Cx.comp(X:Cx)(N:LS)(scope:Scope)(C:Addr)(s0:Shared)(H0:Hp)(ex:LX):Cx where
 prog:=X.prog
 w:=X.w
 K:=X.K
 mg:=X.mg
 base:=X.base
 A:=X.A
 N:=N
 s₀:=s0
 H₀:=H0
 env:=compEnvC scope (cellsFrom (C+1) scope.names (qM X.env scope.names [])) C X.env
 outer:=X.stack
 stack:=X.stack
 ex:=ex
 fn:=λx=>scope.names.lookup x==some NameKind.cell
 calm:=X.calm
 pn:=[]
 xe:=λ_ _=>False
theorem jA:∀(names:List (Str×NameKind)) (n:Nat) (acc:List (Str×Addr)),cellsFrom n names acc=cellsFrom n names []++acc
 | [],_,_=>rfl
 | (m,k)::r,n,acc=>by
  unfold cellsFrom;split
  .rw [jA r (n+1) ((m,n)::acc),jA r (n+1) [(m,n)],Yp];rfl
  .show jA r n acc
theorem qaK:∀{names:List (Str×NameKind)} {n:Nat} {x:Str},(x,NameKind.cell)∈names->∃ c,(cellsFrom n names []).lookup x=some c
 | (m,k)::r,n,x,h=>by
  unfold cellsFrom;rcases yv.mp h with e | e
  .cases e;rw[yG (show(NameKind.cell==NameKind.cell)=true from rfl),jA,xK]
   cases q:(cellsFrom (n+1) r []).lookup m with
   | some c=>show⟨c,rfl⟩
   | none=>show⟨n,by show List.lookup m [(m,n)]=some n;rw[Xb,Xc]⟩
  .split
   .rw [jA,xK];obtain⟨c,hc⟩:=qaK (n:=n+1) e;show⟨c,by rw[hc];rfl⟩
   .show qaK e
theorem qbO:∀{names:List (Str×NameKind)} {n:Nat} {x:Str} {c:Addr},(x,c)∈cellsFrom n names []->(x,NameKind.cell)∈names
 | (m,k)::r,n,x,c,h=>by
  unfold cellsFrom at h;split at h
  .rename_i hk
   rw[jA] at h;rcases yw.mp h with z | z
   .show yE _ (qbO z)
   .have e:(x,c)=(m,n):=yx.mp z;cases e;rw[Yl.mp hk];show yL
  .show yE _ (qbO h)
theorem qbP{names:List (Str×NameKind)}(h:(cellsFrom n names acc).lookup x=some c):(x,c)∈cellsFrom n names []\/acc.lookup x=some c:=by
 rw[jA,xK] at h
 cases e:(cellsFrom n names []).lookup x with
 | some d=>rw[e] at h;cases h;show .inl (mem_of_lookup e)
 | none=>rw[e] at h;show .inr h
theorem cells_some{names:List (Str×NameKind)}(h:(x,NameKind.cell)∈names\/∃ c,acc.lookup x=some c):∃ c,(cellsFrom n names acc).lookup x=some c:=by
 rw[jA,xK]
 cases e:(cellsFrom n names []).lookup x with
 | some d=>show⟨d,rfl⟩
 | none =>
  rcases h with z | ⟨c,hc⟩
  .obtain⟨d,a⟩:=qaK (n:=n) z;rw[e] at a;cases a
  .show⟨c,hc⟩
section
variable{M:Model}{A:Around}{E:Value->Shared->Prop}{s:Shared}
theorem newEnvK{c:Addr}{b:List (Str×Addr)}{f:Option Addr}{e:Value}{d:Env}{a:Addr}{Q:Env->Shared->Prop}
  (i:Q (newEnv scope s.heap.objs.size c (cellsFrom (s.heap.objs.size+1) scope.names b) qual f e (some d) a) { s with heap:=pushCells (s.heap.push { cls:=.type "dict",data:=.dict #[] }) scope.names }) :
  wpAny M A (newFunctionEnv scope c b [] qual f e (some d) a) Q E s:=by
 simp only[newFunctionEnv,XI,Xy];show yt (wpAny_alloc ?_);show yt (wpAny_layCells _ (λname kind g=>by cases h:kind==NameKind.cell<;>simp[h]) _ _ _ _ ?_);rw[show({ s with heap:=s.heap.push { cls:=.type "dict",data:=.dict #[] } }:Shared).heap.objs.size=s.heap.objs.size+1 from YW ..];rw[List.forIn_nil];show yt (yz (yz i))
end
structure CompOk(sc scope:Scope):Prop where
 kind:scope.kind=.function
 cel:∀ y∈scope.names,y.2=.cell->scope.names.lookup y.1=some .cell
 loc:∀ y∈scope.names,y.2=.local->scope.names.lookup y.1=some .local
 free:∀ y∈scope.names,y.2=.free->sc.names.lookup y.1=some .cell\/sc.names.lookup y.1=some .free
 once:∀ y∈scope.names,y.2=.free->scope.names.lookup y.1=some .free
def qe9(sc scope:Scope):Bool:=decide (scope.kind=.function)&&scope.names.all λy=>match y.2 with
 | .local=>scope.names.lookup y.1==some .local
 | .free=>(sc.names.lookup y.1==some .cell||sc.names.lookup y.1==some .free)&&scope.names.lookup y.1==some .free
 | .cell=>scope.names.lookup y.1==some .cell
 | _=>true
theorem qdG(h:qe9 sc scope=true):CompOk sc scope:=by
 unfold qe9 at h;rw[yO] at h;have b:=YY.mp h.2;show⟨yk h.1,λy a e=>?_,λy a e=>?_,λy a e=>?_,λy a e=>?_⟩
 .have:=b y a;rw[e] at this;show Yl.mp this
 .have:=b y a;rw[e] at this;show Yl.mp this
 .have:=b y a;rw[e,yO,Xk] at this;show this.1.imp Yl.mp Yl.mp
 .have:=b y a;rw[e,yO] at this;show Yl.mp this.2
def qgI(nl:Nat)(ixs:LN)(N XN:LS)(names:List (Str×NameKind)):Bool:=(List.range ixs.length).all λk=>match ixs[k]?,N[nl+k]? with
 | some j,some x=>XN[j]?==some x&&names.any λy=>y.1==x&&y.2==.free
 | _,_=>true
theorem qew{XN:LS}{names:List (Str×NameKind)}(h:qgI nl ixs N XN names=true)(k j:Nat)(x:Str)(h1:ixs[k]?=some j)(c:N[nl+k]?=some x):XN[j]?=some x/\(x,NameKind.free)∈names:=by
 have d:k<ixs.length:=(yc.mp h1).1;have:=YY.mp h k (xk.mpr d);rw[h1,c] at this;simp only[yO] at this;show⟨Yl.mp this.1,?_⟩;obtain⟨⟨n,g⟩,f,e⟩:=xu.mp this.2;rw[yO] at e;have a:n=x:=Yl.mp e.1;have b:g=.free:=Yl.mp e.2;subst a b;show f
def qeg(nl:Nat)(ixs:LN)(σ:St):St:=List.replicate nl none++ixs.map λj=>(σ[j]?).getD none
theorem capS_len(nl:Nat)(ixs:LN)(σ:St):(qeg nl ixs σ).length=nl+ixs.length:=by
 unfold qeg;rw[yu,xq,ya]
theorem qdH{i:Nat}(h:(qeg nl ixs σ)[i]?=some (some v)):nl<=i/\∃ j,ixs[i-nl]?=some j/\σ[j]?=some (some v):=by
 unfold qeg at h;by_cases a:i<nl
 .rw [yX (by rw[xq];show a),Xa] at h;split at h<;>cases h
 .rw [yH (by rw[xq];lk),xq,yd] at h;show⟨by lk,?_⟩
  cases e:ixs[i-nl]? with
  | none=>rw[e] at h;cases h
  | some j =>
   rw[e] at h;have h':(σ[j]?).getD none=some v:=yn h
   cases q:σ[j]? with
   | none=>rw[q] at h';cases h'
   | some u =>
    rw[q] at h';show⟨j,rfl,by rw[q];show congrArg some h'⟩
def qfa(env:Env)(y:Str×NameKind):Str×NameKind:=if (y.2==NameKind.free&&env.scope.kind==.function&&env.kindOf y.1==some .cell)=true then(y.1,NameKind.cell) else(y.1,y.2)
theorem relF_fst(env:Env)(y:Str×NameKind):(qfa env y).1=y.1:=by unfold qfa;split<;>rfl
theorem relF_snd(env:Env)(y:Str×NameKind):(qfa env y).2=y.2\/((qfa env y).2=.cell/\y.2=.free):=by
 unfold qfa;split
 .rename_i h
  rw[yO,yO] at h;show .inr ⟨rfl,Yl.mp h.1.1⟩
 .show .inl rfl
theorem zx:∀{names:List (Str×NameKind)} {x:Str} {k:NameKind},(names.map (qfa env)).lookup x=some k->∃ b,names.lookup x=some b/\(x,b)∈names/\(k=b\/(k=.cell/\b=.free))
 | [],_,_,h=>by cases h
 | (n,k1)::r,x,k,h=>by
  rw[YJ,show qfa env (n,k1)=((qfa env (n,k1)).1,(qfa env (n,k1)).2) from rfl,Xb,relF_fst] at h;rw[Xb]
  cases c:x==n with
  | true =>
   have e:x=n:=Yl.mp c;subst e;have a:(x==(x,k1).1)=true:=c;rw[a] at h;have h':=yn h;show⟨k1,rfl,yL,?_⟩;rcases relF_snd env (x,k1) with z | ⟨z1,z2⟩
   .show .inl (h'.symm.trans z)
   .show .inr ⟨h'.symm.trans z1,z2⟩
  | false =>
   have a:(x==(n,k1).1)=false:=c;rw[a] at h;obtain⟨b,d,f,g⟩:=zx h;show⟨b,d,yE _ f,g⟩
section
variable{X:Cx}{pins:List (Addr×Obj)}{σ:St}{H:Hp}{s:Shared}
theorem comp_free_of{b:List (Str×Addr)}(h:(compEnvC scope b C X.env).kindOf x=some .cell\/(compEnvC scope b C X.env).kindOf x=some .free):(x,NameKind.cell)∈scope.names\/(x,NameKind.free)∈scope.names:=by
 rcases h with h | h
 .obtain⟨c,_,a,e | ⟨_,e⟩⟩:=zx (env:=X.env) (names:=scope.names) h
  .rw [<- e] at a;show .inl a
  .rw [e] at a;show .inr a
 .obtain⟨c,_,a,e | ⟨e,_⟩⟩:=zx (env:=X.env) (names:=scope.names) h
  .rw [<- e] at a;show .inr a
  .cases e
theorem Inv.comp{R:Obj}{h1:Heap}{tk:Nat}(I:Inv X pins σ H s)(O:CompOk X.env.scope scope)
  (hN:N.length=nl+ixs.length) (G:∀(k j:Nat) (x:Str),ixs[k]?=some j->N[nl+k]?=some x->X.N[j]?=some x/\(x,NameKind.free)∈scope.names)
  (M:∀ b∈fp,qea X pins H b) (J:∀ b∈fp,b<s.heap.objs.size) (L:s.heap.objs.size<=C) (U:s.heap.objs.size<=D) (W:D≠C) (ab:h1.Ns C λ_=>none) (k:∀ b o,s.heap.get? b=some o->h1.get? b=some o)
  (ac:h1.get? D=some R) (Z:∀ v,R.data≠.cell v) (B:CellsOk h1 (C+1) (cellsFrom (C+1) scope.names [])):Inv (X.comp N scope C s H fp) [(D,R)] (qeg nl ixs σ) H { s with heap:=h1,toks:=tk }:=by
 have a:∀ x c,(qM X.env scope.names []).lookup x=some c->X.env.cells.lookup x=some c/\(x,NameKind.free)∈scope.names:=λx c h=>by
  rcases zT h with⟨h1,K⟩ | h1
  .obtain⟨F,l⟩:=I.ok.has x (by
    rcases O.free _ h1 rfl with z | z
    .show .inl z
    .show .inr z)
   rw[l] at K;show⟨by rw[l,K];rfl,h1⟩
  .cases h1
 have big:∀ c:Addr,C+1<=c->s.heap.objs.size<=c:=λc h=>yi L (Nat.le_of_succ_le h);have no:∀{P:Prop} {c:Addr},C+1<=c->c<s.heap.objs.size->P:=λh g=>absurd (yj g (big _ h)) (Yz _)
 have all:∀ x c,(cellsFrom (C+1) scope.names (qM X.env scope.names [])).lookup x=some c->((x,c)∈cellsFrom (C+1) scope.names []/\C+1<=c/\h1.IsCell c none)\/(X.env.cells.lookup x=some c/\c<s.heap.objs.size):=λx c h=>by
  rcases qbP h with z | z
  .show .inl ⟨z,(B.empty _ _ z).2,(B.empty _ _ z).1⟩
  .obtain⟨_,q⟩:=I.cell x c (a x c z).1;show .inr ⟨(a x c z).1,q.lt⟩
 show⟨⟨I.ok.mod,O.kind,I.ok.glob,I.ok.blt,L,λx y c h1 K=>?inj,λx hx=>cells_some ((comp_free_of hx).imp id zU),λx c z h=>?cab,I.ok.hd,I.ok.frames,.inl rfl,
   λb hb=>⟨Yi (yj (J b hb) L),λx c e=>?exf⟩,I.bs,yi I.ok.bsz I.sz,λb o e hb=>?_,λb hb z=>?_,I.stack,I.stkFree⟩,
  rfl,I.bare,Un.kept k,⟨_,ab,λi x v e1 e2 e3=>?_⟩,λx c e=>?_,I.hok.fresh L,λx c e=>?fre,λp hp=>?_,I.hok.kept k,?_⟩
 case inj =>
  rcases all x c h1 with⟨r,f,_⟩ | ⟨r,f⟩<;>rcases all y c K with⟨S,T,_⟩ | ⟨S,T⟩
  .show name_of_addr B.apart r S
  .show no f T
  .show no T f
  .show I.ok.inj x y c r S
 case cab =>
  rcases all x c h with⟨_,f,_⟩ | ⟨r,f⟩
  .show big _ f
  .exfalso;obtain⟨d,E⟩:=qaK (n:=C+1) (mem_of_lookup (Yl.mp z));have h:(cellsFrom (C+1) scope.names (qM X.env scope.names [])).lookup x=some c:=h;rw[jA,xK,E] at h;cases h;show no (B.empty _ _ (mem_of_lookup E)).2 f
 case exf =>
  rcases all x c e with⟨_,f,_⟩ | ⟨r,_⟩
  .show λz=>no f (by rw[z];show J b hb)
  .show(M b hb).2.2.2.2.1 x c r
 case fre =>
  rcases all x c e with⟨_,f,_⟩ | ⟨r,_⟩
  .show I.hok.fresh (big _ f)
  .show I.freeC x c r
 .rcases(M b hb).2.2.2.1 with z | z
  .show I.ok.noex b o e z
  .have:=(I.ok.bs b o e).1;show absurd (yj (yM this) z) (Yz _)
 .rcases yv.mp (I.stkSub b z) with e | e
  .show(M b hb).2.1 e
  .show(M b hb).2.2.1 e
 .obtain⟨hi,j,hj,hv⟩:=qdH e2;obtain⟨hx,t⟩:=G (i-nl) j x hj (by rw[Nat.add_sub_cancel' hi];show e1);obtain⟨m,hn,hl⟩:=I.loc;have B:=O.free _ t rfl
  obtain⟨u,ru,lk⟩:=hl j x v hx hv (by
   rcases B with z | z
   .show .inr (.inl z)
   .show .inr (.inr z))
  show⟨u,ru,?_⟩;rcases lk with⟨aa,_⟩ | ⟨_,c,hc,A⟩
  .have w:X.env.scope.names.lookup x=some .local:=aa;rcases B with z | z<;>· rw[z] at w;cases w
  .obtain⟨F,l⟩:=zU (env:=X.env) (acc:=[]) t
   have e:F=c:=by
    have:=(a x F l).1;rw[hc] at this;show(yn this).symm
   subst e
   have Y:(cellsFrom (C+1) scope.names (qM X.env scope.names [])).lookup x=some F:=by
    rw[jA,xK]
    cases q:(cellsFrom (C+1) scope.names []).lookup x with
    | none=>show l
    | some d=>have:=O.cel _ (qbO (mem_of_lookup q)) rfl;rw[O.once _ t rfl] at this;cases this
   show .inr ⟨?_,F,Y,?_⟩
   .rcases e3 with z | z | z
    .obtain⟨k0,z3,_,e | ⟨e,_⟩⟩:=zx (env:=X.env) (names:=scope.names) z
     .rw [O.once _ t rfl] at z3;cases z3;cases e
     .cases e
    .show .inl z
    .show .inr z
   .obtain⟨o,ho,E⟩:=A;show⟨o,k _ _ ho,E⟩
 .rcases all x c e with⟨_,_,a3⟩ | ⟨r,_⟩
  .show⟨none,a3⟩
  .obtain⟨v,o,ho,E⟩:=I.cell x c r;show⟨v,o,k _ _ ho,E⟩
 .have e:p=(D,R):=by simpa using hp
  subst e;show⟨ac,I.hok.fresh U,W,λz=>?_,Z⟩;rcases yv.mp (I.stkSub D z) with e | e
  .show absurd (show X.env.locals<D from yj I.lt U) (by rw[e];show Yz _)
  .show I.nofs U e
 .show(qeg nl ixs σ).length=N.length;rw[capS_len,hN]
theorem Inv.compBack{s':Shared}{i:St}(I:Inv X pins σ H s)(g:∀ b∈fp,qea X pins H b)(t:s.heap.objs.size<=C)(j:s.heap.objs.size<=D)
  (J:Inv (X.comp N scope C s H fp) [(D,{ cls:=.type "list",data:=.seq its.toArray n })] i H' s') (hv:Vals ys its) (m:ys.length<=sizeLine):Inv X pins σ (upd H' D (.lst ys)) s':=by
 obtain⟨r,f,p,_,_⟩:=J.pin (D,{ cls:=.type "list",data:=.seq its.toArray n }) (yN _ (yx.mpr rfl));have h:∀ b o,s.heap.get? b=some o->b≠D:=λb o e=>Yi (yj (yM e) j);have a:=J.base;show I.call' (ch:=fp) J.os ⟨a.keep,a.slot,λb o e n l=>?_,a.there,λb xs e=>?_,λb o u e=>?_,λb ps e=>?_⟩ (λb u e=>?_) J.bare λb hb=>⟨(g b hb).2.2.2.1,(g b hb).2.1,(g b hb).2.2.2.2.1,(g b hb).2.2.2.2.2⟩
 .rw [qg (h b o e)];show a.free b o e n l
 .have q:=a.tups b xs e;rw[qg (qN q f)];show q
 .have q:=a.frzs b o u e;rw[qg (qN q f)];show q
 .obtain⟨d,q⟩:=a.tbls b ps e;show⟨d,by rw[qg (qN q f)];show q⟩
 .by_cases hb:b=D
  .subst hb;rw[qb] at e;cases e;show⟨m,its,n,hv,r⟩
  .rw [qg hb] at e;show(J.hok b u e).stay (λc v _ q=>q) (λc q=>by rw[qg (qN q f)];show q) λc xs q=>by rw[qg (qN q f)];show q
end
def qgJ:TT:=λ_ H Q=>Q true H
def qfL(wi:TI)(g:TG)(tc:TT)(te:TE)(nl:Nat)(ixs:LN):TE:=fun σ H Q=>wi σ H λJ e =>
 ∃ W:Nat->Nat->List V->Hp->Prop,(∃ m,W 0 m [] e)/\∀ i m ys H,W i m ys H ->
  (J.stop i H/\ys.length<=sizeLine/\∀ p,H p=none->Q (.ref p) (upd H p (.lst ys))) \/
  (J.go i H/\∃ M:List V->Hp->Prop,(∀ ys' H',M ys' H'->∃ d,d<m/\W (i+1) d ys' H')/\∀ x H',J.yld i H x H'->g x (qeg nl ixs σ) H' λa f=>tc a f λb c =>
   if b=true then te a c λv h=>ys.length<sizeLine/\M (ys++[v]) h else M ys c)
def qex(nl:Nat)(g:TG):Prop:=∀ x σ H Q,g x σ H Q->g x σ H λa b=>Q a b/\a.length=σ.length/\∀ i,nl<=i->a[i]?=σ[i]?
theorem jF{i:Nat}(h:i<nl:=by decide):qex nl (qb3 i):=λx σ H Q q=>⟨q,xQ ..,λj a=>xw (by lk)⟩
def qgc(X:Cx)(ifs:List Expr)(tc:TT):Prop:=
 ∀(pins:List (Addr×Obj)) (s:Shared) (σ:St) (H:Hp) (Q:Bool->Hp->Prop),Inv X pins σ H s->tc σ H Q ->
  wpAny (model X.prog X.w) X.A (forIn ifs true λc r=>if r=true then do let ok <- isTrue c X.env (eval c X.env);pure (ForInStep.yield ok) else pure (ForInStep.yield r)) (TP X pins σ Q) X.xe s
theorem jP:qgc X [] qgJ:=λpins s σ H Q I h=>wpAny_tests_nil ⟨H,I,h⟩
theorem zf{c:Expr}(h:PT X c tc):qgc X [c] tc:=λpins s σ H Q I q=>wpAny_tests_one (h pins s σ H Q I q)
section
variable{X:Cx}{pins:List (Addr×Obj)}{σ:St}{H:Hp}{s:Shared}
theorem qca{tn:Nat->Heap->Prop}{J:It}{Q:V->Hp->Prop}
  {RR:Value->Addr->Result->Shared->Prop} (I:Inv X pins σ H s) (hc:X.calm=true) (O:CompOk X.env.scope scope)
  (hN:N.length=nl+ixs.length) (ah:∀(k j:Nat) (x:Str),ixs[k]?=some j->N[nl+k]?=some x->X.N[j]?=some x/\(x,NameKind.free)∈scope.names)
  (T:Turn X.prog X.w X.K tg J fp it tn) (st:tn 0 s.heap) (hf:∀ b∈fp,qea X pins H b)
  (hg:∀ C s0 H0 ex,PG (X.comp N scope C s0 H0 ex) tg g) (gk:qex nl g) (hi:∀ C s0 H0 ex,qgc (X.comp N scope C s0 H0 ex) ifs tc) (he:∀ C s0 H0 ex,PE (X.comp N scope C s0 H0 ex) elt te)
  (h:∃ W:Nat->Nat->List V->Hp->Prop,(∃ m,W 0 m [] H)/\∀ i m ys H,W i m ys H ->
   (J.stop i H/\ys.length<=sizeLine/\∀ p,H p=none->Q (.ref p) (upd H p (.lst ys))) \/
   (J.go i H/\∃ M:List V->Hp->Prop,(∀ ys' H',M ys' H'->∃ m',m'<m/\W (i+1) m' ys' H')/\∀ x H',J.yld i H x H'->g x (qeg nl ixs σ) H' λan a=>tc an a λb H3 =>
    if b=true then te an H3 λv H4=>ys.length<sizeLine/\M (ys++[v]) H4 else M ys H3))
  (av:∀(D C:Addr) (s':Shared) (H':Hp) (P:St) (ys:List V) (its:List Value) (n:Nat),s.heap.objs.size<=C->s.heap.objs.size<=D->Inv (X.comp N scope C s H fp) [(D,{ cls:=.type "list",data:=.seq its.toArray n })] P H' s'->Vals ys its->ys.length<=sizeLine ->
   (∀ p,H' p=none->Q (.ref p) (upd H' p (.lst ys)))->RR (.ref D) C (.ok .next) s') :
  wpAny (model X.prog X.w) X.A (newList []) (λacc s3=>wpAny (model X.prog X.w) X.A (newFunctionEnv scope X.env.globals (qM X.env scope.names []) [] X.env.qual none .none (some X.env)) (λS s4 =>
   codeAny (model X.prog X.w) X.A (.compStart (.ListComp elt [⟨tg,iter,ifs,0⟩] scope pos) 0 (.ref it) acc { S with scope:=relabel scope X.env }) (RR acc S.locals) s4) E s3) E s:=by
 obtain⟨W,⟨m0,w0⟩,turn⟩:=h;show xy (newEnvK ?_);dsimp only;generalize aa:s.heap.push { cls:=.type "list",dict:=none,data:=.seq ([]:List Value).toArray }=a;have Y:(pushCells (a.push { cls:=.type "dict",data:=.dict #[] }) scope.names).Ns a.objs.size λ_=>none:=(Heap.Ns.new a (.type "dict")).keeps (pushCells_keeps _ _);have B:=cellsFrom_ok scope.names (a.push { cls:=.type "dict",data:=.dict #[] }) (a.objs.size+1) [] ⟨λ_ _ hm=>(nomatch hm),List.Pairwise.nil⟩ (by rw[YW];show yh _);rw[YW] at B;have ab:∀ b o,a.get? b=some o->(pushCells (a.push { cls:=.type "dict",data:=.dict #[] }) scope.names).get? b=some o:=λb o e=>pushCells_keeps _ _ b o (yy _ e);generalize pushCells (a.push { cls:=.type "dict",data:=.dict #[] }) scope.names=h1 at Y B ab ⊢;have hC:a.objs.size=s.heap.objs.size+1:=by rw[<- aa,YW]
 have au:s.heap.objs.size≠a.objs.size:=by rw[hC];show Yi (Xx _)
 have U:s.heap.objs.size<=a.objs.size:=by rw[hC];show Xf _
 have f:∀ b,b<s.heap.objs.size->b≠a.objs.size/\b≠s.heap.objs.size:=λb hb=>⟨by rw[hC];show Yi (Nat.lt_succ_of_lt hb),Yi hb⟩;have ac:∀ b o,s.heap.get? b=some o->h1.get? b=some o:=λb o e=>ab b o (aa ▸ yy _ e);have af:h1.get? s.heap.objs.size=some { cls:=.type "list",data:=.seq ([]:List Value).toArray }:=ab _ _ (aa ▸ Yd _ rfl)
 have t:∀ b∈fp,b<s.heap.objs.size:=λb hb=>by
  obtain⟨o,ho,_⟩:=T.obj 0 _ st b hb;show yM ho
 have Z:∀ s3:Shared,s3={ s with heap:=h1 } ->
   codeAny (model X.prog X.w) X.A (.compLoop (.ListComp elt [⟨tg,iter,ifs,0⟩] scope pos) 0 (.ref it) (.ref s.heap.objs.size) (compEnvC scope (cellsFrom (a.objs.size+1) scope.names (qM X.env scope.names [])) a.objs.size X.env)) (RR (.ref s.heap.objs.size) a.objs.size) s3:=by
  rintro s3 rfl;have I0:=I.comp (N:=N) (C:=a.objs.size) (D:=s.heap.objs.size) (h1:=h1) (tk:=s.toks) O hN ah hf t U (yh _) au Y ac af (λv z=>by cases z) B
  have l:∀{H':Hp} {P:St} {s':Shared} {pl:List (Addr×Obj)},Inv (X.comp N scope a.objs.size s H fp) pl P H' s'->(∀ p∈pl,p.1=s.heap.objs.size)->(∀ b∈fp,H' b=none)->∀ b∈fp,qea (X.comp N scope a.objs.size s H fp) pl H' b:=λ{H' P s' pl} J ax hn b hb =>
   ⟨hn b hb,(f b (t b hb)).1,λz=>(by
     rcases yv.mp (I.stkSub b z) with e | e
     .show(hf b hb).2.1 e
     .show(hf b hb).2.2.1 e),.inl hb,J.ok.exf b hb |>.2,λp G z=>by
    have e:=ax p (by simpa using G);rw[e] at z;show(f b (t b hb)).2 z.symm⟩
  show compLoop_own (λk s'=>∃ i H' ys its n,Inv (X.comp N scope a.objs.size s H fp) [(s.heap.objs.size,{ cls:=.type "list",data:=.seq its.toArray n })] (qeg nl ixs σ) H' s'/\tn i s'.heap/\(∀ b∈fp,H' b=none)/\Vals ys its/\W i k ys H') ?_ m0
   ⟨0,H,[],[],0,I0,T.keep _ _ _ st λb _ o e=>ac b o e,λb hb=>(hf b hb).1,.nil,w0⟩
  rintro k s' ⟨i,H',ys,its,n,J1,al,ae,v1,w1⟩
  have one:∀ p∈[((s.heap.objs.size,{ cls:=.type "list",data:=.seq its.toArray n }):Addr×Obj)],p.1=s.heap.objs.size:=λp G=>by
   have e:p=_:=yx.mp G;rw[e]
  rcases turn i k ys H' w1 with⟨am,hz,q⟩ | ⟨go,M,hM,step⟩
  .show thn (T.done (X.comp N scope a.objs.size s H fp) rfl rfl rfl hc i _ s' _ H' _ J1 (l J1 one ae) al am) λr s4 ⟨hr,J4⟩=>?_;subst hr;show av _ _ s4 H' _ ys its n U (yh _) J4 v1 hz q
  .show thn (T.item (X.comp N scope a.objs.size s H fp) rfl rfl rfl hc i _ s' _ H' _ J1 (l J1 one ae) al go) λr s4 ⟨u,hr,h4⟩=>?_;subst hr;show thn h4 λ_ s5 ⟨x,H5,J5,r5,y5,ad,aq⟩=>?_;have ao:=J5.pinned (l J5 one aq) (T.obj _ _ ad);show thn (hg _ _ _ _ _ s5 _ H5 x u _ ao r5 (gk _ _ _ _ (step x H5 y5))) λ_ s6 ⟨R,H6,J6,q6,l6,k6⟩=>?_;show thn (hi _ _ _ _ _ s6 R H6 _ J6 q6) λok s7 ⟨H7,J7,q7⟩=>?_;have again:∀{L:Shared} {H8:Hp} {ys':List V} {k':Nat},Inv (X.comp N scope a.objs.size s H fp) ([((s.heap.objs.size,{ cls:=.type "list",data:=.seq its.toArray n }):Addr×Obj)]++qcD fp s5.heap) R H8 L ->
     (∀ b o,b≠s.heap.objs.size->L.heap.get? b=some o->L.heap.get? b=some o)->tn (i+1) L.heap/\∀ b∈fp,H8 b=none:=λ{L H8 ys' k'} J8 _=>by
    show⟨T.keep _ _ _ ad λb hb o e=>(J8.pin (b,o) (yN _ (yN _ (qap hb e)))).1,λb hb=>?_⟩;obtain⟨o,e,d⟩:=T.obj _ _ ad b hb;show(J8.pin (b,o) (yN _ (yN _ (qap hb e)))).2.1
   have wk:∀(j:Nat) v,(qeg nl ixs σ)[j]?=some (some v)->R[j]?=some (some v):=λj v e=>by
    obtain⟨hj,_⟩:=qdH e;rw[k6 j hj];show e
   cases ok with
   | false =>
    rw[yF Yq] at q7 ⊢;obtain⟨m',hm,w7⟩:=hM _ _ q7;obtain⟨az,ar⟩:=again (ys':=ys) (k':=0) J7 (λ_ _ _ e=>e);show⟨m',hm,i+1,H7,ys,its,n,J7.unpinned.weak l6.symm wk,az,ar,v1,w7⟩
   | true =>
    rw[yG rfl] at q7 ⊢;show thn (he _ _ _ _ _ s7 R H7 _ J7 q7) λy L ⟨v,H8,J8,r8,bb,mq⟩=>?_;obtain⟨m',hm,w8⟩:=hM _ _ mq;obtain⟨ba,as⟩:=again (ys':=ys) (k':=0) J8 (λ_ _ _ e=>e);have J9:=J8.unpinned;obtain⟨pD,nD,ak,ay,_⟩:=J9.pin (s.heap.objs.size,{ cls:=.type "list",data:=.seq its.toArray n }) (yN _ (yx.mpr rfl));show wpAny_list_append_plain (hsz:=by rw[yD,<- v1.length];lk) ⟨n,pD⟩ λh9 F aj=>?_;obtain⟨n9,F⟩:=F;have e9:(its.toArray.push y)=(its++[y]).toArray:=by simp
    rw[e9] at F
    have Ja:Inv (X.comp N scope a.objs.size s H fp) [] (qeg nl ixs σ) H8 { L with heap:=h9,toks:=L.toks }:=
     ((J9.pins_of (pins':=[]) λp G=>absurd G (by simp)).turned (it:=s.heap.objs.size) (h':=h9) (t':=L.toks) (λb o hb e=>(aj.2 b hb).trans e) nD ak (.inr (yh _))
      (λx c e z=>by
       rcases qbP e with w | e
       .have:=(B.empty _ _ w).2;rw[z,hC] at this;show absurd (yi (Xf _) this) (Nat.not_succ_le_self _)
       have:=zT e;rcases this with⟨aw,hcc⟩ | hcc
       .obtain⟨c',ag⟩:=I.ok.has x (by
         rcases O.free _ aw rfl with q | q
         .show .inl q
         .show .inr q)
        rw[ag] at hcc;have ai:c=c':=hcc;obtain⟨_,q⟩:=I.cell x c' ag;rw[<- ai,z] at q;show absurd q.lt (Yz _)
       .cases hcc) (λp G=>absurd G (by simp))).weak l6.symm wk
    show⟨m',hm,i+1,H8,ys++[v],its++[y],n9,Ja.pins_of λp G=>?_,?_,as,v1.append (.cons r8 .nil),w8⟩
    .have e:p=_:=yx.mp G;subst e;show⟨F,nD,ak,ay,λv z=>by cases z⟩
    .show T.keep _ _ _ ba λb hb o e=>(aj.2 b (f b (t b hb)).2).trans e
 show codeAny_compStart_list (Z _ rfl) (T.self _ 0 _ _ _ (T.keep _ _ _ st λb _ o e=>ac b o e) (Z _ rfl))
end
section
variable{X:Cx}{tg elt iter:Expr}{ifs:List Expr}{scope:Scope}{pos:Pos}{N:LS}{nl:Nat}{ixs:LN}{wi:TI}{g:TG}{tc:TT}{te:TE}
theorem jG{XN:LS}(N:LS)(nl:Nat)(ixs:LN)(E:X.env.scope=sc)(t:X.N=XN)(hc:X.calm=true)(L:qe9 sc scope=true)(S:N.length=nl+ixs.length)(d:qgI nl ixs N XN scope.names=true)
  (Z:PI X tg iter wi) (Y:∀ C r i ex,PG (X.comp N scope C r i ex) tg g) (M:qex nl g) (ht:∀ C r i ex,qgc (X.comp N scope C r i ex) ifs tc) (W:∀ C r i ex,PE (X.comp N scope C r i ex) elt te)
  (hs:∀ x,foldedSetIterable iter X.env x=pure x:=by intro _;rfl):PE X (.ListComp elt [⟨tg,iter,ifs,0⟩] scope pos) (qfL wi g tc te nl ixs):=by
 intro pins s σ H Q I h;subst E t;have O:=qdG L;have l:=qew d;rw[eval_ListComp]
 have u:=qaJ (scope:=scope) (env:=X.env) λn y=>I.ok.has n (by
  rcases O.free _ y rfl with z | z
  .show .inl z
  .show .inr z)
 show wpAny_comprehension_free (use:=none) rfl hs u O.kind O.loc (thn (Z pins s σ H _ I h) λv s1 h1=>thn h1 λaa s2 P=>?_);obtain⟨it,fp,tn,J,H2,e,f,T,G,K,U⟩:=P;subst e;show qca (Q:=Q) (RR:=λacc C=>compPost (model X.prog X.w) X.A X.xe none (EP X pins σ Q) acc C) f hc O S l T G K Y M ht W U ?_;intro D C s' H' ab ys its n j R J' hv hz q;obtain⟨m,y,_⟩:=id J'.loc;have B:=f.compBack K j R J' hv hz;obtain⟨_,nD,F,_,_⟩:=J'.pin (D,{ cls:=.type "list",data:=.seq its.toArray n }) (yN _ (yx.mpr rfl));show⟨m,y,λh' sb=>⟨.ref D,_,?_,rfl,q D nD⟩⟩;show B.turned (it:=C) (h':=h') (t':=s'.toks) (λb o hb e=>(sb.2 b hb).trans e) ((qg (H:=H') (a:=D) (b:=C) (o:=.lst ys) (Yh F)).trans J'.free) (Xw (yj f.lt j)) (.inr (yi f.sz j)) (λx c e z=>?_) (λp hp z=>?_)
 .obtain⟨_,q⟩:=f.cell x c e;show absurd (yj q.lt (by rw[z];show j)) (Yz _)
 .show absurd (yj (yM (f.pin p hp).1) (by rw[z];show j)) (Yz _)
theorem qbQ{i:Nat}{y:Str}{r f:Pos}{XN:LS}(N:LS)(nl:Nat)(ixs:LN)(U:X.env.scope=sc)(u:X.N=XN)(hc:X.calm=true)(O':qe9 sc scope=true)(hN:N.length=nl+ixs.length)(l:qgI nl ixs N XN scope.names=true)
  (L:X.N.Nodup) (P:X.N[i]?=some y) (hy:X.env.scope.names.lookup y=some .local)
  (hi:PI X tg iter wi) (hg:∀ C F t ex,PG (X.comp N scope C F t ex) tg g) (gk:qex nl g) (ht:∀ C F t ex,qgc (X.comp N scope C F t ex) ifs tc) (he:∀ C F t ex,PE (X.comp N scope C F t ex) elt te)
  (W:swapsWith (.ListComp elt [⟨tg,iter,ifs,0⟩] scope pos) (some (.Name y r)) f.line X.env=pure true:=by rfl)
  (hs:∀ x,foldedSetIterable iter X.env x=pure x:=by intro _;rfl):PS X (.Assign [.Name y r] (.ListComp elt [⟨tg,iter,ifs,0⟩] scope pos) f) (qf4 (qfL wi g tc te nl ixs) (qb3 i)):=by
 intro pins s σ H G I h;subst U u;have O:=qdG O';have E:=qew l
 have M:=qaJ (scope:=scope) (env:=X.env) λn R=>I.ok.has n (by
  rcases O.free _ R rfl with z | z
  .show .inl z
  .show .inr z)
 rw[exec_Assign_Name_used _ _ _ _ W];show yt (Xn (yt ?_));show wpAny _ X.A (do let _ <- comprehension (.ListComp elt [⟨tg,iter,ifs,0⟩] scope pos) scope X.env _ (newList []) false (eval iter X.env) (some (assign (.Name y r) X.env))) _ _ s;show yt (YC (wpAny_comprehension_free (use:=some (assign (.Name y r) X.env)) (Q:=λ_ s'=>SP X pins G .next s') rfl hs M O.kind O.loc
  (thn (hi pins s σ H _ I h) λv s1 h1=>thn h1 λab s2 h2=>?_)) (λ_ s' hq=>yz (yz hq)) λ_ _ e=>e)
 obtain⟨it,fp,tn,J,H2,e,d,T,aa,f2,hW⟩:=h2;subst e;show qca (Q:=λv H'=>qb3 i v σ H' G.nx) (RR:=λacc C=>compPost (model X.prog X.w) X.A X.xe (some (assign (.Name y r) X.env)) (λ_ s'=>SP X pins G .next s') acc C) d hc O hN E T aa f2 hg gk ht he hW ?_;intro D C s' H' ac ys its n j hD J' hv hz q;obtain⟨m,R,_⟩:=id J'.loc;have B:=d.compBack f2 j hD J' hv hz;obtain⟨_,nD,Y,_,_⟩:=J'.pin (D,{ cls:=.type "list",data:=.seq its.toArray n }) (yN _ (yx.mpr rfl));show wpAny _ X.A (assign (.Name y r) X.env (.ref D)) _ _ _;show wpAny_assign_Name (qcB (i:=i) (x:=y) (v:=.ref D) B L P (.inl hy) rfl (λZ B' S=>?_) (.inr hy));obtain⟨a,sa,ha⟩:=S
 have K:C≠a:=by
  rintro rfl;rcases ha with z | z
  .show absurd (show X.env.locals<C from yj d.lt j) (by rw[z];show Yz _)
  .obtain⟨_,q⟩:=d.cell y C z;show absurd (yj q.lt j) (Yz _)
 show⟨m,R.sameBut sa K,λh' sb=>⟨_,_,?_,q D nD⟩⟩;show B'.turned (it:=C) (h':=h') (t':=Z.toks) (λb o hb e=>(sb.2 b hb).trans e) ((qg (H:=H') (a:=D) (b:=C) (o:=.lst ys) (Yh Y)).trans J'.free) (Xw (yj d.lt j)) (.inr (yi d.sz j)) (λx c e z=>?_) (λp hp z=>?_)
 .obtain⟨_,q⟩:=d.cell x c e;show absurd (yj q.lt (by rw[z];show j)) (Yz _)
 .show absurd (yj (yM (d.pin p hp).1) (by rw[z];show j)) (Yz _)
end
def Its(x:Str):It:=⟨λi _=>i<x.cps.size,λi H v H'=>H'=H/\∃ c,x.cps[i]?=some c/\v=.str ⟨#[c]⟩,λi _=>i=x.cps.size⟩
theorem qdI{K:yg}{t:Tok}(W:∀ A:Around,A.handled=none->Walks P w A it [it] [it] x.cps.size (SignAt x) λi h=>h.IsStrIter it T x t i)
  (J:∀(A:Around) (i:Nat) (s:Shared) (Q:Value->Shared->Prop) (E:Value->Shared->Prop),s.heap.IsStrIter it T x t i->Q (.ref it) s->wpAny (model P w) A (pyIter (.ref it)) Q E s)
  (B:∀ v,letOwnedTupleGo tg (.ref it) v=pure ()):Turn P w K tg (Its x) [it] it (λi h=>h.IsStrIter it T x t i) where
 mem:=by simp
 obj:=λi h st b hb=>by
  have e:b=it:=by simpa using hb
  subst e;obtain⟨o,e,c,d⟩:=st;show⟨o,e,λv z=>by rw[d] at z;cases z⟩
 keep:=λi h h' st k=>by
  obtain⟨o,e,r⟩:=st;show⟨o,k it (by simp) o e,r⟩
 item:=by
  intro X p hw n hc i pins s σ H E I a st y;subst p hw n;obtain⟨f,g,G,j,l,m⟩:=a it (by simp);show(W X.A (I.ok.hd hc)).item i s _ _ y st λv h' tk hv D C=>?_;obtain⟨c,u,q,rfl⟩:=hv;have F:Inv X pins σ H { s with heap:=h',toks:=tk }:=I.turned (λb o hb e=>C b o (by simpa using hb) e) f g j l m;show⟨_,rfl,xo (B _) ⟨.str ⟨#[c]⟩,H,F,⟨u,rfl⟩,⟨rfl,c,q,rfl⟩,D,λb hb=>(a b hb).1⟩⟩
 done:=by
  intro X p hw n hc i pins s σ H E I a st y;subst p hw n;obtain⟨f,g,G,j,l,m⟩:=a it (by simp);have e:i=x.cps.size:=y;subst e;show(W X.A (I.ok.hd hc)).done s _ _ st λh' tk C=>⟨rfl,I.turned (λb o hb e=>C b o (by simpa using hb) e) f g j l m⟩
 self:=J
section
variable{X:Cx}{tg:Expr}
end
section
variable{K:yg}{a:Addr}{xs:List V}{g:TG}{tc:TT}{te:TE}{σ':St}{H1:Hp}{Q:V->Hp->Prop}
def qec(J:It)(g:TG)(tc:TT)(te:TE)(σ':St)(H1:Hp)(Q:V->Hp->Prop):Prop:=
 ∃ W:Nat->Nat->List V->Hp->Prop,(∃ m,W 0 m [] H1)/\∀ i m ys H,W i m ys H ->
   (J.stop i H/\ys.length<=sizeLine/\∀ p,H p=none->Q (.ref p) (upd H p (.lst ys))) \/
   (J.go i H/\∃ M:List V->Hp->Prop,(∀ ys' H',M ys' H'->∃ d,d<m/\W (i+1) d ys' H')/\∀ x H',J.yld i H x H'->g x σ' H' λa e=>tc a e λb c =>
    if b=true then te a c λv f=>ys.length<sizeLine/\M (ys++[v]) f else M ys c)
theorem jg(c:Nat->List V->Hp->Prop)(n:c 0 [] H1)(hl:∀ i ys H,i<=xs.length->c i ys H->SqL K H a xs)
  (s:∀ i x ys H,xs[i]?=some x->c i ys H->g x σ' H λf j=>tc f j λb h=>if b=true then te f h λv l=>ys.length<sizeLine/\c (i+1) (ys++[v]) l else c (i+1) ys h)
  (o:∀ ys H,c xs.length ys H->ys.length<=sizeLine/\∀ p,H p=none->Q (.ref p) (upd H p (.lst ys))):qec (Itl K a) g tc te σ' H1 Q:=by
 show⟨λi m ys H=>m=xs.length-i/\i<=xs.length/\c i ys H,⟨xs.length,by simp,Yy _,n⟩,?_⟩;rintro i m ys H ⟨rfl,r,p⟩;have q:=hl i ys H r p;by_cases d:i<xs.length
 .show .inr ⟨⟨xs,xs[i],q,by simp[d]⟩,c (i+1),λys' H' t=>⟨xs.length-(i+1),by lk,rfl,d,t⟩,λx H' y=>?_⟩;obtain⟨e,y⟩:=y;subst e;show s i x ys _ (y xs q) p
 .have e:i=xs.length:=by lk
  subst e;show .inl ⟨⟨xs,q,yh _⟩,o ys H p⟩
theorem qas{lo:Int}(a:Nat->List V->Hp->Prop)(l:a 0 [] H1)
  (q:∀ i ys H,i<n->a i ys H->g (.int (lo+i)) σ' H λd h=>tc d h λb f=>if b=true then te d f λv j=>ys.length<sizeLine/\a (i+1) (ys++[v]) j else a (i+1) ys f)
  (o:∀ ys H,a n ys H->ys.length<=sizeLine/\∀ p,H p=none->Q (.ref p) (upd H p (.lst ys))):qec (Itr lo n) g tc te σ' H1 Q:=by
 show⟨λi m ys H=>m=n-i/\i<=n/\a i ys H,⟨n,by simp,Yy _,l⟩,?_⟩;rintro i m ys H ⟨rfl,s,p⟩;by_cases c:i<n
 .show .inr ⟨c,a (i+1),λys' H' r=>⟨n-(i+1),by lk,rfl,c,r⟩,λx H' y=>?_⟩;obtain⟨e,y⟩:=y;subst e y;show q i ys _ c p
 .have e:i=n:=by lk
  subst e;show .inl ⟨yh _,o ys H p⟩
theorem qdJ(a:Nat->List V->Hp->Prop)(n:a 0 [] H1)
  (q:∀ i c ys H,x.cps[i]?=some c->a i ys H->g (.str ⟨#[c]⟩) σ' H λf j=>tc f j λb h=>if b=true then te f h λv l=>ys.length<sizeLine/\a (i+1) (ys++[v]) l else a (i+1) ys h)
  (o:∀ ys H,a x.cps.size ys H->ys.length<=sizeLine/\∀ p,H p=none->Q (.ref p) (upd H p (.lst ys))):qec (Its x) g tc te σ' H1 Q:=by
 show⟨λi m ys H=>m=x.cps.size-i/\i<=x.cps.size/\a i ys H,⟨x.cps.size,by simp,Yy _,n⟩,?_⟩;rintro i m ys H ⟨rfl,s,p⟩;by_cases d:i<x.cps.size
 .show .inr ⟨d,a (i+1),λys' H' r=>⟨x.cps.size-(i+1),by lk,rfl,d,r⟩,λv H' y=>?_⟩;obtain⟨e,c,hc,y⟩:=y;subst e y;show q i c ys _ hc p
 .have e:i=x.cps.size:=by lk
  subst e;show .inl ⟨rfl,o ys H p⟩
end
def qcQ:V->Option Value
 | .ty n=>some (.type n)
 | .ref a=>some (.ref a)
 | _=>none
theorem qcb{c:Value}(h:qcQ y=some c)(r:RelV y u):u=c:=by
 cases y with
 | ty n=>cases h;show r
 | ref a=>cases h;show r
 | _=>cases h
section
variable{X:Cx}{pins:List (Addr×Obj)}{σ:St}{H:Hp}{s:Shared}
theorem TyOf.kit{x:V}(I:Inv X pins σ H s)(b:RelV x u)(ty:TyOf X.K H x t):∃ P:Heap->Prop,PySem.W.KitX X.K u t P/\P s.heap/\u≠.builtin "__main__.__loader__#opaque":=by
 cases ty with
 | non=>cases (show u=Value.none from b);show⟨_,PySem.W.kitx_none,YV,(λz=>nomatch z)⟩
 | bl y=>cases (show u=Value.bool y from b);show⟨_,PySem.W.kitx_bool,YV,(λz=>nomatch z)⟩
 | int i=>obtain⟨t,q⟩:=(show ∃ t,u=Value.int i t from b);cases q;show⟨_,PySem.W.kitx_int,YV,(λz=>nomatch z)⟩
 | str y=>obtain⟨t,q⟩:=(show ∃ t,u=Value.str y t from b);cases q;show⟨_,PySem.W.kitx_str,YV,(λz=>nomatch z)⟩
 | flt y=>obtain⟨t,q⟩:=(show ∃ t,u=Value.float y t from b);cases q;show⟨_,PySem.W.kitx_float,YV,(λz=>nomatch z)⟩
 | @lst a xs ea =>
  cases (show u=Value.ref a from b);obtain⟨_,_,n,_,h1⟩:=(show ObjOk X.prog X.w H s.heap a (.lst xs) from I.hok a _ ea);show⟨_,PySem.W.kitx_list,⟨_,h1,rfl⟩,(λz=>nomatch z)⟩
 | @frz a ob xs ea =>
  cases (show u=Value.ref a from b);obtain⟨_,_,_,n,_,h1⟩:=(show ObjOk X.prog X.w H s.heap a (.frz ob (.lst xs)) from I.hok a _ ea);show⟨_,PySem.W.kitx_list,⟨_,h1,rfl⟩,(λz=>nomatch z)⟩
 | @tup a xs ea =>
  cases (show u=Value.ref a from b);obtain⟨_,_,_,p⟩:=(show ObjOk X.prog X.w H s.heap a (.tup xs) from I.hok a _ ea);obtain⟨o,h1,c,_⟩:=p;show⟨_,PySem.W.kitx_tuple,⟨o,h1,c⟩,(λz=>nomatch z)⟩
 | @dK a kvs ea =>
  cases (show u=Value.ref a from b);obtain⟨_,_,vs,_,p⟩:=(show ObjOk X.prog X.w H s.heap a (.dK kvs) from I.hok a _ ea);obtain⟨o,es,ep,h1,c,_⟩:=p;show⟨_,PySem.W.kitx_dict,⟨o,h1,c.1⟩,(λz=>nomatch z)⟩
 | @dT a kvs ea =>
  cases (show u=Value.ref a from b);obtain⟨_,_,xs,_,o,es,ep,h1,c,_⟩:=(show ObjOk X.prog X.w H s.heap a (.dT kvs) from I.hok a _ ea);show⟨_,PySem.W.kitx_dict,⟨o,h1,c.1⟩,(λz=>nomatch z)⟩
 | @ins a C dx fs ea cl ha hn htk hm =>
  cases (show u=Value.ref a from b);obtain⟨d,O,_⟩:=qa3 I.hok ea;obtain⟨od,J,_⟩:=O.look;show⟨_,PySem.W.kitx_own (cl.get _) cl.hd ha hn htk hm,J,(λz=>nomatch z)⟩
end
section
variable{X:Cx}
theorem qbR:∀{ys:List V} {a us:List Value},ys.map qcQ=a.map some->Vals ys us->us=a
 | [],[],_,_,.nil=>rfl
 | [],_::_,_,h,_=>by cases h
 | y::ys,[],_,h,_=>by cases h
 | y::ys,c::a,_,h,.cons r t=>by
  rw[YJ,YJ] at h
  injection h with h1 h2
  rw[qcb h1 r,qbR h2 t]
theorem qdK:∀{bs:List Bool} {us:List Value},Vals (bs.map V.bl) us->us=bs.map Value.bool
 | [],_,.nil=>rfl
 | b::bs,_,.cons r t=>by
  have e:=qdK t;rw[e];cases r;rfl
def qgZ(K:yg):List V->Hp->VK->Prop:=λxs H Q=>∃(p:Addr) (bs:List Bool),xs=[.ref p]/\SqL K H p (bs.map V.bl)/\Q (.bl (bs.all id)) H
theorem call_all(hc:X.calm=true):zI X (.builtin "all") (qgZ X.K):=by
 intro pins s σ H xs us Q I r h;obtain⟨p,bs,rfl,t,q⟩:=h;obtain⟨u,rfl,x⟩:=qa2 r;cases x;obtain⟨its,y,pl,z⟩:=I.list t;have e:=qdK y;subst e;have l:X.A.in1.handled=none:=I.ok.hd hc;show call_all_walk (XV pl.isList ?_)
 have f:p≠s.heap.objs.size:=by
  obtain⟨o,n,_⟩:=pl.isList;show Yi (yM n)
 show⟨s.heap.objs.size,_,_,_,_,_,λi=>(bs[i]?).getD false,rfl,Walks.list l s.heap.objs.size p f (bs.map Value.bool).toArray,⟨⟨_,Yd _ rfl,rfl,rfl⟩,pl.isList.at λo e=>yy _ e⟩,λi v s Q E hv w=>?_,λh' tk m=>?_⟩
 .have a:(bs.map Value.bool)[i]?=some v:=by simpa using hv
  rw[yd] at a
  cases e:bs[i]? with
  | none=>rw[e] at a;cases a
  | some b =>
   rw[e] at a;cases a;have c:Q ((bs[i]?).getD false) s:=w;rw[e] at c;show yz c
 .have e:((List.range (bs.map Value.bool).toArray.size).all λi=>(bs[i]?).getD false)=bs.all id:=by
   rw[yD,ya]
   have g:∀ bs:List Bool,((List.range bs.length).all λi=>(bs[i]?).getD false)=bs.all id:=by
    intro bs
    induction bs with
    | nil=>rfl
    | cons b r ih =>
     rw[yB,List.range_succ_eq_map,ki,Kc,ki,<- ih];rfl
   show g bs
  rw[e];show⟨.bl _,H,?_,rfl,q⟩;have j:Inv X pins σ H { s with heap:=s.heap.push { cls:=.type "list_iterator",data:=.fields #[.ref p,.int 0 0] } }:=I.kept (t':=s.toks) λb o e=>yy _ e;have d:=I.fpOk (b:=s.heap.objs.size) (yh _) (I.hok.fresh (yh _));show j.turned (it:=s.heap.objs.size) (h':=h') (t':=tk) (λb o hb e=>m b o (by simpa using hb) e) d.1 d.2.1 d.2.2.2.1 d.2.2.2.2.1 d.2.2.2.2.2
theorem op_le_str:OpR X (compareOp .LtE) (λx y H Q=>∃ i j,x=.str i/\y=.str j/\Q (.bl (!decide (j.cps.toList<i.cps.toList))) H):=by
 intro pins s σ H x y v u Q I a b h;obtain⟨i,j,rfl,rfl,q⟩:=h;obtain⟨t,rfl⟩:=a;obtain⟨t',rfl⟩:=b;show PySem.P.le_str (qdx I q (by rfl))
def qgK:R2:=λx y H Q=>match x,y with
 | .int i,.int j=>Q (.bl (decide (i<=j))) H
 | .str i,.str j=>Q (.bl (!decide (j.cps.toList<i.cps.toList))) H
 | _,_=>False
theorem qfi:OpR X (compareOp .LtE) qgK:=by
 intro pins s σ H x y v u Q I a b h
 cases x with
 | int i=>cases y with
  | int j=>show op_le pins s σ H _ _ v u Q I a b ⟨i,j,rfl,rfl,h⟩
  | _=>show False.elim h
 | str i=>cases y with
  | str j=>show op_le_str pins s σ H _ _ v u Q I a b ⟨i,j,rfl,rfl,h⟩
  | _=>show False.elim h
 | _=>show False.elim h
theorem op_is_bl:OpR X (compareOp .Is) (λx y H Q=>∃ i j,x=.bl i/\y=.bl j/\Q (.bl (i==j)) H):=by
 intro pins s σ H x y v u Q I a b h;obtain⟨i,j,rfl,rfl,q⟩:=h;cases a;cases b;show wpAny_is_plain (by cases i<;>cases j<;>rfl) (qdx I q (by cases i<;>cases j<;>rfl))
def qg0:R2:=λx y H Q=>match x,y with
 | .bl i,.bl j=>Q (.bl (i==j)) H
 | x,.non=>Q (.bl (decide (x=.non))) H
 | _,_=>False
theorem qg1:OpR X (compareOp .Is) qg0:=by
 intro pins s σ H x y v u Q I a b h
 cases y with
 | non=>show op_isN pins s σ H x _ v u Q I a b ⟨rfl,by cases x<;>show h⟩
 | bl j=>cases x with
  | bl i=>show op_is_bl pins s σ H _ _ v u Q I a b ⟨i,j,rfl,rfl,h⟩
  | _=>show False.elim h
 | _=>cases x<;>show False.elim h
theorem op_rep_str:OpR X (binaryOp .Mult) (λx y H Q=>∃ z k,x=.str z/\y=.int k/\MulOk z k/\Q (.str (Txt.mul z k)) H):=by
 intro pins s σ H x y v u Q I b c h;obtain⟨z,k,rfl,rfl,a,q⟩:=h;obtain⟨t,rfl⟩:=b;obtain⟨t',rfl⟩:=c;show SB.mul a λt' k'=>⟨.str _,H,I.tok _,⟨_,rfl⟩,q⟩
def qgd:R2:=λx y H Q=>match x,y with
 | .int i,.int j=>CMul i j/\Q (.int (i*j)) H
 | .str z,.int k=>MulOk z k/\Q (.str (Txt.mul z k)) H
 | .ref a,.int k=>rRep (.ref a) (.int k) H Q
 | _,_=>False
theorem qcR:OpR X (binaryOp .Mult) qgd:=by
 intro pins s σ H x y v u Q I b c h
 cases y with
 | int j=>cases x with
  | int i=>show op_mul pins s σ H _ _ v u Q I b c ⟨i,j,rfl,rfl,h.1,h.2⟩
  | str i=>show op_rep_str pins s σ H _ _ v u Q I b c ⟨i,j,rfl,rfl,h.1,h.2⟩
  | ref a=>show qdE pins s σ H _ _ v u Q I b c h
  | _=>show False.elim h
 | _=>cases x<;>show False.elim h
def qdd(K:yg):R2:=λx y H Q=>match x,y with
 | .int i,.int j=>Q (.int (i+j)) H
 | .str i,.str j=>i.length+j.length<=sizeLine/\Q (.str (i++j)) H
 | .ref a,.ref b=>rCat (.ref a) (.ref b) H Q\/rCatT K (.ref a) (.ref b) H Q
 | _,_=>False
theorem u_add:OpR X (binaryOp .Add) (qdd X.K):=by
 intro pins s σ H x y v u Q I c d h
 cases x with
 | int i=>cases y with
  | int j=>show op_add pins s σ H _ _ v u Q I c d ⟨i,j,rfl,rfl,h⟩
  | _=>show False.elim h
 | str i=>cases y with
  | str j=>show op_add_str pins s σ H _ _ v u Q I c d ⟨i,j,rfl,rfl,h.1,h.2⟩
  | _=>show False.elim h
 | ref a=>cases y with
  | ref b=>show h.elim (λh=>op_cat pins s σ H _ _ v u Q I c d h) λh=>op_catT pins s σ H _ _ v u Q I c d h
  | _=>show False.elim h
 | _=>show False.elim h
def qed(K:yg):List V->Hp->VK->Prop:=λxs H Q=>match xs with
 | [.str z]=>z.length<=sizeLine/\Q (.int z.length) H
 | [.ref p]=>(∃ ys,(SqL K H p ys\/SqT K H p ys)/\Q (.int ys.length) H)\/∃ kvs,H p=some (.dK kvs)/\Q (.int kvs.length) H
 | _=>False
theorem call_lenU:zI X (.builtin "len") (qed X.K):=by
 intro pins s σ H xs us Q I r h
 match xs,h with
 | [.str z],h=>show call_len_str pins s σ H _ us Q I r ⟨z,rfl,h.1,h.2⟩
 | [.ref p],.inl ⟨ys,h,q⟩=>show call_len_seq pins s σ H _ us Q I r ⟨p,ys,rfl,h,q⟩
 | [.ref p],.inr ⟨kvs,h,q⟩=>show call_lenD pins s σ H _ us Q I r ⟨p,kvs,rfl,h,q⟩
theorem sl_str:SlR X (λx lo c H Q=>∃ z,x=.str z/\z.length<=sizeLine/\Q (.str (Txt.slice z lo c)) H):=by
 intro pins s σ H x v g m lo c f Q I e a pl d h;obtain⟨z,rfl,b,q⟩:=h;obtain⟨t,rfl⟩:=e;show⟨"str",_,F.slot_str_getitem.lookup,typeIs_str _ _ _,?_⟩
 cases pl with
 | none =>
  cases d with
  | none=>show Xd (l:=none) (u:=none) (st:=none) a rfl (kx ⟨yi (Kd z _ _) b,λt' k=>⟨.str _,H,I.tok _,⟨_,rfl⟩,q⟩⟩)
  | int j uj=>show Xd (l:=none) (u:=some (j,uj)) (st:=none) a rfl (kx ⟨yi (Kd z _ _) b,λt' k=>⟨.str _,H,I.tok _,⟨_,rfl⟩,q⟩⟩)
 | int i ui =>
  cases d with
  | none=>show Xd (l:=some (i,ui)) (u:=none) (st:=none) a rfl (kx ⟨yi (Kd z _ _) b,λt' k=>⟨.str _,H,I.tok _,⟨_,rfl⟩,q⟩⟩)
  | int j uj=>show Xd (l:=some (i,ui)) (u:=some (j,uj)) (st:=none) a rfl (kx ⟨yi (Kd z _ _) b,λt' k=>⟨.str _,H,I.tok _,⟨_,rfl⟩,q⟩⟩)
def qgL(K:yg):V->Option Int->Option Int->Hp->VK->Prop:=λx lo b H Q=>match x with
 | .str z=>z.length<=sizeLine/\Q (.str (Txt.slice z lo b)) H
 | .ref a=>rSlL K (.ref a) lo b H Q\/rSlT K (.ref a) lo b H Q
 | _=>False
theorem u_sl:SlR X (qgL X.K):=by
 intro pins s σ H x v g i lo b f Q I e c pl d h
 cases x with
 | str z=>show sl_str pins s σ H _ v g i lo b f Q I e c pl d ⟨z,rfl,h.1,h.2⟩
 | ref a=>show h.elim (λh=>sl_list pins s σ H _ v g i lo b f Q I e c pl d h) λh=>sl_tup pins s σ H _ v g i lo b f Q I e c pl d h
 | _=>show False.elim h
theorem qde:∀{ys:LS} {us:List Value},Vals (ys.map V.str) us->StrsAre us ys
 | [],_,.nil=>.nil
 | y::ys,_,.cons r t=>by
  obtain⟨tk,rfl⟩:=r;show .cons y tk (qde t)
def qge(K:yg):V->List V->Hp->VK->Prop:=λx vs H Q=>∃(z:Str) (p:Addr) (ys:LS),x=.str z/\vs=[.ref p]/\SqL K H p (ys.map V.str)/\(ys.map (·.length)).sum+ys.length*z.length<=16777216/\Q (.str (Txt.join z ys)) H
theorem mt_join:MtR X "str.join" (qge X.K):=by
 intro pins s σ H x vs v us Q I e d h;obtain⟨z,p,ys,rfl,rfl,a,b,q⟩:=h;obtain⟨t,rfl⟩:=e;obtain⟨u,rfl,c⟩:=d.one;cases c;obtain⟨its,r,pl,_⟩:=I.list a;show join_list pl.isList (by simpa using qde r) b λt' k=>⟨.str _,H,I.tok _,⟨_,rfl⟩,q⟩
def qgM(K:yg)(te:TE):TI:=fun σ H R=>te σ H λv b=>match v with
 | .str x=>R (Its x) b
 | .ref a=>((∃ xs,SqL K b a xs)/\R (Itl K a) b)\/((∃ xs,SqT K b a xs)/\R (Itt K a) b)
 | _=>False
theorem pi_any{e:Expr}(u:PE X e te)(g:∀ it v,letOwnedTupleGo tg it v=pure ():=by intro _ _;rfl):PI X tg e (qgM X.K te):=by
 intro pins s σ H R I h;show thn (u pins s σ H _ I h) λv c ⟨y,f,d,r,j⟩=>?_
 cases y with
 | str x =>
  obtain⟨t,rfl⟩:=r
  have fp:∀ b∈[c.heap.objs.size],qea X pins f b:=λb hb=>by
   have e:b=c.heap.objs.size:=by simpa using hb
   subst e;show d.fpOk (yh _) (d.hok.fresh (yh _))
  cases n:x.cps.all (· < 128)
  .show wpAny_pyIter_wide n ⟨c.heap.objs.size,[c.heap.objs.size],_,_,f,rfl,d.kept (t':=c.toks) λb o e=>yy _ e,
    qdI (T:="str_iterator") (λA l=>Walks.strWide l _ x t) (λA i s Q E st h=>wpAny_pyIter_striter_wide st h) (g _),⟨_,Yd _ rfl,rfl,rfl⟩,fp,j⟩
  .show wpAny_pyIter_ascii n ⟨c.heap.objs.size,[c.heap.objs.size],_,_,f,rfl,d.kept (t':=c.toks) λb o e=>yy _ e,
    qdI (T:="str_ascii_iterator") (λA l=>Walks.strAscii l _ x t) (λA i s Q E st h=>wpAny_pyIter_striter_ascii st h) (g _),⟨_,Yd _ rfl,rfl,rfl⟩,fp,j⟩
 | ref a =>
  cases r
  have fp:∀ b∈[c.heap.objs.size],qea X pins f b:=λb hb=>by
   have e:b=c.heap.objs.size:=by simpa using hb
   subst e;show d.fpOk (yh _) (d.hok.fresh (yh _))
  rcases j with⟨⟨xs,m⟩,q⟩ | ⟨⟨xs,m⟩,q⟩
  .obtain⟨its,z,p,w⟩:=d.list m;show XV p.isList ⟨c.heap.objs.size,[c.heap.objs.size],_,_,f,rfl,d.kept (t':=c.toks) λb o e=>yy _ e,qcC a _,⟨_,Yd _ rfl,rfl,rfl⟩,fp,q⟩
  .obtain⟨its,z,p,w⟩:=d.tuple m;show wpAny_pyIter_tuple (show c.heap.IsTuple a its.toArray from p) ⟨c.heap.objs.size,[c.heap.objs.size],_,_,f,rfl,d.kept (t':=c.toks) λb o e=>yy _ e,turn_tuple a _,⟨_,Yd _ rfl,rfl,rfl⟩,fp,q⟩
 | _=>show False.elim j
end
section
variable{D:Ends}{σ:St}{H:Hp}{Q:VK}{QT:Bool->Hp->Prop}{QA:List V->Hp->Prop}{t u:TS}{te ta tb tc:TE}{c c':TT}{tr tas:TA}{r r':R2}{K:yg}
theorem vSeq(h:t { D with nx:=u D } σ H):qgC t u D σ H:=h
theorem vAsg{i:Nat}(h:te σ H λx a=>D.nx (σ.set i (some x)) a):qf4 te (qb3 i) D σ H:=h
theorem vAsgS{to a:TE}{s:qf3}(h:te σ H λx b=>to σ b λo c=>a σ c λi d=>s o i x d λe=>D.nx σ e):qf4 te (qgU to a s) D σ H:=h
theorem vIfS(h:c σ H λb a=>if b=true then t D σ a else u D σ a):qgR c t u D σ H:=h
theorem vRet(h:te σ H D.rt):qgQ te D σ H:=h
theorem vRetN(h:D.rt .non H):qf2 D σ H:=h
theorem vDrop(h:te σ H λ_ a=>D.nx σ a):qf1 te D σ H:=h
theorem vNext(h:D.nx σ H):qf0 D σ H:=h
theorem vC(h:Q v H):tC v σ H Q:=h
theorem vVar{i:Nat}(e:σ[i]?=some (some v))(h:Q v H):qfG i σ H Q:=⟨v,e,h⟩
theorem vOp(h:ta σ H λx a=>tb σ a λy b=>r x y b Q):tOp r ta tb σ H Q:=h
theorem vUn{f:V->Hp->VK->Prop}(h:ta σ H λx a=>f x a Q):tUn f ta σ H Q:=h
theorem vChain(h:ta σ H λx b=>tb σ b λy c=>r x y c λz a=>∃ k,z=.bl k/\if k=true then tc σ a λe d=>r' y e d Q else Q (.bl false) a):qek r r' ta tb tc σ H Q:=h
theorem vNil(h:QA [] H):qf7 σ H QA:=h
theorem vCons(h:ta σ H λx a=>tr σ a λxs b=>QA (x::xs) b):qe8 ta tr σ H QA:=h
theorem vCB{f:List V->Hp->VK->Prop}(h:tas σ H λvs a=>f vs a Q):tCB f tas σ H Q:=h
theorem vCall{E:XK}(h:tas σ H λvs a=>sp (vs++[]) a Q E):qel sp [] E tas σ H Q:=h
theorem vLst(h:tas σ H λxs a=>NewL xs a Q):qgY tas σ H Q:=h
theorem vTup(h:tas σ H λxs a=>NewT xs a Q):qgG tas σ H Q:=h
theorem vTest(h:te σ H λx H'=>∃ k,x=.bl k/\QT k H'):qfJ te σ H QT:=h
theorem vB(h:te σ H λx H'=>∃ k,x=.bl k/\QT k H'):tB te σ H QT:=h
theorem vNot(h:c σ H λb a=>QT (!b) a):qgP c σ H QT:=h
theorem vAnd(h:c σ H λb a=>if b=true then c' σ a QT else QT false a):qgB c c' σ H QT:=h
theorem vOr(h:c σ H λb a=>if b=true then QT true a else c' σ a QT):tOr c c' σ H QT:=h
theorem vAndV(h:ta σ H λx a=>∃ k,x=.bl k/\if k=true then tb σ a Q else Q (.bl false) a):qfZ ta tb σ H Q:=h
theorem vOrV(h:ta σ H λx a=>∃ k,x=.bl k/\if k=true then Q (.bl true) a else tb σ a Q):tOrV ta tb σ H Q:=h
theorem vNotV(h:ta σ H λx a=>∃ k,x=.bl k/\Q (.bl (!k)) a):tNotV ta σ H Q:=h
theorem vIf(h:c σ H λb a=>if b=true then ta σ a Q else tb σ a Q):tIf c ta tb σ H Q:=h
theorem vYes(h:QT true H):qgJ σ H QT:=h
theorem vI0{g:Int->Int->V}(h:Q (g i j) H):rI0 g (.int i) (.int j) H Q:=⟨i,j,rfl,rfl,h⟩
theorem vI{C:Int->Int->Prop}{g:Int->Int->V}(hc:C i j)(h:Q (g i j) H):rI C g (.int i) (.int j) H Q:=⟨i,j,rfl,rfl,hc,h⟩
theorem vU{g:Int->V}(h:Q (g i) H):rU g (.int i) H Q:=⟨i,rfl,h⟩
theorem vEqI(h:Q (.bl (decide (i=j))) H):rEq (.int i) (.int j) H Q:=⟨rfl,by
 have e:decide (V.int i=V.int j)=decide (i=j):=by
  by_cases h:i=j
  .subst h;simp
  .rw [ym h,ym (λe=>h (V.int.inj e))]
 rw[e];show h⟩
theorem vEqB{i j:Bool}(h:Q (.bl (i==j)) H):rEq (.bl i) (.bl j) H Q:=⟨rfl,by rw[dec_bl];show h⟩
theorem j9(b:H p=some (.lst xs))(a:atI xs i=some v)(h:Q v H):rIx K (.ref p) (.int i) H Q:=.inl ⟨p,xs,i,v,rfl,rfl,SqL.of b,a,h⟩
theorem vIxLs(b:SqL K H p xs)(a:atI xs i=some v)(h:Q v H):rIx K (.ref p) (.int i) H Q:=.inl ⟨p,xs,i,v,rfl,rfl,b,a,h⟩
theorem qaH(b:H p=some (.tup xs))(a:atI xs i=some v)(h:Q v H):rIx K (.ref p) (.int i) H Q:=.inr (.inl ⟨p,xs,i,v,rfl,rfl,SqT.of b,a,h⟩)
theorem qg2{ch:Nat}(b:z.length<=sizeLine)(a:atI z.cps.toList i=some ch)(h:Q (.str ⟨#[ch]⟩) H):rIx K (.str z) (.int i) H Q:=.inr (.inr ⟨z,i,ch,rfl,rfl,b,a,h⟩)
theorem qee{k:Int}{j:Nat}{a:Hp->Prop}(c:H p=some (.lst xs))(b:ixN xs.length k=some j)(h:a (upd H p (.lst (xs.set j v)))):rSetL (.ref p) (.int k) v H a:=⟨p,xs,k,j,rfl,rfl,c,b,h⟩
theorem vEx{k:Bool}{P:Bool->Prop}(h:P k):∃ k',V.bl k=.bl k'/\P k':=⟨k,rfl,h⟩
theorem vLeI(h:Q (.bl (decide (i<=j))) H):qgK (.int i) (.int j) H Q:=h
theorem vLeS{i j:Str}(h:Q (.bl (!decide (j.cps.toList<i.cps.toList))) H):qgK (.str i) (.str j) H Q:=h
theorem vIsB{i j:Bool}(h:Q (.bl (i==j)) H):qg0 (.bl i) (.bl j) H Q:=h
theorem vAddI(h:Q (.int (i+j)) H):qdd K (.int i) (.int j) H Q:=h
theorem qfM{i j:Str}(a:i.length+j.length<=sizeLine)(h:Q (.str (i++j)) H):qdd K (.str i) (.str j) H Q:=⟨a,h⟩
theorem qcS(hc:CMul i j)(h:Q (.int (i*j)) H):qgd (.int i) (.int j) H Q:=⟨hc,h⟩
theorem qgf(a:z.length<=sizeLine)(h:Q (.int z.length) H):qed K [.str z] H Q:=⟨a,h⟩
theorem qac(a:H p=some (.lst ys))(h:Q (.int ys.length) H):qed K [.ref p] H Q:=.inl ⟨ys,.inl (SqL.of a),h⟩
theorem vLenLs(a:SqL K H p ys)(h:Q (.int ys.length) H):qed K [.ref p] H Q:=.inl ⟨ys,.inl a,h⟩
theorem qfN(a:H p=some (.tup ys))(h:Q (.int ys.length) H):qed K [.ref p] H Q:=.inl ⟨ys,.inr (SqT.of a),h⟩
theorem qgN{lo a:Option Int}(b:z.length<=sizeLine)(h:Q (.str (Txt.slice z lo a)) H):qgL K (.str z) lo a H Q:=⟨b,h⟩
theorem vSl{f:V->Option Int->Option Int->Hp->VK->Prop}{tl a:TO}(h:te σ H λx b=>tl σ b λl c=>a σ c λu d=>f x l u d Q):tSl f te tl a σ H Q:=h
theorem vNoPart(h:QO none H):qeo σ H QO:=h
theorem vPart(h:te σ H λx a=>∃ i,x=.int i/\QO (some i) a):qf9 te σ H QO:=h
theorem vExI{P:Int->Prop}(h:P i):∃ j,V.int i=.int j/\P j:=⟨i,rfl,h⟩
theorem vBM{f:V->List V->Hp->VK->Prop}(h:te σ H λx a=>tyV K T x a/\tas σ a λxs b=>f x xs b Q):tBM K T f te tas σ H Q:=h
theorem vBM0{f:V->List V->Hp->VK->Prop}(h:te σ H λx a=>tyV K T x a/\f x [] a Q):tBM0 K T f te σ H Q:=h
theorem vComp(h:wi σ H λJ a=>qec J g c te (qeg nl ixs σ) a Q):qfL wi g c te nl ixs σ H Q:=h
theorem vFor (h:wi σ H λJ d=>∃ W:Nat->Nat->St->Hp->Prop,(∃ m,W 0 m σ d)/\∀ i m σ H,W i m σ H ->
 (J.stop i H/\D.nx σ H)\/(J.go i H/\∃ N:St->Hp->Prop,(∀ a H',N a H'->∃ c,c<m/\W (i+1) c a H')/\∀ x H',J.yld i H x H'->g x σ H' λb e=>t { D with nx:=N,ct:=N,bk:=D.nx } b e)):qgW wi g t D σ H:=h
theorem vRng1(h:tas σ H λvs a=>∃ j:Int,vs=[.int j]/\-(2 ^ 62)<=j/\j<2 ^ 62/\R (Itr 0 j.toNat) a):qf5 tas σ H R:=h
theorem vAny (h:te σ H λv b=>match v with
 | .str x=>R (Its x) b
 | .ref a=>((∃ xs,SqL K b a xs)/\R (Itl K a) b)\/((∃ xs,SqT K b a xs)/\R (Itt K a) b)
 | _=>False):qgM K te σ H R:=h
theorem vGN{i:Nat}{a:St->Hp->Prop}(h:a (σ.set i (some v)) H):qb3 i v σ H a:=h
end
section
variable{X:Cx}{K:yg}{o e:Expr}{es:List Expr}{to ta:TE}{t:TA}{name f:Str}{apos cpos pos:Pos}{T id:String}{r:V->List V->Hp->VK->Prop}{tg:Expr}
theorem zg(a:X.K=K):zI X (.builtin "len") (qed K):=by subst a;show call_lenU
theorem qgg(a:X.K=K)(hc:X.calm=true):zI X (.builtin "all") (qgZ K):=by subst a;show call_all hc
theorem qc8(a:X.K=K):SlR X (qgL K):=by subst a;show u_sl
theorem je(a:X.K=K):OpR X (binaryOp .Add) (qdd K):=by subst a;show u_add
theorem k_join(a:X.K=K):MtR X "str.join" (qge K):=by subst a;show mt_join
theorem jh(b:X.K=K)(c:PE X e ta)(a:∀ it v,letOwnedTupleGo tg it v=pure ():=by intro _ _;rfl):PI X tg e (qgM K ta):=by subst b;show pi_any c a
theorem qaX(h:X.K=K)(n:PlainAttrs T)(f:Slot T name id)(g:typeOf (.builtin id)=pure (.type "method_descriptor"))(j:MtR X id r)(l:PE X o to)(i:PA X (e::es) t)
  (b:attributeBase o name X.env (eval o X.env)=eval o X.env:=by rfl)
  (d:((backTo cpos (starEach (e::es) X.env)).all (λx=>!x.1)&&(backToKw cpos (keywordEach [] X.env)).all (λx=>x.1.isSome)
   && decide ((e::es).length+([]:List Keyword).length+(if ([]:List Keyword).isEmpty then 0 else 1)<30))=true:=by rfl)
  (c:(apos.endLine==cpos.line)=true:=by rfl) (m:starEach (e::es) X.env=(false,eval e X.env)::starEach es X.env:=by rfl) (a:(backTo cpos (starEach es X.env)).any (·.1)=false:=by rfl) :
  PE X (.Call (.Attribute o name apos) (e::es) [] cpos) (tBM K T r to t):=by
 subst h;show pe_bm n f g j l i b d c m a
end
structure DefOk(P:Program)(w:World)(K:yg)(mg:Str->Option Value)(base:Heap)(CX:CXT)(k:Nat)(x:Str)(ps:LS)(sp:Sp):Prop where
 ex:∃ f fd,FnOk P w K mg base CX k f fd ps sp/\mg x=some (.ref f)/\PySem.W.keepIn K (.ref f)=true/\Binds K fd ps []
section
variable{X:Cx}{CX:CXT}{k:Nat}{ps:LS}{sp:Sp}{E:XK}{x:Str}{p pos:Pos}{e:Expr}{es:List Expr}{t:TA}
theorem qx(D:DefOk X.prog X.w X.K X.mg X.base CX k x ps sp)(j:Room k X.A)(l:qab CX X E)(c:PA X (e::es) t)(g:Gl X x:=by rfl)(a:(x==("__debug__":Str))=false:=by decide)
  (d:starEach (e::es) X.env=(false,eval e X.env)::starEach es X.env:=by rfl) (b:(backTo pos (starEach es X.env)).any (·.1)=false:=by rfl):PE X (.Call (.Name x p) (e::es) [] pos) (qel sp [] E t):=by
 obtain⟨f,fd,F,i,h,hb⟩:=D.ex;show pe_call F j g i h hb .nil l c a d b
theorem qbo(c:Gl X x)(a:∃ tk,X.mg x=some (.int i tk))(b:(x==("__debug__":Str))=false:=by decide):PE X (.Name x pos) (tC (.int i)):=by
 obtain⟨tk,a⟩:=a;show qci c a ⟨tk,rfl⟩ b
end
def qey(t c:String):Bool:=t==c||(t=="bool"&&c=="int")
theorem zc(K:yg):∀ t∈wqb,∀ c∈["bool","int","str","list","tuple","dict"],PySem.W.kitOne K (.type t) (.type c)=some (qey t c):=by
 intro t a c hc;simp only[yv,yJ,Yo] at a hc;rcases a with rfl | rfl | rfl | rfl | rfl | rfl | rfl<;>rcases hc with rfl | rfl | rfl | rfl | rfl | rfl<;>rfl
def qcA:List Value->Bool
 | [.type a,.type b,.type c,.type d]=>a=="ValueError"&&b=="Exception"&&c=="BaseException"&&d=="object"
 | .ref _::r=>qcA r
 | _=>false
def qgz(K:yg)(C:Addr):Bool:=match K.lookup C with
 | some ⟨.type "type",_,.cls cd,sl⟩=>(match cd.mro,sl.toList with
  | .ref D::bm,[_,_,_,_,some (.builtin n),_]=>D==C&&!cd.hasDel&&qcA bm&&n=="ValueError.__new__"
  | _,_=>false)
 | _=>false
theorem qdL{K:yg}(X:K.In h)(q:qgz K C=true):∃ nm o N bs c b sn sub d a e f g i j m,
  h.get? C=some (excClassObj nm o C N bs c b sn sub d a e f g i j m "ValueError.__new__")/\qcA c=true:=by
 unfold qgz at q;split at q
 .rename_i e cd sl ho
  split at q
  .rename_i D c f g i j n m hm hs
   simp only[yO,Yl,Y6] at q;obtain⟨⟨⟨r,p⟩,s⟩,t⟩:=q;subst r t;obtain⟨nm,bs,mro,ns,o,u,sn,sub,d,a,del⟩:=cd;dsimp only at hm p;subst hm p;obtain⟨l⟩:=sl;dsimp only at hs;subst hs;show⟨nm,o,ns,bs,c,u,sn,sub,d,a,e,f,g,i,j,m,X _ _ ho,s⟩
  .cases q
 .cases q
structure XAt(K:yg)(C:Addr):Prop where
 ga:PySem.W.findIn K (.ref C) "__getattribute__"=some (some (.builtin "BaseException.__getattribute__"))
 gn:PySem.W.findIn K (.ref C) "__getattr__"=some none
 bx:PySem.W.mroIn K C (.type "BaseException")=some true
 ob:PySem.W.mroIn K C (.type "object")=some true
 hd:PySem.W.hasDictIn K C=true
 cl:PySem.W.findIn K (.ref C) "__class__"=some (some (.builtin "object.__class__"))
 cg:PySem.W.specialIn K (.builtin "object.__class__") "__get__"=some (some (.builtin "getset_descriptor.__get__"))
 ct:PySem.W.takesIn K (.builtin "object.__class__")=some true
 sa:PySem.W.findIn K (.ref C) "__setattr__"=some (some (.builtin "object.__setattr__"))
 mr:(PySem.W.clsIn K C).any (λcd=>qcA cd.mro)=true
 xc:qgz K C=true
theorem bexc_ga_slot:Slot "ValueError" "__getattribute__" "BaseException.__getattribute__":=PySem.F.attr_ValueError.ga
section
variable{prog:Program}{w:World}{A:Around}{E:Value->Shared->Prop}{s:Shared}{K:yg}{x C:Addr}{ox:Obj}{od:Option Obj}{name:Str}{v:Value}
theorem xga_value{Q:Fin->Shared->Prop}(X:K.In s.heap)(I:PySem.W.InstAt s.heap x ox C od)(a:PySem.W.findObj K C od name=some (.value v))(h:Q (.done (.ret v)) s) :
  wpAny (model prog w) A (Builtin.«object.__getattribute__» ⟨[.ref x,.str name tk],[]⟩) Q E s:=by
 have F:=PySem.W.looks_find (M:=model prog w) X I a;show yt (yz (yt (yz (yt (I.type.here (yt (F.here ?_)))))));show yz h
theorem xga_call{R:Result->Shared->Prop}(X:K.In s.heap)(I:PySem.W.InstAt s.heap x ox C od)(hb:PySem.W.mroIn K C (.type "BaseException")=some true)
  (h:wpAny (model prog w) A.in1 (Builtin.«object.__getattribute__» ⟨[.ref x,.str name tk],[]⟩) (λa s'=>match a with | .done f=>R (.ok f) s' | .again c'=>c'.quiet=true/\codeAny (model prog w) A c' R s') (λe s'=>R (.error e) s') s) :
  codeAny (model prog w) A (.call (.builtin "BaseException.__getattribute__") ⟨[.ref x,.str name tk],[]⟩) R s:=by
 show xx bexc_ga_slot.plain PySem.F.entry_bexc_ga ?_;show @PySem.W.check_slot (model prog w) _ _ s "BaseException.__getattribute__" "BaseException" "__getattribute__" (.ref x) [.str name tk] [] _ (by room) (by room) (I.type.andThen (xC X hb)) (PySem.F.args_bexc_ga _ _) h
theorem qez{b:Bool}{Q:Value->Shared->Prop}(X:K.In s.heap)(I:PySem.W.InstAt s.heap x ox C od)(c:XAt K C)
  (h:wpAny (model prog w) A.in1 (Builtin.«object.__getattribute__» ⟨[.ref x,.str name tk],[]⟩) (λa s'=>match a with | .done (.ret v)=>wpAny (model prog w) A (handedOut v) Q E s' | _=>False) (λ_ _=>False) s) :
  wpAny (model prog w) A (getAttrBy (.ref x) (.str name tk) b expr) Q E s:=by
 unfold getAttrBy;show YG (yt (I.type.here (yt ((YU X c.ga).here ?_))))
 have d:(onTheHeap (Value.ref C)&&Value.builtin "BaseException.__getattribute__"==Value.builtin "object.__getattribute__")=false:=by
  rw[show(Value.builtin "BaseException.__getattribute__"==Value.builtin "object.__getattribute__")=false by room];rfl
 dsimp only;rw[d,yF (by decide)];unfold getAttrByItsOwn hookBefore;rw[yG (show onTheHeap (Value.ref C)=true from rfl)];show yt ((YU X c.gn).here (yt (wpAny_attempt (YG ?_))));have e:(expr&&onTheHeap (Value.builtin "BaseException.__getattribute__"))=false:=by cases expr<;>rfl
 unfold callGetattribute;rw[e,yF (by decide)];unfold boundAndCalled;rw[bexc_ga_slot.bind];show yt (yz ?_);show wpAny _ _ (call (.builtin "BaseException.__getattribute__") [.ref x,.str name tk]) _ _ _;show xJ (xga_call X I c.bx (YC h (λa s' z=>?_) λ_ _ z=>z.elim));rcases a with(_ | _ | _ | _) | _<;>first | show z | show z.elim
theorem xget{Q:Value->Shared->Prop}(X:K.In s.heap)(I:PySem.W.InstAt s.heap x ox C od)(c:XAt K C)(a:PySem.W.findObj K C od name=some (.value v))(b:PySem.W.handedIn v=true)
  (h:Q v { s with toks:=s.toks+1 }):wpAny (model prog w) A (getAttr (.ref x) name expr) Q E s:=by
 unfold getAttr;show yt (wpAny_mkText (qez (s:={ s with toks:=s.toks+1 }) X I c (xga_value (s:={ s with toks:=s.toks+1 }) X I a ?_)));show wpAny _ _ (handedOut v) _ _ _;rw[PySem.W.handedOut_of b];show yz h
theorem xclass{Q:Option Value->Shared->Prop}(X:K.In s.heap)(I:PySem.W.InstAt s.heap x ox C od)(c:XAt K C)(a:PySem.W.findObj K C od "__class__"=some (.bind (.builtin "getset_descriptor.__get__") (.builtin "object.__class__")))
  (h:Q (some (.ref C)) { s with toks:=s.toks+1 }):wpAny (model prog w) A (getAttr? (.ref x) "__class__") Q E s:=by
 unfold getAttr? getAttrBy?;show yt (wpAny_mkText (yt (wpAny_attempt (qez (s:={ s with toks:=s.toks+1 }) X I c ?_))));have F:=PySem.W.looks_find (M:=model prog w) X I a;show yt (yz (yt (yz (yt (I.type.here (s:={ s with toks:=s.toks+1 }) (yt (F.here (s:={ s with toks:=s.toks+1 }) ?_)))))));show wpAny _ _ (holding [Value.builtin "object.__class__"] (call (.builtin "getset_descriptor.__get__") [.builtin "object.__class__",.ref x,.ref C])>>=ret) _ _ _;show yt (YG (xJ (PySem.W.class_get (s:={ s with toks:=s.toks+1 }) X I c.ob ?_)));show yz ?_;show wpAny _ _ (handedOut (.ref C)) _ _ _;show yz (yz h)
theorem findObj_class(c:XAt K C):PySem.W.findObj K C od "__class__"=some (.bind (.builtin "getset_descriptor.__get__") (.builtin "object.__class__")):=by
 obtain⟨a,hc,_⟩:=x0 c.hd;unfold PySem.W.findObj;rw[hc,Option.bind_some,c.cl,Option.bind_some];simp[c.cg,c.ct]
theorem qdM(c:XAt K C):PySem.W.KitX K (.ref x) (.ref C) (λh=>PySem.W.InstAt h x ox C od) where
 ty:=λ_ _ _ I=>I.type
 it:=λ_ _ X _=>by
  obtain⟨b,hc,_⟩:=x0 c.hd;unfold PySem.W.clsIn at hc;split at hc
  .rename_i c1 d1 cd1 sl1 ho
   intro f i g s' k q;unfold isType loadHead;show yt (wpAny_loadPart (k _ _ (X _ _ ho)) (yz q))
  .cases hc
 ne:=λh d j its n l X a=>by
  obtain⟨b,hc,_⟩:=x0 c.hd;show XW.mpr λq=>?_;have e:C=d:=km (Yl.mp q);subst e;unfold PySem.W.clsIn at hc;split at hc
  .rename_i c1 d1 cd1 sl1 ho
   have z:=(X _ _ ho).symm.trans a;cases z
  .cases hc
 ca:=λX I k=>xclass X I c (findObj_class c) k
end
theorem qcT{r:List Value}(e:qcA (.ref c::r)=true):qcA r=true:=by
 cases r with
 | nil=>cases e
 | cons a r=>show e
theorem qaL:∀{l:List Value},qcA l=true->∃ f:LX,l=f.map Value.ref++[.type "ValueError",.type "Exception",.type "BaseException",.type "object"]
 | [],e=>by cases e
 | .ref c::r,e=>by
  obtain⟨f,q⟩:=qaL (qcT e);show⟨c::f,by rw[q];rfl⟩
 | .type a::r,e=>by
  match r,e with
  | [.type b,.type c,.type d],e =>
   simp only[qcA,yO,Yl] at e;obtain⟨⟨⟨rfl,rfl⟩,rfl⟩,rfl⟩:=e;show⟨[],rfl⟩
theorem refuse_exc(self:Value)(e:qcA l=true):refuseLoop self "__setattr__" l=pure ():=by
 obtain⟨a,rfl⟩:=qaL e
 induction a with
 | nil=>show PySem.F.store_ValueError.passes self
 | cons c a ih=>rw[YJ,kU,refuseLoop_ref];show ih (qcT e)
theorem qaM(e:qcA l=true)(h:T∈wqs):l.contains (.type T)=true:=by
 obtain⟨a,rfl⟩:=qaL e;rw[List.contains_iff_mem];show yN _ ?_;simp only[yv,yJ,Yo] at h ⊢;rcases h with rfl | rfl | rfl | rfl<;>simp
section
variable{prog:Program}{w:World}{A:Around}{E:Value->Shared->Prop}{s:Shared}{K:yg}{x C:Addr}{name:Str}{v:Value}{R:Result->Shared->Prop}
theorem xosa(X:K.In s.heap)(I:PySem.W.InstAt s.heap x ox C od)(c:XAt K C)(n:NoAttr K C name)
  (h:wpAny (model prog w) A.in1 (Builtin.ObjectAttr.storeInOwnDict (.ref x) (.ref C) (.str name tk) name v false)
   (λb s'=>match b with | .done f=>R (.ok f) s' | .again c'=>c'.quiet=true/\codeAny (model prog w) A c' R s') (λe s'=>R (.error e) s') s) :
  codeAny (model prog w) A (.call (.builtin "object.__setattr__") ⟨[.ref x,.str name tk,v],[]⟩) R s:=by
 have a:=PySem.F.store_object;obtain⟨d,hc,i⟩:=x0 c.mr;have g:PySem.W.Looks (model prog w) s.heap (mroOf (.ref C)) d.mro:=(kB X hc).andThen .now;show xx a.slot.plain a.entry (@PySem.W.check_slot (model prog w) _ _ s "object.__setattr__" "object" "__setattr__" (.ref x) [.str name tk,v] [] _ a.kind a.split (I.type.andThen (xC X c.ob)) (a.args (.ref x) (.str name tk) v) ?_);rw[PySem.W.osa_eq,refuse_eq];show yt (yt (I.type.here (yt (g.here ?_))));rw[refuse_exc _ i];show yz (yt (I.type.here (yt ((YU X n).here (yt (yz ?_))))));show h
theorem xset{vs:Array Value}(X:K.In s.heap)(m:s.heap.get? x=some ⟨.ref C,none,.fields vs,#[]⟩)(c:XAt K C)(n:NoAttr K C name){Q:Unit->Shared->Prop}
  (h:∀ h',h'.get? x=some ⟨.ref C,some s.heap.objs.size,.fields vs,#[]⟩->h'.Ns1 s.heap.objs.size (λy=>if y=name then some v else none)->(∀ b o,b≠x->s.heap.get? b=some o->h'.get? b=some o) ->
   Q () { s with heap:=h',toks:=s.toks+2 }):wpAny (model prog w) A (setAttr (.ref x) name v) Q E s:=by
 have I:PySem.W.InstAt s.heap x ⟨.ref C,none,.fields vs,#[]⟩ C none:=⟨m,rfl,rfl,YV⟩;obtain⟨J,hc,D⟩:=x0 c.hd;show PySem.W.set_plain X I c.sa (xosa (s:={ s with toks:=s.toks+1 }) X I c n ?_);show yt (yz (yt (yt (wpAny_loadPart m (yt ((kB X hc).here (s:={ s with toks:=s.toks+1 }) ?_))))));rw[D];obtain⟨a,g,L,tk,N⟩:=s;show wpAny _ _ (alloc { cls:=.type "dict",data:=.dict #[] }>>=λd=>update x (λo=>{ cls:=o.cls,dict:=some d,data:=o.data,slots:=o.slots })>>=λ_=>pure (some d)) _ _ _;have l:x≠a.objs.size:=Yi (yM m);have i:=yy { cls:=.type "dict",data:=.dict #[] } m;show yt (wpAny_alloc' (yt (wpAny_update' i (yz ?_))));have j:=xr (λo:Obj=>{ cls:=o.cls,dict:=some a.objs.size,data:=o.data,slots:=o.slots }) i rfl;have f:=(Heap.get?_update_ne (a.push { cls:=.type "dict",data:=.dict #[] }) a.objs.size x (λo:Obj=>{ cls:=o.cls,dict:=some a.objs.size,data:=o.data,slots:=o.slots }) l.symm).trans (kN rfl rfl);generalize G:(a.push { cls:=.type "dict",data:=.dict #[] }).update x (λo:Obj=>{ cls:=o.cls,dict:=some a.objs.size,data:=o.data,slots:=o.slots })=h2 at j f ⊢;have nd:h2.Ns a.objs.size (λ_=>none):=⟨_,#[],_,f,rfl,λe F=>absurd F (by simp),λ_=>rfl⟩;show wpAny _ _ (Builtin.ObjectAttr.storeInDict a.objs.size (.str name tk) name v) _ _ _;unfold Builtin.ObjectAttr.storeInDict Builtin.ObjectAttr.newKeyGuard;show yt (yz (yt (wpAny_nsSet1 (Heap.Ns1.of_empty nd) λh' u z=>?_)));obtain⟨M,p,B,t,r,q⟩:=u.count (PySem.Within.cons name v PySem.Within.nil);have H:p.size<=sizeLine:=yi q (by rw[yB,Yk,YT];lk);show yt (wpAny_lookBehind t (by rw[r];show pastItsLine_dict (kO H)) ?_);show yz (h h' ((z.2 x l).trans j) u λb o hb e=>(z.2 b (Yi (yM e))).trans ?_);rw[<- G];show(Heap.get?_update_ne _ _ _ _ hb).trans (yy _ e)
theorem ve_check{Q:Unit->Shared->Prop}(X:K.In s.heap)(c:XAt K C)(l:s.heap.get? x=some ox)(a:ox.cls=.ref C)(q:Q () s) :
  wpAny M A (checkBuiltinCall "ValueError.__init__" ⟨[.ref x,u],[]⟩) Q E s:=by
 have F:=xm;have b:=F.noStar;obtain⟨nm,B,N,bs,h,f,sn,sub,m,i,n,r,t,v,w,y,e,j⟩:=qdL X c.xc;have d:(Value.ref C::h).contains (.type "ValueError")=true:=by rw[Yw,qaM j (by simp),XY]
 obtain⟨p,g,o,tk,z⟩:=s;simp only[checkBuiltinCall,F.initKind,F.initSplit,F.initRow]
 repeat (first | (with_reducible show YK l ?_;rw[a]) | with_reducible show YK e ?_ | (with_reducible show xD e ?_;rw[d]) | wp_step)
 show q
abbrev xfs(a0:Addr):Array Value:=#[.ref a0,.none,.none,.none,.bool false,.none]
theorem xbase_init(X:K.In s.heap)(a:s.heap.get? x=some ⟨.ref C,none,.fields (xfs a0),#[]⟩)(c:XAt K C){Q:Value->Shared->Prop}
  (h:∀ h' d,h'.get? x=some ⟨.ref C,none,.fields (xfs d),#[]⟩->(∀ b o,b≠x->s.heap.get? b=some o->h'.get? b=some o)->Q .none { s with heap:=h' }) :
  wpAny (model prog w) A (call (.builtin "ValueError.__init__") [.ref x,u]) Q E s:=by
 have F:=xm;show xJ (xx F.init.plain F.initEntry (ve_check X c a rfl ?_));obtain⟨f,g,i,tk,j⟩:=s
 wp_walk
 show h _ f.objs.size ?_ λb o hb e=>?_
 .rw [xr _ (yy _ a) rfl];rfl
 .rw [YE _ _ (Yh hb)];show yy _ e
end
theorem qdN(e:qcA l=true)(h:T∉wqs):l.contains (.type T)=false:=by
 obtain⟨b,rfl⟩:=qaL e;show XW.mpr λq=>?_;rcases yw.mp (List.contains_iff_mem.mp q) with z | z
 .obtain⟨a,_,q⟩:=yQ.mp z;cases q
 .simp only[yv,yJ,Yo,Value.type.injEq] at z h;show h z
section
variable{prog:Program}{w:World}{A:Around}{R:Result->Shared->Prop}{E:Value->Shared->Prop}{h:Heap}{g:Array GenState}{d:Drawn}{t:Nat}{os:OsState}
variable{nm q:Str}{C N:Addr}{bs bm:List Value}{hdct:Bool}{sn:LS}{sub:List Value}{ab:Bool}{col:Option Bool}{dd:Option Addr}{k0 k1 k2 k3 k5:Option Value}
theorem xnew_check{rest:List Value}{Q:Unit->Shared->Prop}(b:h.get? C=some (excClassObj nm q C N bs bm hdct sn sub ab col dd k0 k1 k2 k3 k5 "ValueError.__new__"))(e:qcA bm=true)(f:Q () ⟨h,g,d,t,os⟩) :
  wpAny M A (checkBuiltinCall "ValueError.__new__" ⟨.ref C::rest,[]⟩) Q E ⟨h,g,d,t,os⟩:=by
 have F:=xm;have a:(Value.ref C::bm).contains (.type "ValueError")=true:=by rw[Yw,qaM e (by simp),XY]
 have c:=F.noStar;simp only[checkBuiltinCall,F.newKind,F.newSplit,F.newRow]
 repeat (first | show YK b ?_ | (show xD b ?_;rw[a]) | show wpAny_staticBase_exc b ?_ | show wpAny_madeBy_exc b ?_ | simp only[bne_self_eq_false,xL,XU] | wp_step)
 show f
theorem xnew{rest:List Value}(b:h.get? C=some (excClassObj nm q C N bs bm hdct sn sub ab col dd k0 k1 k2 k3 k5 "ValueError.__new__"))(j:qcA bm=true)(l:rest.length<=sizeLine)
  (m:R (.ok (.ret (.ref (h.objs.size+1)))) ⟨(h.push { cls:=.type "tuple",data:=.seq rest.toArray }).push { cls:=.ref C,data:=.fields (xfs h.objs.size) },g,d,t,os⟩) :
  codeAny (model prog w) A (.builtin "ValueError.__new__" ⟨.ref C::rest,[]⟩) R ⟨h,g,d,t,os⟩:=by
 have F:=xm;have i:=F.ends;have e:(Value.ref C::bm).contains (.type "ValueError")=true:=by rw[Yw,qaM j (by simp),XY]
 have c:(Value.ref C::bm).contains (.type "AttributeError")=false:=by rw[Yw,qdN j (by simp)];rfl
 have f:(Value.ref C::bm).contains (.type "NameError")=false:=by rw[Yw,qdN j (by simp)];rfl
 show codeAny_builtinAt F.entry ?_;unfold Builtin.«BaseException.__new__»;show PySem.wpAt_bind ?_;show PySem.wpAt _ _ _ (stack>>=_) _ _ _;show PySem.wpAt_bind (PySem.wpAt_stack λn a=>PySem.wpAt_of_wpAny ?_)
 wp_walk
 show PySem.wpAt_of_wpAny ?_;rw[F.owner]
 repeat (first | with_reducible show wpAny_madeHere_exc F.canon b ?_ | with_reducible show YK b ?_ | (with_reducible show xD b ?_;first | rw[e] | rw[c] | rw[f]) | wp_step)
 show R _ _;rw[YW];show m
theorem xtype_call{K:yg}{rest:List Value}{Q:Fin->Shared->Prop}(X:K.In h)(c:h.get? C=some (excClassObj nm q C N bs bm hdct sn sub ab col dd k0 k1 k2 k3 k5 "ValueError.__new__"))(m:qcA bm=true)
  (s:PySem.W.findIn K (.ref C) "__init__"=some (some (.ref f))) (p:PySem.W.isFn K (.ref f)=true) (a:rest.length<=sizeLine)
  (u:wpAny (model prog w) A (call (.ref f) (.ref (h.objs.size+1)::rest)) (λr s'=>r=.none/\Q (.done (.ret (.ref (h.objs.size+1)))) s') E
   ⟨(h.push { cls:=.type "tuple",data:=.seq rest.toArray }).push { cls:=.ref C,data:=.fields (xfs h.objs.size) },g,d,t,os⟩) :
  wpAny (model prog w) A (Builtin.«type.__call__» ⟨.ref C::rest,[]⟩) Q E ⟨h,g,d,t,os⟩:=by
 have F:=xm
 repeat (first | with_reducible show YK c ?_ | with_reducible show wpAny_madeBy_exc c ?_ | wp_step)
 show codeAny_call_builtin_code (kI _ F.quiet) (xnew_check c m (xnew c m a ?_));show wpAny _ _ _ _ _ _;have up:∀ b o,h.get? b=some o->((h.push { cls:=.type "tuple",data:=.seq rest.toArray }).push { cls:=.ref C,data:=.fields (xfs h.objs.size) }).get? b=some o:=λb o e=>yy _ (yy _ e);have hC1:=up _ _ c;have i:((h.push { cls:=.type "tuple",data:=.seq rest.toArray }).push { cls:=.ref C,data:=.fields (xfs h.objs.size) }).get? (h.objs.size+1)=some { cls:=.ref C,data:=.fields (xfs h.objs.size) }:=kN (by rw[YW]) rfl;have l:K.In ((h.push { cls:=.type "tuple",data:=.seq rest.toArray }).push { cls:=.ref C,data:=.fields (xfs h.objs.size) }):=X.keeps up;have j:(Value.ref C::bm).contains (.ref C)=true:=by simp
 unfold isInstance
 repeat (first | with_reducible show YK i ?_ | (with_reducible show xD hC1 ?_;rw[j]) | wp_step)
 show wpAny _ _ (typeLookup (.ref C) _) _ _ _;show(YU l s).at (YG (yt ((PySem.W.bind_fn l _ (Yl.mp p)).at (yt (YC u (λr s' v=>?_) λ_ _ z=>z)))));obtain⟨rfl,n⟩:=v
 wp_walk
 show n
theorem xcall{K:yg}{rest:List Value}{Q:Value->Shared->Prop}(X:K.In s.heap)(c:XAt K C)(i:PySem.W.findIn K (.ref C) "__init__"=some (some (.ref f)))(e:PySem.W.isFn K (.ref f)=true)(a:rest.length<=sizeLine)
  (l:wpAny (model prog w) (A.under (.builtin "type.__call__" ⟨.ref C::rest,[]⟩)) (call (.ref f) (.ref (s.heap.objs.size+1)::rest)) (λr s'=>r=.none/\Q (.ref (s.heap.objs.size+1)) s') E
   { s with heap:=(s.heap.push { cls:=.type "tuple",data:=.seq rest.toArray }).push { cls:=.ref C,data:=.fields (xfs s.heap.objs.size) } }) :
  wpAny (model prog w) A (call (.ref C) rest) Q E s:=by
 obtain⟨nm,p,N,bs,bm,hdct,sn,sub,ab,col,dd,k0,k1,k2,k3,k5,b,j⟩:=qdL X c.xc;obtain⟨h,g,d,t,os⟩:=s;have m:=tc_lookup;have n:=tc_bind (.ref C);have o:(⟨h,g,d,t,os⟩:Shared).TypeIs (.ref C) "type":=⟨_,b,rfl⟩;show xJ (Kg ?_);show wpAny _ _ (callAny (.ref C) _) _ _ _
 repeat (any_goals (first | assumption | with_reducible show YK b ?_ | wp_step))
 show⟨rfl,?_⟩;show codeAny_call_builtin_at (kI _ (by room)) entry_typeCall (wpAny_check_type_call_sub b (xtype_call X b j i e a l))
end
def XN(e C:Addr)(dx:Option Addr):HO:=.ext λh=>∃ a0,h.get? e=some ⟨.ref C,dx,.fields (xfs a0),#[]⟩
def XO(e C:Addr)(dx:Option Addr):HO:=.ext λh=>∃ vs,h.get? e=some ⟨.ref C,dx,.fields vs,#[]⟩
theorem XN.ok(q:h.get? e=some ⟨.ref C,dx,.fields (xfs a0),#[]⟩):ObjOk P w H h e (XN e C dx):=
 ⟨⟨a0,q⟩,⟨_,q⟩,λ_ _ ⟨a,x⟩ k=>⟨a,k _ x⟩⟩
theorem XO.ok{vs:Array Value}(q:h.get? e=some ⟨.ref C,dx,.fields vs,#[]⟩):ObjOk P w H h e (XO e C dx):=
 ⟨⟨vs,q⟩,⟨_,q⟩,λ_ _ ⟨a,x⟩ k=>⟨a,k _ x⟩⟩
def IsX(H:Hp)(e C:Addr)(dx:Option Addr):Prop:=H e=some (XN e C dx)\/H e=some (XO e C dx)
theorem IsX.get(q:IsX H e C dx)(b:HOk P w H h):∃ vs,h.get? e=some ⟨.ref C,dx,.fields vs,#[]⟩:=by
 rcases q with q | q
 .obtain⟨⟨a,x⟩,_⟩:=(show ObjOk P w H h e (XN e C dx) from b e _ q);show⟨_,x⟩
 .obtain⟨⟨a,x⟩,_⟩:=(show ObjOk P w H h e (XO e C dx) from b e _ q);show⟨_,x⟩
theorem upd_id{o:HO}(h:H a=some o):upd H a o=H:=by
 funext b;unfold upd;split
 .rename_i e;subst e;show h.symm
 .rfl
section
variable{X:Cx}{pins:List (Addr×Obj)}{σ:St}{H:Hp}{s:Shared}{e C:Addr}{dx:Option Addr}
theorem qfj(I:Inv X pins σ H s){d:Addr}{fs:List (Str×V)}(h:H d=some (.xd fs)):∃(od:Obj) (a:Str->Option Value),s.heap.get? d=some od/\(∀ name,PySem.W.lookIn name od=some (a name))/\∀ f,RelO (fs.lookup f) (a f):=by
 obtain⟨a,n,r⟩:=(show ObjOk X.prog X.w H s.heap d (.xd fs) from I.hok d _ h);obtain⟨od,h1,b⟩:=qcE n;show⟨od,a,h1,b,r⟩
end
section
variable{X:Cx}{pins:List (Addr×Obj)}{σ:St}{H:Hp}{s:Shared}{a d:Addr}{h':Heap}{o u:HO}{t':Nat}
theorem Inv.both(I:Inv X pins σ H s)(h:Mut (H a))(j:s.heap.objs.size<=d)(k:∀ b v,b≠a->s.heap.get? b=some v->h'.get? b=some v)(l:∃ v,h'.get? a=some v)
  (m:ObjOk X.prog X.w (upd (upd H d u) a o) h' a o) (p:ObjOk X.prog X.w (upd (upd H d u) a o) h' d u) (ne:d≠a):Inv X pins σ (upd (upd H d u) a o) { s with heap:=h',toks:=t' }:=by
 have nd:H d=none:=I.hok.fresh j;have f:∀ b q,H b=some q->¬ Mut (some q)->b≠a:=λb q e nm z=>by subst z;rw[e] at h;show nm h
 have i:∀ b,H b=none->b≠a:=λb e z=>by subst z;rw[e] at h;show h
 have big:∀ b v,s.heap.get? b=some v->b≠d:=λb v e=>Yi (yj (yM e) j);have up:∀ b q,H b=some q->b≠a->upd (upd H d u) a o b=some q:=λb q e n=>by rw[qg n,qg (qN e nd)];show e
 show I.un ⟨λb v e n _ _=>k b v (i b n) e,λb v e n _ _=>⟨v.slots,k b v (i b n) e⟩,λb v e n _=>by rw[qg (i b n),qg (big b v e)];show n,λb v e _=>?_,λb xs e=>up b _ e (f b _ e λz=>z),λb q xs e=>up b _ e (f b _ e λz=>z),
  λb ps e=>⟨#[],by rw[up b _ e (f b _ e λz=>z)];simp⟩⟩ λb q e=>?_
 .by_cases hb:b=a
  .subst hb;show l
  .show⟨v,k b v hb e⟩
 .by_cases hb:b=a
  .subst hb;rw[qb] at e;cases e;show m
  .rw [qg hb] at e;by_cases g:b=d
   .subst g;rw[qb] at e;cases e;show p
   .rw [qg g] at e;show(I.hok b q e).stay (λc v hc r=>k c v ?_ r) (λc r=>up c _ r (f c _ r λz=>z)) λc xs r=>up c _ r (f c _ r λz=>z);rcases hc with rfl | hc
    .show hb
    .show f c _ hc λz=>z
end
inductive FldR(K:yg)(f:Str)(x:V)(H:Hp)(Q:VK):Prop|mk (a C dx:Addr) (fs:List (Str×V)) (v:V) (_:x=.ref a) (_:H a=some (.ins C dx fs)) (_:Cls K C) (_:NoAttr K C f) (_:fs.lookup f=some v) (_:Q v H)
inductive XFlR(K:yg)(f:Str)(x:V)(H:Hp)(Q:VK):Prop|mk (a C dx:Addr) (fs:List (Str×V)) (v:V) (_:x=.ref a) (_:IsX H a C (some dx)) (_:XAt K C) (_:NoAttr K C f) (_:H dx=some (.xd fs)) (_:fs.lookup f=some v) (_:Q v H)
inductive FlUR(K:yg)(f:Str)(x:V)(H:Hp)(Q:VK):Prop | inl (_:FldR K f x H Q) | inr (_:XFlR K f x H Q)
inductive SFdR(K:yg)(f:Str)(x y:V)(H:Hp)(k:Hp->Prop):Prop|mk (a C dx:Addr) (fs:List (Str×V)) (_:x=.ref a) (_:H a=some (.ins C dx fs)) (_:Cls K C) (_:NoAttr K C f) (_:fs.length<1000) (_:k (upd H a (.ins C dx (qG f y fs))))
inductive SXdR(K:yg)(f:Str)(x y:V)(H:Hp)(k:Hp->Prop):Prop|mk (a C:Addr) (_:x=.ref a) (_:H a=some (XN a C none)) (_:XAt K C) (_:NoAttr K C f) (_:∀ dx,H dx=none->k (upd (upd H dx (.xd [(f,y)])) a (XN a C (some dx))))
inductive SFUR(K:yg)(f:Str)(x y:V)(H:Hp)(k:Hp->Prop):Prop | inl (_:SFdR K f x y H k) | inr (_:SXdR K f x y H k)
def qgh(K:yg)(b:TE)(f:Str):TE:=fun σ H Q=>b σ H λx a=>FlUR K f x a Q
def qgi(K:yg)(c d:TE)(f:Str):TS:=λD σ H=>d σ H λy a=>c σ a λx b=>SFUR K f x y b (D.nx σ)
section
variable{X:Cx}{o e value:Expr}{f:Str}{pos pos':Pos}{ta tv:TE}{K:yg}
theorem qA(w:X.K=K)(z:PE X e ta)(hb:attributeBase e f X.env (eval e X.env)=eval e X.env):PE X (.Attribute e f pos) (qgh K ta f):=by
 subst w;intro pins s σ H Q I h;show attr_of hb (thn (z pins s σ H _ I h) λu E ⟨x,j,b,m,i⟩=>?_);rcases i with⟨a,C,dx,fs,v,rfl,g,c,n,l,q⟩ | ⟨a,C,dx,fs,v,rfl,g,c,n,y,l,q⟩
 .obtain rfl:u=Value.ref a:=m;show getattr_ok b g c n l λD F p d=>⟨v,j,p,d,q⟩
 .obtain rfl:u=Value.ref a:=m;obtain⟨vs,i⟩:=g.get b.hok;obtain⟨od,B,h1,t,r⟩:=qfj b y;obtain⟨D,A,d⟩:=RelO.some_of (v:=v) (o:=B f) (by rw[<- l];show r f);show xget b.kIn (od:=some od) ⟨i,rfl,rfl,h1⟩ c (PySem.W.findObj_own c.hd n rfl (by rw[t,A])) (qcF d) ⟨v,j,b.tok _,d,q⟩
theorem qS(J:X.K=K)(L:PE X o ta)(hv:PE X value tv)(M:swapsWith value (some (.Attribute o f pos')) pos.line X.env=pure false):PS X (.Assign [.Attribute o f pos'] value pos) (qgi K ta tv f):=by
 subst J;intro pins s σ H D I h;show plainObj_wpAny_Assign_Attribute (thn (hv pins s σ H _ I h) λu N ⟨y,A,B,z,q⟩=>thn (L pins N σ A _ B q) λt i ⟨x,p,b,v,e⟩=>?_) M;rcases e with⟨a,C,dx,fs,rfl,d,c,n,l,m⟩ | ⟨a,C,rfl,d,c,n,m⟩
 .obtain rfl:t=Value.ref a:=v;show setattr_ok b d c n l z λO E=>⟨σ,_,E,m⟩
 .obtain rfl:t=Value.ref a:=v;obtain⟨⟨a0,e⟩,_⟩:=(show ObjOk X.prog X.w p i.heap a (XN a C none) from b.hok a _ d);show xset b.kIn e c n λh' r F G=>?_;have nd:p i.heap.objs.size=none:=b.hok.fresh (yh _);have ne:i.heap.objs.size≠a:=Xw (yM e);show⟨σ,_,b.both (o:=XN a C (some i.heap.objs.size)) (u:=.xd [(f,y)]) (by rw[d];show YV) (yh _) G ⟨_,r⟩ (XN.ok r) ⟨_,F,λg=>?_⟩ ne,m _ nd⟩;by_cases j:g=f
  .subst j;simp only[List.lookup,Xc,Xy];show z
  .have hb:(g==f)=false:=YB.mpr j;simp only[List.lookup,hb,yF j];show YV
end
def qeA(C:Addr)(sp:Sp)(E:XK)(t:TA):TE:=fun σ H Q=>t σ H λvs a=>vs.length<=1000/\∀ x,a x=none->sp (.ref x::vs) (upd a x (XN x C none)) (λv b=>v=.non/\Q (.ref x) b) E
structure XMk(K:yg)(C f:Addr):Prop where
 at_:XAt K C
 init:PySem.W.findIn K (.ref C) "__init__"=some (some (.ref f))
 fn:PySem.W.isFn K (.ref f)=true
 kp:PySem.W.keepIn K (.ref C)=true
section
variable{X:Cx}{CX:CXT}{k:Nat}{f C:Addr}{fd:FuncData}{ps:LS}{sp:Sp}{E:XK}{x m:Str}{p pos apos:Pos}{e o:Expr}{es:List Expr}{ta:TE}{t:TA}
theorem run_xmake{Q:VK}(M:XMk X.K C f)(F:FnOk X.prog X.w X.K X.mg X.base CX k f fd ps sp)(y:Room (k+1) X.A)(hb:Binds X.K fd ps [])
  (B:qab CX X E) (I:Inv X pins σ H s) (r:Vals vs us) (i:vs.length<=1000) (h:∀ x,H x=none->sp (.ref x::vs) (upd H x (XN x C none)) (λv n=>v=.non/\Q (.ref x) n) E) :
  wpAny (model X.prog X.w) X.A (call (.ref C) us) (EP X pins σ Q) X.xe s:=by
 have l:=h (s.heap.objs.size+1) (I.hok.fresh (Xf _));have up:∀ b o,s.heap.get? b=some o->((s.heap.push { cls:=.type "tuple",data:=.seq us.toArray }).push { cls:=.ref C,data:=.fields (xfs s.heap.objs.size) }).get? b=some o:=λb o q=>yy _ (yy _ q);have d:((s.heap.push { cls:=.type "tuple",data:=.seq us.toArray }).push { cls:=.ref C,data:=.fields (xfs s.heap.objs.size) }).get? (s.heap.objs.size+1)=some ⟨.ref C,none,.fields (xfs s.heap.objs.size),#[]⟩:=kN (by rw[YW]) rfl;have g:=I.laid (a:=s.heap.objs.size+1) (o:=XN (s.heap.objs.size+1) C none) (t':=s.toks) up (Xf _) (XN.ok d);have m:Vals (V.ref (s.heap.objs.size+1)::vs) (Value.ref (s.heap.objs.size+1)::us):=.cons rfl r
 have hl:(Value.ref (s.heap.objs.size+1)::us++[]).length=ps.length:=by
  have q:=m.length;rw[F.len _ _ _ _ l] at q;rw[Ys];show q.symm
 have j:us.length<=sizeLine:=by rw[<- r.length];show yS (qv i)
 show xcall I.kIn M.at_ M.init M.fn j (xJ (xH (F.run _ X.stack _ _ ⟨Value.ref (s.heap.objs.size+1)::us,[]⟩ (Value.ref (s.heap.objs.size+1)::us) _ _ E (y.make C us [])
  (g.env0.make C us []) (by have z:=hb _ (Value.ref (s.heap.objs.size+1)::us) g.kIn hl;rw[Ys] at z;show z) m l) λr s' c=>?_))
 cases r with
 | error e=>show B pins σ _ _ e s' g c
 | ok fl =>
  cases fl with
  | ret u =>
   obtain⟨v,H',p,G,t,D⟩:=g.after c;subst t;show⟨G,⟨V.ref (s.heap.objs.size+1),H',p,rfl,D⟩⟩
  | next=>show False.elim c
  | brk=>show False.elim c
  | cont=>show False.elim c
theorem pe_xmake(M:XMk X.K C f)(F:FnOk X.prog X.w X.K X.mg X.base CX k f fd ps sp)(l:Room (k+1) X.A)(i:Gl X x)(j:X.mg x=some (.ref C))(hb:Binds X.K fd ps [])(m:qab CX X E)
  (d:PA X (e::es) t) (a:(x==("__debug__":Str))=false:=by decide) (g:starEach (e::es) X.env=(false,eval e X.env)::starEach es X.env:=by rfl) (b:(backTo pos (starEach es X.env)).any (·.1)=false:=by rfl) :
  PE X (.Call (.Name x p) (e::es) [] pos) (qeA C sp E t):=by
 intro pins s σ H Q I h;show xt (zQ I i j ?_ a);show xi (h₀:=X.base) I.ok.mod.kin M.kp (thn (d pos pins s σ H _ I h) λus o ⟨vs,n,c,r,z,q⟩=>⟨c.kIn,?_⟩) g b;show run_xmake M F l hb m c r z q
structure CMeth(K:yg)(C:Addr)(m:Str)(f:Addr):Prop where
 rd:PySem.W.readsIn K C (.type "type")=true
 at_:PySem.W.findCls K (.ref C) (.type "type") m=some (.val (.ref f))
 ga:PySem.W.specialIn K (.ref C) "__getattribute__"=some (some (.builtin "type.__getattribute__"))
 kp:PySem.W.keepIn K (.ref f)=true
theorem pe_clsm{pl:Sem Bool}(M:CMeth X.K C m f)(F:FnOk X.prog X.w X.K X.mg X.base CX k f fd ps sp)(l:Room k X.A)(i:Gl X x)(j:X.mg x=some (.ref C))(hb:Binds X.K fd ps [])(o:qab CX X E)(g:PA X (e::es) t)
  (a:(x==("__debug__":Str))=false:=by decide) (c:starEach (e::es) X.env=(false,eval e X.env)::starEach es X.env:=by rfl) (b:(backTo pos (starEach es X.env)).any (·.1)=false:=by rfl)
  (n:eval (.Call (.Attribute (.Name x p) m apos) (e::es) [] pos) X.env=(do
   let ov <- eval (.Name x p) X.env
   standAt apos.atName
   let (f,first) <- holding [ov] (getMethod ov m pl)
   callWith pos f first (backTo pos (starEach (e::es) X.env)) (backToKw pos (keywordEach [] X.env))):=by rfl) :
  PE X (.Call (.Attribute (.Name x p) m apos) (e::es) [] pos) (qel sp [] E t):=by
 intro pins s σ H Q I h;show xN (pl:=pl) (zQ I i j ?_ a) n;show PySem.W.method_cls I.kIn M.ga (PySem.W.cls_value I.kIn M.rd M.at_ rfl ?_);show xi (first:=[]) (h₀:=X.base) I.ok.mod.kin M.kp (thn (g pos pins _ σ H _ (I.tok (s.toks+1)) h) λus v ⟨vs,u,d,r,q⟩=>⟨d.kIn,?_⟩) c b;show qdB F l hb .nil o d r q
end
def qfk(K:yg)(t:TA):TE:=fun σ H Q=>t σ H λvs b=>∃ a C y,vs=[.ref a,y]/\b a=some (XN a C none)/\XAt K C/\Q .non b
theorem ve_type:PySem.W.Looks M h (typeOf (.type "ValueError")) (.type "type"):=PySem.W.Looks.of_pure (by kernel_rfl)
theorem ve_opaque:PySem.W.Looks M h (opaqueClassAbove (.type "ValueError")) none:=PySem.W.Looks.of_pure (by kernel_rfl)
structure VInit(K:yg):Prop where
 ga:PySem.W.findIn K (.type "type") "__getattribute__"=some (some (.builtin "type.__getattribute__"))
 su:PySem.W.subIn K (.type "type") (.type "type")=some true
 at_:PySem.W.findCls K (.type "ValueError") (.type "type") "__init__"=some (.val (.builtin "ValueError.__init__"))
section
variable{X:Cx}{p pos apos:Pos}{e:Expr}{es:List Expr}{t:TA}{K:yg}
theorem k_vinit{pl:Sem Bool}(E:X.K=K)(V:VInit K)(G:Gl X "ValueError")(L:X.mg "ValueError"=none)(hv:bootBuiltins "ValueError"=some (.type "ValueError"))(F:PA X (e::es) t)
  (l:starEach (e::es) X.env=(false,eval e X.env)::starEach es X.env:=by rfl) (j:(backTo pos (starEach es X.env)).any (·.1)=false:=by rfl)
  (M:eval (.Call (.Attribute (.Name "ValueError" p) "__init__" apos) (e::es) [] pos) X.env=(do
   let ov <- eval (.Name "ValueError" p) X.env
   standAt apos.atName
   let (f,first) <- holding [ov] (getMethod ov "__init__" pl)
   callWith pos f first (backTo pos (starEach (e::es) X.env)) (backToKw pos (keywordEach [] X.env))):=by rfl) :
  PE X (.Call (.Attribute (.Name "ValueError" p) "__init__" apos) (e::es) [] pos) (qfk K t):=by
 subst E;intro pins s σ H Q I h;show xN (pl:=pl) (qbF I G L hv ?_) M
 have i:∀{d:Value×List Value->Shared->Prop},d (.builtin "ValueError.__init__",[]) { s with toks:=s.toks+1 }->wpAny (model X.prog X.w) X.A (getMethod (.type "ValueError") "__init__" pl) d X.xe s:=λ{d} q=>by
  unfold getMethod;show yt ((ve_type.andThen (YU I.kIn V.ga)).here ?_);dsimp only;rw[yG PySem.W.canon_tga];show yt (PySem.W.cls_open (hook:=none) I.kIn ve_opaque ve_type V.ga (PySem.W.Looks.now) V.su V.at_ (yz ?_));show wpAny _ _ (handedOut _) _ _ _;show PySem.W.handed_on rfl (yz q)
 show i ?_;have r:=F pos pins _ σ H _ (I.tok (s.toks+1)) h;rw[l] at r ⊢;show Calls.callWith_builtin (by show(false||(backTo pos (starEach es X.env)).any (·.1))=false;rw[j]<;>rfl) (Calls.evalArgs_plain ?_);show thn r λus z ⟨vs,m,b,O,a,C,y,B,g,c,q⟩=>?_;subst B;obtain⟨u,v,rfl,P,S⟩:=qe7 O;cases P;obtain⟨⟨a0,N⟩,_⟩:=(show ObjOk X.prog X.w m z.heap a (XN a C none) from b.hok a _ g);show xbase_init b.kIn N c λh' R n D=>?_;have J:=b.write (x:=a) (e:=a) (o:=XN a C none) (t':=z.toks) (by rw[g];show YV) (.inl rfl) D ⟨_,n⟩ (XN.ok n);rw[upd_id g] at J;show⟨.non,m,J,rfl,q⟩
end
structure Keep(fs zs:LX)(h h':Heap):Prop where
 keep:∀ b o,h.get? b=some o->b∉zs->b∉fs->h'.get? b=some o
 slot:∀ b o,h.get? b=some o->b∉zs->b∈fs->∃ sl,h'.get? b=some { o with slots:=sl }
structure Trc(h:Heap)(e:Addr)(C:Value)(dx:Option Addr)(T:Addr)(fl:Value):Prop where
 ex:∃ vs,h.get? e=some ⟨C,dx,.fields vs,#[]⟩/\vs[1]?=some (.ref T)/\vs[2]?=some .none
 tb:∃ ts,h.get? T=some ⟨.type "traceback",none,.fields ts,#[]⟩/\ts[3]?=some fl
 ne:T≠e
section
variable{M:Model}{A:Around}{E:Value->Shared->Prop}{s:Shared}{base:Heap}{env:Env}{outer:List Env}{L e:Addr}{C:Value}{dx:Option Addr}{vs:Array Value}
theorem qfl{d:Value}{p:Bool}{Q:Unit->Shared->Prop}(r:A.frames=some (env::outer))(hl:s.heap.FunFrames base (env::outer))(F:env.frame=some L)(w:s.heap.get? e=some ⟨C,dx,.fields vs,#[]⟩)(hsz:1<vs.size)(B:vs[2]?=some .none)
  (h:∀ h' T,s.heap.objs.size<=T->Trc h' e C dx T (rawInt L)->Keep (frs (env::outer)) [e] s.heap h'->Q () { s with heap:=h' }) :
  wpAny M A (do let a <- frameOf env;let pl <- entryPlaceOf L p;let b <- EntryCells.newEntry d a .none (rawInt L) .none pl;setField (.ref e) 1 b) Q E s:=by
 have l:e∉frs (env::outer):=λG=>by
  obtain⟨_,o,y,t⟩:=hl.mem G;rw[w] at y;cases y;show t vs rfl
 show yt (wpAny_frameOf_fun r hl F λc n=>yt (wpAny_entryPlaceOf λpl m=>?_));unfold EntryCells.newEntry newFields;show yt (xy ?_ (m.sizeOk5 _ _ _ _ _));have i:c.get? e=some ⟨C,dx,.fields vs,#[]⟩:=(n.2.1 e l).trans w;generalize u:([d,.ref L,.none,rawInt L,.none]++(if pl.isEmpty then List.replicate 6 Value.none else pl)).toArray=v;have D:v[3]?=some (rawInt L):=by rw[<- u];first | (simp;done) | (rcases m with rfl | ⟨_,_,_,_,_,_,_,rfl⟩<;>simp)
 have j:=yy (h:=c) { cls:=.type "traceback",dict:=none,data:=.fields v } i;have g:c.objs.size≠e:=Xw (yM i);show wpAny_setField j rfl hsz (h _ c.objs.size (XT n.1.symm) ⟨⟨vs.setIfInBounds 1 (.ref c.objs.size),?_,by simp[hsz],by rw[Array.getElem?_setIfInBounds_ne (by decide)];show B⟩,⟨v,?_,D⟩,g⟩ ⟨λb o q hb x=>?_,λb o q hb x=>?_⟩)
 .rw [xr _ j rfl];rfl
 .rw [YE _ _ (Yh g)];show Yd c rfl
 .have f:b≠e:=λz=>hb (by simp[z]);rw[YE _ _ (Yh f)];show yy _ ((n.2.1 b x).trans q)
 .have f:b≠e:=λz=>hb (by simp[z]);obtain⟨H,z⟩:=n.2.2 b o q;show⟨H,by rw[YE _ _ (Yh f)];show yy _ z⟩
theorem qcU{Q:Unit->Shared->Prop}(a:A.frames=some (env::outer))(hl:s.heap.FunFrames base (env::outer))(c:env.frame=some L)(b:s.heap.get? e=some ⟨C,dx,.fields vs,#[]⟩)(h1:vs[1]?=some .none)(d:vs[2]?=some .none)
  (h:∀ h' T,s.heap.objs.size<=T->Trc h' e C dx T (rawInt L)->Keep (frs (env::outer)) [e] s.heap h'->Q () { s with heap:=h' }):wpAny M A (noteFrame (.ref e) env) Q E s:=by
 unfold noteFrame;simp only[c];show yt (XR b rfl h1 ?_);rw[yF (by decide)];show qfl a hl c b (xM.mp h1).1 d h
theorem qdO{T:Addr}{Q:Unit->Shared->Prop}(f:A.frames=some (env::outer))(hl:s.heap.FunFrames base (env::outer))(p:env.frame=some L)(t:Trc s.heap e C dx T .none)
  (h:∀ h' c,s.heap.objs.size<=c->Trc h' e C dx c (rawInt L)->Keep (frs (env::outer)) [e,T] s.heap h'->Q () { s with heap:=h' }):wpAny M A (noteFrame (.ref e) env) Q E s:=by
 obtain⟨⟨vs,n,h1,r⟩,⟨v,d,m⟩,i⟩:=t;unfold noteFrame;simp only[p];show yt (XR n rfl h1 ?_);rw[yG (show(Value.ref T != Value.none)=true from by simp)];show yt (XR d rfl m ?_);rw[yF (show ¬ ((Value.none==rawInt L)=true) from by simp[rawInt])];show yt (wpAny_setField d rfl (xM.mp m).1 ?_);have a:∀ b,b≠T->(s.heap.update T (Obj.mapFields (·.setIfInBounds 3 Value.none))).get? b=s.heap.get? b:=λb hb=>YE _ _ (Yh hb);have l:(s.heap.update T (Obj.mapFields (·.setIfInBounds 3 Value.none))).objs.size=s.heap.objs.size:=Heap.size_after_update ..;show qfl (s:={ s with heap:=s.heap.update T (Obj.mapFields (·.setIfInBounds 3 Value.none)) }) f (hl.of_keeps λb o hb j=>?_) p ((a e (Yh i)).trans n) (xM.mp h1).1 r λh' c u t' k=>?_
 .have nb:b≠T:=λq=>by rw[q,d] at hb;cases hb;show j v rfl
  show⟨o,(a b nb).trans hb,rfl⟩
 .show h h' c (by rw[<- l];show u) t' ⟨λb o q hb g=>?_,λb o q hb g=>?_⟩
  .have nb:b≠T:=λz=>hb (by simp[z]);show k.keep b o ((a b nb).trans q) (λz=>hb (by simp only[yx] at z;simp[z])) g
  .have nb:b≠T:=λz=>hb (by simp[z]);show k.slot b o ((a b nb).trans q) (λz=>hb (by simp only[yx] at z;simp[z])) g
theorem qbS{T:Addr}{Q:Unit->Shared->Prop}(t:Trc s.heap e C dx T fl)(h:∀ h',Trc h' e C dx T .none->(∀ b o,b≠T->s.heap.get? b=some o->h'.get? b=some o)->h'.objs.size=s.heap.objs.size->Q () { s with heap:=h' }) :
  wpAny M A (setFlight (.ref e) none) Q E s:=by
 obtain⟨⟨vs,f,h1,i⟩,⟨g,d,j⟩,c⟩:=t;have a:3<g.size:=(xM.mp j).1;unfold setFlight;show yt (XR f rfl h1 ?_);rw[yG (show(Value.ref T != Value.none)=true from by simp)];show wpAny_setField d rfl a (h _ ⟨⟨vs,?_,h1,i⟩,⟨g.setIfInBounds 3 .none,?_,by simp[a]⟩,c⟩ (λb o hb q=>?_) (Heap.size_after_update ..))
 .rw [YE _ _ c];show f
 .rw [xr _ d rfl];rfl
 .rw [YE _ _ (Yh hb)];show q
end
def CX1(P:Program)(w:World):CXT:=λb H s E c s'=>∃(a C:Addr) (dx:Option Addr) (T:Addr) (H':Hp),c=.ref a/\s'.os=s.os/\AllBare s'.gens/\Un (frs b) [] H H' s.heap s'.heap/\HOk P w H' s'.heap /\
 H' a=some (XO a C dx)/\Trc s'.heap a (.ref C) dx T .none/\s.heap.objs.size<=T/\H' T=none/\E (.ref C) dx H'
section
variable{X:Cx}{pins:List (Addr×Obj)}{σ:St}{H:Hp}{s:Shared}
theorem qcl{T:Addr}(I:Inv X pins σ H s)(f:H a=some (XO a C dx))(k:Keep (frs X.stack) zs s.heap h')(g:∀ b∈zs,b=a\/H b=none)(t:Trc h' a (.ref C) dx T fl):HOk X.prog X.w H h':=λb u e=>by
 by_cases hb:b=a
 .subst hb;rw[f] at e;cases e;obtain⟨vs,q,_⟩:=t.ex;show XO.ok q
 .have d:∀ c o,H c=some o->c≠a->c∉zs/\c∉frs X.stack:=λc o q n=>⟨λz=>(g c z).elim n λy=>(by rw[y] at q;cases q),λz=>(by have y:=I.stkFree c z;rw[y] at q;cases q)⟩;show(I.hok b u e).stay (λc v hc r=>?_) (λ_ q=>q) λ_ _ q=>q;rcases hc with rfl | hc
  .show k.keep c v r (d c _ e hb).1 (d c _ e hb).2
  .have n:c≠a:=λz=>by rw[z,f] at hc;cases hc
   show k.keep c v r (d c _ hc n).1 (d c _ hc n).2
theorem qfm{T:Addr}(I:Inv X pins σ H s)(h:X.ex=[])(r:H a=some (XO a C dx))(k:Keep (frs X.stack) zs s.heap h')(u:∀ b∈zs,b=a\/X.s₀.heap.objs.size<=b)(t:Trc h' a (.ref C) dx T fl) :
  Un X.fs [] X.H₀ H X.s₀.heap h':=by
 have B:=I.base;rw[h] at B;have i:∀ b o,X.s₀.heap.get? b=some o->b≠X.env.locals:=λb o e=>Yi (yj (yM e) I.ok.above);have l:∀ b o,X.s₀.heap.get? b=some o->b≠a->b∉zs:=λb o e n z=>(u b z).elim n λy=>absurd (yj (yM e) y) (Yz _);have p:∀ b,H b=none->b≠a:=λb n z=>by rw[z,r] at n;cases n
 have j:∀ b o,X.s₀.heap.get? b=some o->b∉X.fs->b∉frs X.stack:=λb o e n z=>(yv.mp (I.stkSub b z)).elim (i b o e) n;show⟨λb o e n hb c=>?_,λb o e n hb c=>?_,B.free,λb o e c=>?_,B.tups,B.frzs,B.tbls⟩
 .show k.keep b o (B.keep b o e n hb c) (l b o e (p b (B.free b o e n c))) (j b o e hb)
 .obtain⟨w,q⟩:=B.slot b o e n hb c;have g:=l b o e (p b (B.free b o e n c));by_cases d:b∈frs X.stack
  .obtain⟨f,m⟩:=k.slot b _ q g d;show⟨f,m⟩
  .show⟨w,k.keep b _ q g d⟩
 .obtain⟨v,q⟩:=B.there b o e c;by_cases hb:b=a
  .subst hb;obtain⟨vs,z,_⟩:=t.ex;show⟨_,z⟩
  .have g:=l b o e hb;by_cases d:b∈frs X.stack
   .obtain⟨f,m⟩:=k.slot b _ q g d;show⟨_,m⟩
   .show⟨v,k.keep b _ q g d⟩
end
structure XOk(X:Cx)(EK:St->XK):Prop where
 pass:∀(pins:List (Addr×Obj)) (σ:St) (H:Hp) (s:Shared) (e:Value) (s':Shared),Inv X pins σ H s->CX1 X.prog X.w X.stack H s (EK σ) e s'->X.xe e s'
 rais:∀(pins:List (Addr×Obj)) (σ:St) (H:Hp) (s:Shared) (a C:Addr) (dx:Option Addr),Inv X pins σ H s->H a=some (XN a C dx)->EK σ (.ref C) dx (upd H a (XO a C dx))->X.xe (.ref a) s
 calm:X.calm=true
section
variable{P:Program}{w:World}{K:yg}{mg:Str->Option Value}{base:Heap}{N:LS}{qual:Str}{scope:Scope}{f:Addr}{cd:Value}{A:Around}{outer:List Env}{s0:Shared}{H0:Hp}{E:XK}
theorem qaN:XOk (qfh (CX1 P w) P w K mg base N qual scope f cd A outer s0 H0 E) λ_=>E where
 calm:=rfl
 pass:=by
  intro pins σ H s O s' I m;obtain⟨a,C,dx,T,H',rfl,D,l,un,B,g,t,M,v,q⟩:=m;have J:=I.call' (s':=s') (H':=H') (ch:=[]) D un B l (λb z=>absurd z (by simp));show wpAny _ _ (leaving _ _) _ _ _;unfold leaving;show yt (qdO (base:=base) J.ok.frames J.stack rfl t λh' d h t' k=>?_);show qbS (s:={ s' with heap:=h' }) t' λu i p L=>?_;have F:s0.heap.objs.size<=s.heap.objs.size:=I.sz;have j:=J.sz
  have r:Keep (frs (envOfC qual scope s0.heap.objs.size f cd::outer)) [a,T,d] s'.heap u:=by
   show⟨λb o e z n=>?_,λb o e z n=>?_⟩
   .simp only[yv,yJ,Yo,Kr] at z;show p b o z.2.2 (k.keep b o e (by simp[z.1,z.2.1]) n)
   .simp only[yv,yJ,Yo,Kr] at z;obtain⟨G,y⟩:=k.slot b o e (by simp[z.1,z.2.1]) n;show⟨G,p b _ z.2.2 y⟩
  have c:H' d=none:=J.hok.fresh h;show⟨a,C,dx,d,H',rfl,J.os,l,qfm J rfl g r (λb hb=>?_) i,qcl J g r (λb hb=>?_) i,g,i,yi j h,c,q⟩
  .simp only[yv,yJ,Yo] at hb;rcases hb with rfl | rfl | rfl
   .show .inl rfl
   .show .inr (yi F M)
   .show .inr (yi j h)
  .simp only[yv,yJ,Yo] at hb;rcases hb with rfl | rfl | rfl
   .show .inl rfl
   .show .inr v
   .show .inr c
 rais:=by
  intro pins σ H s a C dx I e q;obtain⟨⟨a0,m⟩,_⟩:=(show ObjOk _ _ H s.heap a (XN a C dx) from I.hok a _ e);have J:Inv _ pins σ (upd H a (XO a C dx)) s:=I.write (x:=a) (e:=a) (o:=XO a C dx) (h':=s.heap) (t':=s.toks) (by rw[e];show YV) (.inl rfl) (λ_ _ _ q=>q) ⟨_,m⟩ (XO.ok m);show wpAny _ _ (leaving _ _) _ _ _;unfold leaving;show yt (qcU (base:=base) J.ok.frames J.stack rfl m rfl rfl λh' d h t' k=>?_);show qbS (s:={ s with heap:=h' }) t' λu i p L=>?_;have j:=J.sz;have g:upd H a (XO a C dx) a=some (XO a C dx):=qb
  have r:Keep (frs (envOfC qual scope s0.heap.objs.size f cd::outer)) [a,d] s.heap u:=by
   show⟨λb o e z n=>?_,λb o e z n=>?_⟩
   .simp only[yv,yJ,Yo,Kr] at z;show p b o z.2 (k.keep b o e (by simp[z.1]) n)
   .simp only[yv,yJ,Yo,Kr] at z;obtain⟨G,y⟩:=k.slot b o e (by simp[z.1]) n;show⟨G,p b _ z.2 y⟩
  have c:upd H a (XO a C dx) d=none:=J.hok.fresh h;show⟨a,C,dx,d,_,rfl,J.os,J.bare,qfm J rfl g r (λb hb=>?_) i,qcl J g r (λb hb=>?_) i,g,i,yi j h,c,q⟩
  .simp only[yv,yJ,Yo] at hb;rcases hb with rfl | rfl
   .show .inl rfl
   .show .inr (yi j h)
  .simp only[yv,yJ,Yo] at hb;rcases hb with rfl | rfl
   .show .inl rfl
   .show .inr c
end
def qfn(K:yg)(c:St->XK)(te:TE):TS:=λ_ σ H=>te σ H λx b=>∃ a C dx,x=.ref a/\b a=some (XN a C dx)/\XAt K C/\c σ (.ref C) dx (upd b a (XO a C dx))
section
variable{X:Cx}{EK:St->XK}{e:Expr}{te:TE}{pos:Pos}{K:yg}
theorem xraise{x:Sem Value}{Q:Flow->Shared->Prop}(p:A.handled=none)
  (h:wpAny M A x (λv b=>∃ a C dx a0,v=.ref a/\K.In b.heap/\XAt K C/\b.heap.get? a=some ⟨.ref C,dx,.fields (xfs a0),#[]⟩/\E (.ref a) b) E s):wpAny M A (raiseStmt env (some x) none) Q E s:=by
 unfold raiseStmt;show yt (YC h (λv b h1=>?_) λ_ _ z=>z);obtain⟨a,C,dx,a0,rfl,f,c,o,n⟩:=h1;obtain⟨nm,H,N,bs,l,j,sn,sub,r,m,t,w,y,B,D,F,i,q⟩:=qdL f c.xc;have e:(Value.ref C::l).contains (.type "BaseException")=true:=by rw[Yw,qaM q (by simp),XY]
 obtain⟨u,g,d,tk,G⟩:=b
 repeat (first | with_reducible show YK o ?_ | with_reducible show YK i ?_ | (with_reducible show xD i ?_;rw[e]) | wp_step)
 show wpAny_raiseNew_none p n
theorem qdf(j:X.K=K)(f:XOk X EK)(l:PE X e te):PS X (.Raise (some e) none pos) (qfn K EK te):=by
 subst j;intro pins s σ H D I h;rw[arm_exec_Raise];show yt (Xn (xraise (K:=X.K) (I.ok.hd f.calm) ?_));show yt (thn (l pins s σ H _ I h) λv i ⟨x,d,b,n,a,C,dx,ex,g,c,q⟩=>yt (Xn (yz ?_)));subst ex;cases n;obtain⟨⟨a0,m⟩,_⟩:=(show ObjOk _ _ d i.heap a (XN a C dx) from b.hok a _ g);show⟨a,C,dx,a0,rfl,b.kIn,c,m,f.rais pins σ d i a C dx b g q⟩
end
def qfo(sp:Sp)(a:St->XK)(t:TA):TE:=fun σ H Q=>t σ H λvs b=>sp vs b Q (a σ)
def qfp(C:Addr)(m:Str)(sp:Sp)(b:St->XK)(d:TE)(t:TA):TE:=fun σ H Q=>d σ H λx a=>MeR C m x a (t σ a λvs c=>sp (x::vs) c Q (b σ))
def qfq(C:Addr)(sp:Sp)(b:St->XK)(t:TA):TE:=fun σ H Q=>t σ H λvs a=>∀ x dx,a x=none->a dx=none->dx≠x ->
 sp (.ref x::vs) (upd (upd a dx (.own x)) x (.ins C dx [])) (λv c=>v=.non/\Q (.ref x) c) (b σ)
theorem FnOk.any{K:yg}{b:Str->Option Value}{base:Heap}{k:Nat}{CX:CXT}(F:FnOk P w K b base CX0 k f fd ps sp):FnOk P w K b base CX k f fd ps sp:=by
 show⟨F.len,λA a s H args us vs Q E d c hb hv g=>xH (F.run A a s H args us vs Q E d c hb hv g) λr s' q=>?_⟩
 cases r with
 | ok fl=>cases fl<;>show q
 | error e=>show q.elim
structure MethOk(P:Program)(w:World)(K:yg)(mg:Str->Option Value)(base:Heap)(CX:CXT)(k:Nat)(C:Addr)(m:Str)(ps:LS)(sp:Sp):Prop where
 ex:∃ f fd,FnOk P w K mg base CX k f fd ps sp/\Meth K C m f/\Binds K fd ps []
 cl:Cls K C
structure MakeOk(P:Program)(w:World)(K:yg)(mg:Str->Option Value)(base:Heap)(CX:CXT)(k:Nat)(C:Addr)(x:Str)(ps:LS)(sp:Sp):Prop where
 ex:∃ f fd,FnOk P w K mg base CX k f fd ps sp/\Mk K C f/\Binds K fd ps []
 mg_:mg x=some (.ref C)
structure XMakeOk(P:Program)(w:World)(K:yg)(mg:Str->Option Value)(base:Heap)(k:Nat)(C:Addr)(x:Str)(ps:LS)(sp:Sp):Prop where
 ex:∃ f fd,wqP k f fd ps sp/\XMk K C f/\Binds K fd ps []
 mg_:mg x=some (.ref C)
section
variable{X:Cx}{EK:St->XK}{k:Nat}{f C:Addr}{fd:FuncData}{ps:LS}{sp:Sp}{x m:Str}{p pos apos:Pos}{e o:Expr}{es:List Expr}{ta:TE}{t:TA}
theorem qeB{Q:VK}(F:FnOk X.prog X.w X.K X.mg X.base (CX1 X.prog X.w) k f fd ps sp)(d:Room k X.A)(hb:Binds X.K fd ps [])(c:XOk X EK)
  (I:Inv X pins σ H s) (r:Vals vs us) (h:sp vs H Q (EK σ)):wpAny (model X.prog X.w) X.A (call (.ref f) us) (EP X pins σ Q) X.xe s:=by
 have hl:(us++[]).length=ps.length:=by rw[Ys,<- r.length];show F.len _ _ _ _ h
 have b:=hb s us I.kIn hl;rw[Ys] at b;show xJ (xH (F.run X.A X.stack s H ⟨us,[]⟩ us vs Q (EK σ) d I.env0 b r h) λr s' a=>?_)
 cases r with
 | error e=>show c.pass pins σ H s e s' I a
 | ok fl =>
  cases fl with
  | ret u=>show I.after a
  | _=>show False.elim a
theorem qeC(D:DefOk X.prog X.w X.K X.mg X.base (CX1 X.prog X.w) k x ps sp)(n:Room k X.A)(d:XOk X EK)(g:PA X (e::es) t)(j:Gl X x:=by rfl)(a:(x==("__debug__":Str))=false:=by decide)
  (i:starEach (e::es) X.env=(false,eval e X.env)::starEach es X.env:=by rfl) (b:(backTo pos (starEach es X.env)).any (·.1)=false:=by rfl):PE X (.Call (.Name x p) (e::es) [] pos) (qfo sp EK t):=by
 obtain⟨f,fd,F,m,l,hb⟩:=D.ex;intro pins s σ H Q I h;show xt (zQ I j m ?_ a);show xi (h₀:=X.base) I.ok.mod.kin l (thn (g pos pins s σ H _ I h) λus u ⟨vs,o,c,r,q⟩=>⟨c.kIn,?_⟩) i b;show qeB F n hb d c r q
theorem qdP{pl:Sem Bool}(D:MethOk X.prog X.w X.K X.mg X.base (CX1 X.prog X.w) k C m ps sp)(z:Room k X.A)(n:XOk X EK)(y:PE X o ta)(v:PA X (e::es) t)
  (c:starEach (e::es) X.env=(false,eval e X.env)::starEach es X.env:=by rfl) (b:(backTo pos (starEach es X.env)).any (·.1)=false:=by rfl)
  (B:eval (.Call (.Attribute o m apos) (e::es) [] pos) X.env=(do
   let ov <- eval o X.env
   standAt apos.atName
   let (f,first) <- holding [ov] (getMethod ov m pl)
   callWith pos f first (backTo pos (starEach (e::es) X.env)) (backToKw pos (keywordEach [] X.env))):=by rfl) :
  PE X (.Call (.Attribute o m apos) (e::es) [] pos) (qfp C m sp EK ta t):=by
 obtain⟨f,fd,F,i,hb⟩:=D.ex;intro pins s σ H Q I h;show xN (pl:=pl) (thn (y pins s σ H _ I h) λu J ⟨x,j,d,G,a,dx,fs,ex,p,l,q⟩=>?_) B;subst ex;obtain rfl:u=Value.ref a:=G;show qa4 d p D.cl i l ?_;show xi (first:=[.ref a]) (h₀:=X.base) I.ok.mod.kin i.kp (thn (v pos pins J σ j _ d q) λus M ⟨vs,L,g,r,E⟩=>⟨g.kIn,?_⟩) c b;show qeB (us:=.ref a::us) (vs:=.ref a::vs) F z hb n g (.cons rfl r) E
theorem run_makeS{Q:VK}(M:Mk X.K C f)(F:FnOk X.prog X.w X.K X.mg X.base (CX1 X.prog X.w) k f fd ps sp)(n:Room (k+1) X.A)(hb:Binds X.K fd ps [])(l:XOk X EK)
  (I:Inv X pins σ H s) (r:Vals vs us) (h:∀ x dx,H x=none->H dx=none->dx≠x->sp (.ref x::vs) (upd (upd H dx (.own x)) x (.ins C dx [])) (λv i=>v=.non/\Q (.ref x) i) (EK σ)) :
  wpAny (model X.prog X.w) X.A (call (.ref C) us) (EP X pins σ Q) X.xe s:=by
 have d:=h (s.heap.objs.size+1) s.heap.objs.size (I.hok.fresh (Xf _)) (I.hok.fresh (yh _)) (Yi (Xx _));have c:=Inv.made (C:=C) I;have g:Vals (V.ref (s.heap.objs.size+1)::vs) (Value.ref (s.heap.objs.size+1)::us):=.cons rfl r
 have hl:(Value.ref (s.heap.objs.size+1)::us++[]).length=ps.length:=by
  have q:=g.length;rw[F.len _ _ _ _ d] at q;rw[Ys];show q.symm
 have b:=hb _ (Value.ref (s.heap.objs.size+1)::us) c.kIn hl;rw[Ys] at b;show xJ (qdA (f:=f) I.kIn M.makes M.init (Yl.mp M.fn) (xH (F.run _ X.stack _ _ ⟨Value.ref (s.heap.objs.size+1)::us,[]⟩ (Value.ref (s.heap.objs.size+1)::us) _ _ (EK σ) (n.make C us [])
  (c.env0.make C us []) b g d) λr s' a=>?_))
 cases r with
 | error e=>show l.pass pins σ _ _ e s' c a
 | ok fl =>
  cases fl with
  | ret u =>
   obtain⟨v,H',j,p,m,o⟩:=c.after a;subst m;show⟨p,⟨V.ref (s.heap.objs.size+1),H',j,rfl,o⟩⟩
  | _=>show False.elim a
theorem pe_makeS(D:MakeOk X.prog X.w X.K X.mg X.base (CX1 X.prog X.w) k C x ps sp)(l:Room (k+1) X.A)(d:XOk X EK)(g:PA X (e::es) t)(j:Gl X x:=by rfl)(a:(x==("__debug__":Str))=false:=by decide)
  (i:starEach (e::es) X.env=(false,eval e X.env)::starEach es X.env:=by rfl) (b:(backTo pos (starEach es X.env)).any (·.1)=false:=by rfl):PE X (.Call (.Name x p) (e::es) [] pos) (qfq C sp EK t):=by
 obtain⟨f,fd,F,M,hb⟩:=D.ex;intro pins s σ H Q I h;show xt (zQ I j D.mg_ ?_ a);show xi (h₀:=X.base) I.ok.mod.kin M.kp (thn (g pos pins s σ H _ I h) λus n ⟨vs,m,c,r,q⟩=>⟨c.kIn,?_⟩) i b;show run_makeS M F l hb d c r q
theorem qfO(D:XMakeOk X.prog X.w X.K X.mg X.base k C x ps sp)(h:Room (k+1) X.A)(c:PA X (e::es) t)(g:Gl X x:=by rfl)(a:(x==("__debug__":Str))=false:=by decide)
  (d:starEach (e::es) X.env=(false,eval e X.env)::starEach es X.env:=by rfl) (b:(backTo pos (starEach es X.env)).any (·.1)=false:=by rfl):PE X (.Call (.Name x p) (e::es) [] pos) (qeA C sp E0 t):=by
 obtain⟨f,fd,F,M,hb⟩:=D.ex;show pe_xmake M F h g D.mg_ hb qF c a d b
theorem qH{pl:Sem Bool}(D:MethOk X.prog X.w X.K X.mg X.base CX0 k C m ps sp)(h:Room k X.A)(d:PE X o ta)(c:PA X (e::es) t)
  (b:starEach (e::es) X.env=(false,eval e X.env)::starEach es X.env:=by rfl) (a:(backTo pos (starEach es X.env)).any (·.1)=false:=by rfl)
  (i:eval (.Call (.Attribute o m apos) (e::es) [] pos) X.env=(do
   let ov <- eval o X.env
   standAt apos.atName
   let (f,first) <- holding [ov] (getMethod ov m pl)
   callWith pos f first (backTo pos (starEach (e::es) X.env)) (backToKw pos (keywordEach [] X.env))):=by rfl) :
  PE X (.Call (.Attribute o m apos) (e::es) [] pos) (qem C m sp [] E0 ta t):=by
 obtain⟨f,fd,F,g,hb⟩:=D.ex;show pe_meth (pl:=pl) d D.cl g F h hb .nil qF c b a i
theorem zK{pl:Sem Bool}(D:MethOk X.prog X.w X.K X.mg X.base CX0 k C m ps sp)(c:Room k X.A)(a:PE X o ta)
  (d:eval (.Call (.Attribute o m apos) [] [] pos) X.env=(do
   let ov <- eval o X.env
   standAt apos.atName
   let (f,first) <- holding [ov] (getMethod ov m pl)
   callWith pos f first (backTo pos (starEach [] X.env)) (backToKw pos (keywordEach [] X.env))):=by rfl) :
  PE X (.Call (.Attribute o m apos) [] [] pos) (qem C m sp [] E0 ta qf7):=by
 obtain⟨f,fd,F,b,hb⟩:=D.ex;show pe_meth0 (pl:=pl) a D.cl b F c hb .nil qF d
end
section
variable{P:Program}{w:World}{K:yg}{mg:Str->Option Value}{base:Heap}
theorem Fun.ok1{st:Stmt}{k:Nat}(F:Fun K x qual st f fd)(S:FnScope N ps (qh st))(len:∀ vs H Q E,sp vs H Q E->vs.length=ps.length)
  (c:∀(b:Value) (A:Around) (a:List Env) (s:Shared) (H:Hp) (vs:List V) (Q:VK) (E:XK),Room k (A.deeper (envOfC qual (qh st) s.heap.objs.size f b))->sp vs H Q E ->
   ∃ t,PSs (qfh (CX1 P w) P w K mg base N qual (qh st) f b A a s H E) (zS st) t/\t { nx:=λ_ H'=>Q .non H',rt:=Q } (start N vs) H):FnOk P w K mg base (CX1 P w) (k+1) f fd ps sp:=by
 obtain⟨m,od,kV,g,n,l,b,ct,j,rfl,i,d⟩:=F.ex;show qf8 i d S len λA a s H vs Q E h e=>c b A a s H vs Q E h e
end
abbrev Cx.tried(X:Cx)(pn:List (Addr×Obj))(E:Value->Shared->Prop):Cx:={ X with pn:=pn,xe:=E }
abbrev Cx.hand(X:Cx)(a:Addr):Cx:={ X with A:=X.A.mark (some (.ref a)),calm:=false,xe:=λ_ _=>False }
section
variable{X:Cx}{pins pins':List (Addr×Obj)}{σ:St}{H:Hp}{s:Shared}{E:Value->Shared->Prop}{a:Addr}
theorem Inv.tried(I:Inv X pins σ H s)(E:Value->Shared->Prop):Inv (X.tried (X.pn++pins) E) [] σ H s:=
 ⟨⟨I.ok.mod,I.ok.kind,I.ok.glob,I.ok.blt,I.ok.above,I.ok.inj,I.ok.has,I.ok.cab,I.ok.hd,I.ok.frames,I.ok.stk,I.ok.exf,I.ok.bs,I.ok.bsz,I.ok.noex,I.ok.exfs,I.ok.funs,I.ok.frf⟩,I.os,I.bare,I.base,I.loc,I.cell,I.free,I.freeC,
  λp a=>I.pin p (by have a:p∈(X.pn++pins)++[]:=a;rw[Ys] at a;show a),I.hok,I.len⟩
theorem Inv.untried(I:Inv (X.tried (X.pn++pins) E) pins' σ H s):Inv X pins σ H s:=
 ⟨⟨I.ok.mod,I.ok.kind,I.ok.glob,I.ok.blt,I.ok.above,I.ok.inj,I.ok.has,I.ok.cab,I.ok.hd,I.ok.frames,I.ok.stk,I.ok.exf,I.ok.bs,I.ok.bsz,I.ok.noex,I.ok.exfs,I.ok.funs,I.ok.frf⟩,I.os,I.bare,I.base,I.loc,I.cell,I.free,I.freeC,
  λp a=>I.pin p (yP _ a),I.hok,I.len⟩
theorem Inv.hand(I:Inv X pins σ H s)(a:Addr):Inv (X.hand a) pins σ H s:=
 ⟨⟨I.ok.mod,I.ok.kind,I.ok.glob,I.ok.blt,I.ok.above,I.ok.inj,I.ok.has,I.ok.cab,(λh=>nomatch h),I.ok.frames,I.ok.stk,I.ok.exf,I.ok.bs,I.ok.bsz,I.ok.noex,I.ok.exfs,I.ok.funs,I.ok.frf⟩,I.os,I.bare,I.base,I.loc,I.cell,I.free,I.freeC,I.pin,I.hok,I.len⟩
theorem Inv.unhand(hc:X.calm=true->X.A.handled=none)(I:Inv (X.hand a) pins σ H s):Inv X pins σ H s:=
 ⟨⟨I.ok.mod,I.ok.kind,I.ok.glob,I.ok.blt,I.ok.above,I.ok.inj,I.ok.has,I.ok.cab,hc,I.ok.frames,I.ok.stk,I.ok.exf,I.ok.bs,I.ok.bsz,I.ok.noex,I.ok.exfs,I.ok.funs,I.ok.frf⟩,I.os,I.bare,I.base,I.loc,I.cell,I.free,I.freeC,I.pin,I.hok,I.len⟩
structure Loose(X:Cx)(pins:List (Addr×Obj))(H:Hp)(T:Addr):Prop where
 hn:H T=none
 lo:X.s₀.heap.objs.size<=T
 nl:T≠X.env.locals
 nf:T∉X.fs
 nc:∀ x c,X.env.cells.lookup x=some c->c≠T
 np:∀ p∈X.pn++pins,p.1≠T
theorem Inv.loose(I:Inv X pins σ H s){T:Addr}(a:s.heap.objs.size<=T)(hn:H' T=none):Loose X pins H' T where
 hn:=hn
 lo:=yi I.sz a
 nl:=Xw (yj I.lt a)
 nf:=I.nofs a
 nc:=λx c e=>by
  obtain⟨v,o,b,_⟩:=I.cell x c e;show Yi (yj (yM b) a)
 np:=λp d=>Yi (yj (yM (I.pin p d).1) a)
theorem Inv.noted{T:Addr}(I:Inv X pins σ H s)(f:H a=some (XO a C dx))(k:Keep (frs X.stack) zs s.heap h')(h:∀ b∈zs,b=a\/Loose X pins H b)(t:Trc h' a (.ref C) dx T fl) :
  Inv X pins σ H { s with heap:=h' }:=by
 have j:=qcl I f k (λb hb=>(h b hb).imp (λe=>e) λl=>l.hn) t;have i:∀ b,H b=none->b∉zs.filter (λb=>decide (b≠a))->b∉zs:=λb n z y=>z (yq.mpr ⟨y,yA λe=>by rw[e,f] at n;cases n⟩);show I.call (g':=s.gens) (t':=s.toks) (d':=s.drawn) (ch:=zs.filter λb=>decide (b≠a)) ⟨λb o e n hb d=>k.keep b o e (i b n d) hb,λb o e n hb d=>k.slot b o e (i b n d) hb,λ_ _ _ n _=>n,λb o e d=>?_,λ_ _ e=>e,λ_ _ _ e=>e,
  λb ps e=>⟨#[],by rw[e];simp⟩⟩ j I.bare λb hb=>?_
 .by_cases c:b=a
  .subst c;obtain⟨vs,q,_⟩:=t.ex;show⟨_,q⟩
  .have z:b∉zs:=λy=>d (yq.mpr ⟨y,yA c⟩);by_cases g:b∈frs X.stack
   .obtain⟨m,q⟩:=k.slot b o e z g;show⟨_,q⟩
   .show⟨o,k.keep b o e z g⟩
 .obtain⟨y,q⟩:=yq.mp hb;rcases h b y with e | l
  .show absurd e (yk q)
  .show⟨.inr l.lo,l.nl,l.nc,l.np⟩
theorem unbind_ok{i:Nat}{Q:Unit->Shared->Prop}(I:Inv X pins σ H s)(J:X.N.Nodup)(B:X.N[i]?=some x)(f:X.env.scope.names.lookup x=some .local)(hv:σ[i]?=some (some v))
  (h:∀ s',Inv X pins (σ.set i none) H s'->Q () s'):wpAny M A (unbindName X.env x) Q E s:=by
 obtain⟨m,L,hl⟩:=id I.loc;obtain⟨u,ru,P⟩:=hl i x v B hv (.inl f)
 have K:m x=some u:=by
  rcases P with⟨_,e⟩ | ⟨k,_⟩
  .show e
  .have k':X.env.scope.names.lookup x=some .cell\/X.env.scope.names.lookup x=some .free:=k;rw[f] at k';rcases k' with z | z<;>cases z
 have r:(X.env.scope.kind==.class||(X.env.scope.kind==.module&&X.env.locals != X.env.globals))=false:=by rw[I.ok.kind];rfl
 show wpAny_unbindName_local f L K r λh' u' F g=>?_;have a:∀ b o,X.s₀.heap.get? b=some o->b≠X.env.locals:=λb o e=>Yi (yj (yM e) I.ok.above);show h _ ⟨I.ok,I.os,I.bare,⟨λb o e n hb f=>?_,λb o e n hb f=>?_,I.base.free,λb o e f=>?_,I.base.tups,I.base.frzs,I.base.tbls⟩,⟨_,F,λj y Z l t G=>?_⟩,λy c e=>?_,I.free,I.freeC,λp O=>?_,λb U e=>?_,by simpa using I.len⟩
 .show(g.2 b (a b o e)).trans (I.base.keep b o e n hb f)
 .obtain⟨Y,l⟩:=I.base.slot b o e n hb f;show⟨Y,(g.2 b (a b o e)).trans l⟩
 .obtain⟨T,l⟩:=I.base.there b o e f;show⟨T,(g.2 b (a b o e)).trans l⟩
 .by_cases C:j=i
  .subst C;have D:j<σ.length:=by rw[I.len];show(yc.mp B).1
   rw[Xg D] at t;cases t
  .rw [xw (Yh C)] at t;obtain⟨w,W,q⟩:=hl j y Z l t G;show⟨w,W,?_⟩;rcases q with⟨k,e⟩ | ⟨k,c,e,z⟩
   .have S:y≠x:=λe=>C (qch J l (e ▸ B));show .inl ⟨k,by simp[S,e]⟩
   .show .inr ⟨k,c,e,z.sameBut g (I.cne y c e)⟩
 .obtain⟨w,z⟩:=I.cell y c e;show⟨w,z.sameBut g (I.cne y c e)⟩
 .obtain⟨e,n,ne,R,d⟩:=I.pin p O;show⟨(g.2 p.1 ne).trans e,n,ne,R,d⟩
 .show(I.hok b U e).stay (λc w hc q=>(g.2 c ?_).trans q) (λ_ q=>q) λ_ _ q=>q;rintro rfl;rcases hc with rfl | hc
  .rw [I.free] at e;cases e
  .rw [I.free] at hc;cases hc
end
structure Held(X:Cx)(pins:List (Addr×Obj))(H:Hp)(h:Heap)(a C:Addr)(dx:Option Addr):Prop where
 at_:H a=some (XO a C dx)
 tr:∃ T,Trc h a (.ref C) dx T .none/\Loose X pins H T
def PH(X:Cx)(a C:Addr)(dx:Option Addr)(b:List ExceptHandler)(c:TS):Prop:=
 ∀(pins:List (Addr×Obj)) (s:Shared) (σ:St) (H:Hp) (D:Ends),Inv X pins σ H s->Held X pins H s.heap a C dx->c D σ H->wpAny (model X.prog X.w) X.A (handleBy (.ref a) X.env b) (SP X pins D) X.xe s
def thNil:TS:=λ_ _ _=>False
def thAs(K:yg)(a C D:Addr)(i:Nat)(d rest:TS):TS:=λZ σ H=>∃ b,PySem.W.mroIn K C (.ref D)=some b/\XAt K D/\XAt K C /\
 if b=true then d { nx:=λc H'=>Z.nx (c.set i none) H',rt:=Z.rt,bk:=λc H'=>Z.bk (c.set i none) H',ct:=λc H'=>Z.ct (c.set i none) H' } (σ.set i (some (.ref a))) H else rest Z σ H
def thNo(K:yg)(C D:Addr)(a rest:TS):TS:=λZ σ H=>∃ b,PySem.W.mroIn K C (.ref D)=some b/\XAt K D/\XAt K C/\if b=true then a Z σ H else rest Z σ H
theorem qfr{K:yg}{o:Obj}{Q:Bool->Shared->Prop}(X:K.In s.heap)(m:s.heap.get? a=some o)(hc:o.cls=.ref C)(d:XAt K D)(hb:PySem.W.mroIn K C (.ref D)=some b)(q:Q b s) :
  wpAny M A (excMatches (.ref a) (.ref D)) Q E s:=by
 obtain⟨nm,B,N,bs,i,h,sn,sub,n,j,p,u,v,w,x,y,e,l⟩:=qdL X d.xc;have c:(Value.ref D::i).contains (.type "BaseException")=true:=by rw[Yw,qaM l (by simp),XY]
 have f:=tc_notTuple;have L:=xC (M:=M) X hb;obtain⟨t,g,r,tk,z⟩:=s;unfold excMatches
 repeat (first | with_reducible show YK e ?_ | (with_reducible show YK m ?_;rw[hc]) | (with_reducible show xD e ?_;rw[c]) | with_reducible show L.at ?_ | wp_step)
 cases b<;>(wp_walk;show q)
section
variable{X:Cx}{a C D:Addr}{dx:Option Addr}{c n:Str}{cp pos:Pos}{b0:Stmt}{body:List Stmt}{rest:List ExceptHandler}{tb tr:TS}{i:Nat}{K:yg}
theorem ph_nil:PH X a C dx [] thNil:=λ_ _ _ _ _ _ _ h=>h.elim
theorem suite_as{R:Result->Shared->Prop}{e:Value}
  (h:wpAny (model prog w) A (setFlight e none) (λ_ a=>wpAny (model prog w) A (bindName env n e) (λ_ b=>wpAny (model prog w) A (execs (b0::body) env) (λf c=>R (.ok f) c) (λ_ _=>False) b) (λ_ _=>False) a) (λ_ _=>False) s) :
  codeAny (model prog w) A (.handlers e [.ExceptHandler none (some n) (b0::body) pos] env) R s:=by
 show Kg ?_;show wpAny _ A (do return Fin.done (<- (handleWith e env [.ExceptHandler none (some n) (b0::body) pos]).onRaise (λx=>do noteFrame x env;theTreesLotGoes x))) _ _ s;show yt (wpAny_noted ?_);unfold handleWith;show yt (Xn (yt (YC h (λ_ a h1=>yt (YC h1 (λ_ b d=>yt (wpAny_attempt (YC d (λf c g=>yz (yz g)) λ_ _ z=>z.elim))) λ_ _ z=>z.elim)) λ_ _ z=>z.elim)))
theorem qgj(U:X.K=K)(y:X.N.Nodup)(x:X.N[i]?=some n)(m:X.env.scope.names.lookup n=some .local)(Y:Gl X c)(hm:X.mg c=some (.ref D))(hb:PSs (X.hand a) (b0::body) tb)(hr:PH X a C dx rest tr)
  (E:(c==("__debug__":Str))=false:=by decide):PH X a C dx (.ExceptHandler (some (.Name c cp)) (some n) (b0::body) pos::rest) (thAs K a C D i tb tr):=by
 subst U;intro pins s σ H Z I hl h;obtain⟨b,B,xd,xc,q⟩:=h;obtain⟨vs,W⟩:=(show IsX H a C dx from .inr hl.at_).get I.hok;show wpAny_handleBy_cons (codeAny_handlers_test ?_) (by intro q;cases q);have S:=I.hand a;show zQ (X:=X.hand a) S Y hm (qfr I.kIn W rfl xd B ?_) E
 cases b with
 | false=>show hr pins s σ H Z I hl q
 | true =>
  obtain⟨T,t,lo⟩:=hl.tr;show suite_as (qbS t λh1 t1 L aa=>?_);have kk:Keep (frs X.stack) [T] s.heap h1:=⟨λb o e z _=>L b o (by simpa using z) e,λb o e z _=>⟨o.slots,L b o (by simpa using z) e⟩⟩;have O:=I.noted hl.at_ kk (λb hb=>.inr (by rw[yx.mp hb];show lo)) t1;have P:=O.hand a;show kG (qao (X:=X.hand a) P y x (.inl m) (v:=.ref a) rfl (λs2 R=>?_) (.inr m));have q':tb { nx:=λd H'=>Z.nx (d.set i none) H',rt:=Z.rt,bk:=λd H'=>Z.bk (d.set i none) H',ct:=λd H'=>Z.ct (d.set i none) H' } (σ.set i (some (.ref a))) H:=q;show thn (hb pins s2 _ H _ R q') λf M p=>?_
  have j:∀{d:St} {H':Hp} {Q:Unit->Shared->Prop},Inv (X.hand a) pins d H' M->(∀ l,Inv X pins (d.set i none) H' l->Q () l)->wpAny (model X.prog X.w) X.A (do bindName X.env n .none;unbindBehindTheSuite X.env n pos) Q X.xe M:=λ{d H' Q} J k=>by
   have J':=Inv.unhand I.ok.hd J;have F:i<d.length:=by rw[J'.len];show(yc.mp x).1
   show yt (kG (qao J' y x (.inl m) (v:=.non) rfl (λl g=>?_) (.inr m)));show wpAny_onRaise (unbind_ok g y x m (v:=.non) (by rw[Xg F]) λs5 G=>k s5 ?_);rw[List.set_set] at G;show G
  cases f with
  | next=>obtain⟨d,H',J,z⟩:=p;show j J λl g=>⟨_,H',g,z⟩
  | brk=>obtain⟨d,H',J,z⟩:=p;show j J λl g=>⟨_,H',g,z⟩
  | cont=>obtain⟨d,H',J,z⟩:=p;show j J λl g=>⟨_,H',g,z⟩
  | ret u=>obtain⟨v,d,H',J,r,z⟩:=p;show j J λl g=>⟨v,_,H',g,r,z⟩
theorem ph_no(n:X.K=K)(w:Gl X c)(x:X.mg c=some (.ref D))(hb:PSs (X.hand a) (b0::body) tb)(y:PH X a C dx rest tr)(j:(c==("__debug__":Str))=false:=by decide) :
  PH X a C dx (.ExceptHandler (some (.Name c cp)) none (b0::body) pos::rest) (thNo K C D tb tr):=by
 subst n;intro pins s σ H Z I hl h;obtain⟨b,i,xd,L,q⟩:=h;obtain⟨vs,p⟩:=(show IsX H a C dx from .inr hl.at_).get I.hok;show wpAny_handleBy_cons (codeAny_handlers_test ?_) (by intro q;cases q);show zQ (X:=X.hand a) (I.hand a) w x (qfr I.kIn p rfl xd i ?_) j
 cases b with
 | false=>show y pins s σ H Z I hl q
 | true =>
  obtain⟨T,t,lo⟩:=hl.tr;show codeAny_handlers_suite (qbS t λh1 F l E=>?_);have A:Keep (frs X.stack) [T] s.heap h1:=⟨λb o e z _=>l b o (by simpa using z) e,λb o e z _=>⟨o.slots,l b o (by simpa using z) e⟩⟩;have m:=I.noted hl.at_ A (λb hb=>.inr (by rw[yx.mp hb];show lo)) F;have B:tb Z σ H:=q;show YC (hb pins _ σ H Z (m.hand a) B) (λf G g=>?_) λ_ _ z=>z.elim
  cases f with
  | next=>obtain⟨d,H',J,z⟩:=g;show⟨d,H',Inv.unhand I.ok.hd J,z⟩
  | brk=>obtain⟨d,H',J,z⟩:=g;show⟨d,H',Inv.unhand I.ok.hd J,z⟩
  | cont=>obtain⟨d,H',J,z⟩:=g;show⟨d,H',Inv.unhand I.ok.hd J,z⟩
  | ret u=>obtain⟨v,d,H',J,r,z⟩:=g;show⟨v,d,H',Inv.unhand I.ok.hd J,r,z⟩
end
def tTry(X:Cx)(b:List Stmt)(g:List ExceptHandler)(te:TS):TS:=λD σ H=>∃(d:St->XK) (e:TS),(∀ pn xe,XOk (X.tried pn xe) d->PSs (X.tried pn xe) b e) /\
 e { nx:=te D,rt:=D.rt,bk:=D.bk,ct:=D.ct } σ H/\∀(a C:Addr) (dx:Option Addr) (c:St) (H':Hp),d c (.ref C) dx H'->H' a=some (XO a C dx)->∃ f,PH X a C dx g f/\f D c H'
section
variable{X:Cx}{body orelse:List Stmt}{h0:ExceptHandler}{hs:List ExceptHandler}{pos:Pos}{te:TS}
theorem ps_try(hc:X.calm=true)(j:X.stack=X.env::X.outer)(y:X.env.frame=some X.env.locals)(ho:PSs X orelse te):PS X (.Try body (h0::hs) orelse [] pos) (tTry X body (h0::hs) te):=by
 intro pins s σ H D I h;obtain⟨R,tb,hb,q,hh⟩:=h;have E:X.A.frames=some (X.env::X.outer):=by rw[<- j];show I.ok.frames
 let m:Value->Shared->Prop:=λe d=>∃(a C:Addr) (dx:Option Addr) (c:St) (H':Hp),e=.ref a/\Inv X pins c H' d/\H' a=some (XO a C dx)/\R c (.ref C) dx H' /\
  ((∃ T,Trc d.heap a (.ref C) dx T .none/\Loose X pins H' T)\/∃ a0,d.heap.get? a=some ⟨.ref C,dx,.fields (xfs a0),#[]⟩)
 have Y:XOk (X.tried (X.pn++pins) m) R:=by
  show⟨λpins' c L d e s2 J l=>?_,λpins' c L d a C dx J e z=>?_,hc⟩
  .obtain⟨a,C,dx,T,H',rfl,P,N,un,O,n,t,hT,M,z⟩:=l;have p:=J.call' (s':=s2) (H':=H') (ch:=[]) P un O N (λb z=>absurd z (by simp));have G:=Inv.untried J;show⟨a,C,dx,c,H',rfl,Inv.untried p,n,z,.inl ⟨T,t,G.loose hT M⟩⟩
  .have G:=Inv.untried J;obtain⟨⟨a0,l⟩,_⟩:=(show ObjOk _ _ L d.heap a (XN a C dx) from G.hok a _ e);have p:Inv X pins c (upd L a (XO a C dx)) d:=G.write (x:=a) (e:=a) (o:=XO a C dx) (h':=d.heap) (t':=d.toks) (by rw[e];show YV) (.inl rfl) (λ_ _ _ q=>q) ⟨_,l⟩ (XO.ok l);show⟨a,C,dx,c,_,rfl,p,qb,z,.inr ⟨a0,l⟩⟩
 have B:=hb (X.pn++pins) m Y [] s σ H _ (I.tried m) q;show wpAny_Try_except (YC B (λf d K=>?_) λe d he=>?_)
 .cases f with
  | next=>obtain⟨c,H',J,z⟩:=K;show ho pins d c H' D (Inv.untried J) z
  | brk=>obtain⟨c,H',J,z⟩:=K;show⟨c,H',Inv.untried J,z⟩
  | cont=>obtain⟨c,H',J,z⟩:=K;show⟨c,H',Inv.untried J,z⟩
  | ret u=>obtain⟨v,c,H',J,r,z⟩:=K;show⟨v,c,H',Inv.untried J,r,z⟩
 .obtain⟨a,C,dx,c,H',rfl,J,n,z,tt⟩:=he;obtain⟨th,hp,hq⟩:=hh a C dx c H' z n;have F:d.heap.FunFrames X.base (X.env::X.outer):=by rw[<- j];show J.stack
  have go:∀(h':Heap) (i:Addr) (zs:LX),d.heap.objs.size<=i->Trc h' a (.ref C) dx i (rawInt X.env.locals)->Keep (frs (X.env::X.outer)) zs d.heap h'->(∀ b∈zs,b=a\/Loose X pins H' b) ->
    wpAny (model X.prog X.w) X.A (setFlight (.ref a) none) (λ_ s3=>wpAny (model X.prog X.w) X.A (handleBy (.ref a) X.env (h0::hs)) (SP X pins D) X.xe s3) X.xe { d with heap:=h' }:=λh' i zs g t' k hz=>by
   have lo:=J.loose g (J.hok.fresh g);have p:=J.noted n (by rw[j];show k) hz t';show qbS (s:={ d with heap:=h' }) t' λZ U S aa=>?_;have kk:Keep (frs X.stack) [i] h' Z:=⟨λb o e z _=>S b o (by simpa using z) e,λb o e z _=>⟨o.slots,S b o (by simpa using z) e⟩⟩;have W:=p.noted n kk (λb hb=>.inr (by rw[yx.mp hb];show lo)) U;show hp pins _ c H' D W ⟨n,i,U,lo⟩ hq
  rcases tt with⟨T,t,lo⟩ | ⟨a0,l⟩
  .show qdO (base:=X.base) E F y t λh' i g t' k=>go h' i _ g t' k λb hb=>?_;simp only[yv,yJ,Yo] at hb;rcases hb with rfl | rfl
   .show .inl rfl
   .show .inr lo
  .show qcU (base:=X.base) E F y l rfl rfl λh' i g t' k=>go h' i _ g t' k λb hb=>?_;show .inl (yx.mp hb)
end
def TyX(K:yg)(H:Hp)(x:V)(t:Value):Prop:=TyOf K H x t\/∃ a C dx,x=.ref a/\t=.ref C/\IsX H a C dx/\XAt K C/\∀ d,dx=some d->∃ fs,H d=some (.xd fs)
theorem TyX.kit{x:V}(I:Inv X pins σ H s)(e:RelV x u)(ty:TyX X.K H x t):∃ P:Heap->Prop,PySem.W.KitX X.K u t P/\P s.heap/\u≠.builtin "__main__.__loader__#opaque":=by
 rcases ty with ty | ⟨a,C,dx,rfl,rfl,hx,c,hd⟩
 .show ty.kit I e
 .cases e;obtain⟨vs,b⟩:=hx.get I.hok
  cases dx with
  | none=>show⟨_,qdM (od:=none) c,⟨b,rfl,rfl,YV⟩,λz=>nomatch z⟩
  | some d =>
   obtain⟨fs,f⟩:=hd d rfl;obtain⟨od,g,h1,_⟩:=qfj I f;show⟨_,qdM (od:=some od) c,⟨b,rfl,rfl,h1⟩,λz=>nomatch z⟩
def qgk(K:yg):List V->Hp->VK->Prop:=λxs H Q=>∃ x y t c b,xs=[x,y]/\TyX K H x t/\qcQ y=some c/\PySem.W.kitOne K t c=some b/\Q (.bl b) H
def qfs(K:yg):List V->Hp->VK->Prop:=λxs H Q=>∃ x p ys t a b,xs=[x,.ref p]/\TyX K H x t/\H p=some (.tup ys)/\ys.map qcQ=a.map some/\PySem.W.kitAny K t a=some b/\Q (.bl b) H
section
variable{X:Cx}{K:yg}
theorem qad(a:X.K=K):zI X (.builtin "isinstance") (qgk K):=by
 subst a;intro pins s σ H xs us Q I r h;obtain⟨x,y,t,c,b,rfl,ty,d,hb,q⟩:=h;obtain⟨u,v,rfl,f,g⟩:=qe7 r;have e:=qcb d g;subst e;obtain⟨P,Z,p,ne⟩:=ty.kit I f;show PySem.W.kia_one Z I.kIn p hb ne λtk=>⟨.bl b,H,I.tok tk,rfl,q⟩
theorem qdg(i:X.K=K):zI X (.builtin "isinstance") (qfs K):=by
 subst i;intro pins s σ H xs us Q I r h;obtain⟨x,p,ys,t,B,b,rfl,ty,m,y,hb,q⟩:=h;obtain⟨u,v,rfl,A,f⟩:=qe7 r;cases f;obtain⟨P,Z,z,ne⟩:=ty.kit I A;obtain⟨_,its,f,o,l,hc,n,j⟩:=(show ObjOk X.prog X.w H s.heap p (.tup ys) from I.hok p _ m);have e:=qbR y f;subst e;obtain⟨c,C,g,D⟩:=o;have a:c=.type "tuple":=hc;have d:g=.seq its.toArray n:=j;subst a d;show PySem.W.kia_tup Z I.kIn z l hb ne λtk=>⟨.bl b,H,I.tok tk,rfl,q⟩
end
mutual
inductive EqD(K:yg)(H:Hp):Nat->V->V->Bool->Prop
 | flat {n:Nat} {x y:V} (fx:qay x=true) (fy:qay y=true):EqD K H n x y (eqV x y)
 | self {n:Nat} {a:Addr}:EqD K H n (.ref a) (.ref a) true
 | deep {n:Nat} {a b:Addr} {k:Bool} (h:EqT K H n a b k) (ne:a≠b):EqD K H n (.ref a) (.ref b) k
inductive EqT(K:yg)(H:Hp):Nat->Addr->Addr->Bool->Prop
 | lst {n:Nat} {a b:Addr} {xs ys:List V} {e:Nat->Bool} (ha:SqL K H a xs) (hb:SqL K H b ys) (hl:xs.length=ys.length) (he:∀ j x y,xs[j]?=some x->ys[j]?=some y->EqD K H n x y (e j)):EqT K H (n+1) a b ((List.range xs.length).all e)
 | lstL {n:Nat} {a b:Addr} {xs ys:List V} (ha:SqL K H a xs) (hb:SqL K H b ys) (hl:xs.length≠ys.length):EqT K H (n+1) a b false
 | tup {n:Nat} {a b:Addr} {xs ys:List V} {e:Nat->Bool} (ha:SqT K H a xs) (hb:SqT K H b ys) (he:∀ j x y,xs[j]?=some x->ys[j]?=some y->EqD K H n x y (e j)):EqT K H (n+1) a b ((List.range (min xs.length ys.length)).all e&&xs.length==ys.length)
 | lt {n:Nat} {a b:Addr} {xs ys:List V} (ha:SqL K H a xs) (hb:SqT K H b ys):EqT K H (n+1) a b false
 | tl {n:Nat} {a b:Addr} {xs ys:List V} (ha:SqT K H a xs) (hb:SqL K H b ys):EqT K H (n+1) a b false
end
theorem jB:∀{xs:List V} {us:List Value} {j:Nat} {u:Value},Vals xs us->us[j]?=some u->∃ x,xs[j]?=some x/\RelV x u
 | _,_,_,_,.nil,e=>by simp at e
 | _,_,0,_,.cons r _,e=>by simp at e;subst e;show⟨_,rfl,r⟩
 | _,_,j+1,u,.cons _ t,e=>by
  obtain⟨x,h1,a⟩:=jB (j:=j) (u:=u) t (by simpa using e);show⟨x,by simpa using h1,a⟩
section
variable{X:Cx}{pins:List (Addr×Obj)}{σ:St}{H:Hp}{s:Shared}
theorem qdh(I:Inv X pins σ H s):∀ n,(∀(A:Around) (x y:V) (k:Bool) (u v:Value),EqD X.K H n x y k->RelV x u->RelV y v->A.units+n<cLine->SeqAt.EqAt A s u v k)/\(∀(A:Around) (a b:Addr) (k:Bool),EqT X.K H n a b k->A.units+n<cLine->SeqAt.RcAt A s (.ref a) (.ref b) k):=by
 intro n
 induction n with
 | zero =>
  have G:∀(A:Around) (a b:Addr) (k:Bool),EqT X.K H 0 a b k->A.units+0<cLine->SeqAt.RcAt A s (.ref a) (.ref b) k:=λA a b k h=>by cases h
  show⟨λA x y k u v h g i B=>?_,G⟩
  cases h with
  | flat fx fy=>show qeq g i fx fy
  | self=>cases g;cases i;show kq _
  | deep h ne=>cases h
 | succ n ih =>
  have E:∀(A:Around) (a b:Addr) (k:Bool),EqT X.K H (n+1) a b k->A.units+(n+1)<cLine->SeqAt.RcAt A s (.ref a) (.ref b) k:=λA a b k h B=>by
   have f:A.units<cLine:=by lk
   have o:A.in1.units+n<cLine:=by show A.units+1+n<cLine;lk
   cases h with
   | @lst _ _ _ xs ys e ha hb hl he =>
    obtain⟨its,r,pl,q⟩:=I.list ha;obtain⟨c,m,d,l⟩:=I.list hb;have p:xs.length=its.toArray.size:=by rw[yD];show r.length
    have t:ys.length=c.toArray.size:=by rw[yD];show m.length
    rw[p];show SeqAt.RcAt.lists pl.isList d.isList (by rw[<- p,<- t,hl]) f λj h1 F=>?_;have w:its[j]?=some its.toArray[j]:=by simp
    have z:c[j]?=some c.toArray[j]:=by simp
    obtain⟨x,C,g⟩:=jB r w;obtain⟨y,D,i⟩:=jB m z;show ih.1 A.in1 x y (e j) _ _ (he j x y C D) g i o
   | @lstL _ _ _ xs ys ha hb hl =>
    obtain⟨its,r,pl,q⟩:=I.list ha;obtain⟨c,m,d,l⟩:=I.list hb;show SeqAt.RcAt.lists_lengths pl.isList d.isList ?_ f;rw[yD,yD,<- r.length,<- m.length];simp[hl]
   | @tup _ _ _ xs ys e ha hb he =>
    obtain⟨its,r,pl,q⟩:=I.tuple ha;obtain⟨c,m,d,l⟩:=I.tuple hb;have p:xs.length=its.toArray.size:=by rw[yD];show r.length
    have t:ys.length=c.toArray.size:=by rw[yD];show m.length
    rw[p,t];show SeqAt.RcAt.tuples pl d f λj h1 F=>?_;have w:its[j]?=some its.toArray[j]:=by simp
    have z:c[j]?=some c.toArray[j]:=by simp
    obtain⟨x,C,g⟩:=jB r w;obtain⟨y,D,i⟩:=jB m z;show ih.1 A.in1 x y (e j) _ _ (he j x y C D) g i o
   | lt ha hb =>
    obtain⟨its,r,pl,q⟩:=I.list ha;obtain⟨c,m,d,l⟩:=I.tuple hb;show SeqAt.RcAt.list_tuple pl.isList d f
   | tl ha hb =>
    obtain⟨its,r,pl,q⟩:=I.tuple ha;obtain⟨c,m,d,l⟩:=I.list hb;show SeqAt.RcAt.tuple_list pl d.isList f
  show⟨λA x y k u v h g i B=>?_,E⟩
  cases h with
  | flat fx fy=>show qeq g i fx fy
  | self=>cases g;cases i;show kq _
  | deep h ne=>cases g;cases i;show SeqAt.EqAt.of_refs ne (E A _ _ k h B)
theorem ne_refs(I:Inv X pins σ H s){n:Nat}{A:Around}{a b:Addr}{k:Bool}(h:EqT X.K H n a b k)(B:A.units+n<cLine):SeqAt.RcNeAt A s (.ref a) (.ref b) (!k):=by
 cases n with
 | zero=>cases h
 | succ n =>
  have w:=qdh I n;have f:A.units<cLine:=by lk
  have l:A.in1.units+n<cLine:=by show A.units+1+n<cLine;lk
  cases h with
  | @lst _ _ _ xs ys e ha hb hl he =>
   obtain⟨its,r,pl,o⟩:=I.list ha;obtain⟨c,i,d,g⟩:=I.list hb;have m:xs.length=its.toArray.size:=by rw[yD];show r.length
   have p:ys.length=c.toArray.size:=by rw[yD];show i.length
   rw[m];show SeqAt.RcNeAt.lists pl.isList d.isList (by rw[<- m,<- p,hl]) f λj h1 z=>?_;obtain⟨x,q,u⟩:=jB r (show its[j]?=some its.toArray[j] by simp);obtain⟨y,t,v⟩:=jB i (show c[j]?=some c.toArray[j] by simp);show w.1 A.in1 x y (e j) _ _ (he j x y q t) u v l
  | @lstL _ _ _ xs ys ha hb hl =>
   obtain⟨its,r,pl,o⟩:=I.list ha;obtain⟨c,i,d,g⟩:=I.list hb;show SeqAt.RcNeAt.lists_lengths pl.isList d.isList ?_ f;rw[yD,yD,<- r.length,<- i.length];simp[hl]
  | @tup _ _ _ xs ys e ha hb he =>
   obtain⟨its,r,pl,o⟩:=I.tuple ha;obtain⟨c,i,d,g⟩:=I.tuple hb;have m:xs.length=its.toArray.size:=by rw[yD];show r.length
   have p:ys.length=c.toArray.size:=by rw[yD];show i.length
   rw[m,p];show SeqAt.RcNeAt.tuples pl d f λj h1 z=>?_;obtain⟨x,q,u⟩:=jB r (show its[j]?=some its.toArray[j] by simp);obtain⟨y,t,v⟩:=jB i (show c[j]?=some c.toArray[j] by simp);show w.1 A.in1 x y (e j) _ _ (he j x y q t) u v l
  | lt ha hb =>
   obtain⟨its,r,pl,o⟩:=I.list ha;obtain⟨c,i,d,g⟩:=I.tuple hb;show SeqAt.RcNeAt.list_tuple pl.isList d f
  | tl ha hb =>
   obtain⟨its,r,pl,o⟩:=I.tuple ha;obtain⟨c,i,d,g⟩:=I.list hb;show SeqAt.RcNeAt.tuple_list pl d.isList f
theorem qft{A:Around}{x y:V}{u v:Value}(e:RelV x u)(c:RelV y v)(f:qay x=true)(d:qay y=true):SeqAt.RcAt A s u v (eqV x y)/\SeqAt.RcNeAt A s u v (!eqV x y):=by
 cases x with
 | non =>
  cases e
  cases y with
  | non=>cases c;show⟨SeqAt.RcAt.none_none,SeqAt.RcNeAt.none_none⟩
  | bl b=>cases c;show⟨SeqAt.RcAt.none_bool b,SeqAt.RcNeAt.none_bool b⟩
  | int b=>obtain⟨t,rfl⟩:=c;show⟨SeqAt.RcAt.none_int b t,SeqAt.RcNeAt.none_int b t⟩
  | str b=>obtain⟨t,rfl⟩:=c;show⟨SeqAt.RcAt.none_str b t,SeqAt.RcNeAt.none_str b t⟩
  | _=>cases d
 | bl a =>
  cases e
  cases y with
  | non=>cases c;show⟨SeqAt.RcAt.bool_none a,SeqAt.RcNeAt.bool_none a⟩
  | bl b=>cases c;show⟨SeqAt.RcAt.bool_bool a b,SeqAt.RcNeAt.bool_bool a b⟩
  | int b=>obtain⟨t,rfl⟩:=c;show⟨SeqAt.RcAt.bool_int a b t,SeqAt.RcNeAt.bool_int a b t⟩
  | str b=>obtain⟨t,rfl⟩:=c;show⟨SeqAt.RcAt.bool_str a b t,SeqAt.RcNeAt.bool_str a b t⟩
  | _=>cases d
 | int a =>
  obtain⟨t',rfl⟩:=e
  cases y with
  | non=>cases c;show⟨SeqAt.RcAt.int_none a t',SeqAt.RcNeAt.int_none a t'⟩
  | bl b=>cases c;show⟨SeqAt.RcAt.int_bool a t' b,SeqAt.RcNeAt.int_bool a t' b⟩
  | int b=>obtain⟨t,rfl⟩:=c;show⟨SeqAt.RcAt.int_int a t' b t,SeqAt.RcNeAt.int_int a t' b t⟩
  | str b=>obtain⟨t,rfl⟩:=c;show⟨SeqAt.RcAt.int_str a t' b t,SeqAt.RcNeAt.int_str a t' b t⟩
  | _=>cases d
 | str a =>
  obtain⟨t',rfl⟩:=e
  cases y with
  | non=>cases c;show⟨SeqAt.RcAt.str_none a t',SeqAt.RcNeAt.str_none a t'⟩
  | bl b=>cases c;show⟨SeqAt.RcAt.str_bool a t' b,SeqAt.RcNeAt.str_bool a t' b⟩
  | int b=>obtain⟨t,rfl⟩:=c;show⟨SeqAt.RcAt.str_int a t' b t,SeqAt.RcNeAt.str_int a t' b t⟩
  | str b=>obtain⟨t,rfl⟩:=c;show⟨SeqAt.RcAt.str_str a t' b t,SeqAt.RcNeAt.str_str a t' b t⟩
  | _=>cases d
 | _=>cases f
end
def qeh(K:yg)(c:Bool):R2:=λx y H Q=>(qay x=true/\qay y=true/\Q (.bl (if c then !eqV x y else eqV x y)) H) \/
 (∃ a b k n,x=.ref a/\y=.ref b/\n<=60/\EqT K H n a b k/\Q (.bl (if c then !k else k)) H) \/
 (∃ a kvs,x=.ref a/\y=.ref a/\H a=some (.dK kvs)/\Q (.bl (!c)) H)
theorem qbT{b:Type}[DecidableEq b]:∀{a:List (b×Value)} {k:b} {v:Value},(a.map (·.1)).Nodup->(k,v)∈a->valueAt a k=some v
 | [],_,_,_,h=>by cases h
 | (k',v')::r,k,v,hn,h=>by
  obtain⟨h1,c⟩:=yp.mp (show(k'::r.map (·.1)).Nodup from hn);unfold valueAt;rw[xR];by_cases e:k'=k
  .subst e;simp only[decide_true];rcases yv.mp h with z | z
   .cases z;rfl
   .show absurd (yQ.mpr ⟨(k',v),z,rfl⟩) h1
  .simp only[e,Kp];rcases yv.mp h with z | z
   .cases z;show absurd rfl e
   .show qbT c z
theorem qdi{A:Around}{s:Shared}{c:Type}[DecidableEq c](a:List (c×Value))(d:(a.map (·.1)).Nodup):∀ f:List (c×Value),(∀ p∈f,p∈a)->PySem.W.KeqHits A s a f true
 | [],_=>.nil
 | (k,v)::r,h=>by
  have hv:valueAt a k=some v:=qbT d (h (k,v) yL);show .hit (e:=true) (b:=true) hv (kq v) (qdi a d r λp g=>h p (yE _ g))
section
variable{X:Cx}{K:yg}
theorem k_eqU(m:X.K=K)(p:X.A.units+100<cLine):OpR X (compareOp .Eq) (qeh K false):=by
 subst m;intro pins s σ H x y u v Q I c f h;rcases h with⟨j,l,q⟩ | ⟨a,b,k,n,rfl,rfl,o,e,q⟩ | ⟨a,kvs,rfl,rfl,i,q⟩
 .show(qft c f j l).1 _ _ _ _ ⟨.bl _,H,I,rfl,q⟩
 .cases c;cases f;show(qdh I n).2 X.A a b k e (by lk) _ _ _ _ ⟨.bl _,H,I,rfl,q⟩
 .cases c;cases f;obtain⟨_,g,vs,r,d⟩:=(show ObjOk X.prog X.w H s.heap a (.dK kvs) from I.hok a _ i);obtain⟨_,_,_,_,_,_,_,_,nd⟩:=id d;show PySem.W.keq_eq g g d d (by lk) (λ_=>qdi vs nd vs λ_ h=>h) ?_;rw[Xc];show⟨.bl true,H,I,rfl,q⟩
theorem qae(m:X.K=K)(p:X.A.units+100<cLine):OpR X (compareOp .NotEq) (qeh K true):=by
 subst m;intro pins s σ H x y u v Q I c f h;rcases h with⟨j,l,q⟩ | ⟨a,b,k,n,rfl,rfl,o,e,q⟩ | ⟨a,kvs,rfl,rfl,i,q⟩
 .show(qft c f j l).2 _ _ _ _ ⟨.bl _,H,I,rfl,q⟩
 .cases c;cases f;show ne_refs I e (by lk) _ _ _ _ ⟨.bl _,H,I,rfl,q⟩
 .cases c;cases f;obtain⟨_,g,vs,r,d⟩:=(show ObjOk X.prog X.w H s.heap a (.dK kvs) from I.hok a _ i);obtain⟨_,_,_,_,_,_,_,_,nd⟩:=id d;show PySem.W.keq_ne g g d d (by lk) (λ_=>qdi vs nd vs λ_ h=>h) ?_;rw[Xc];show⟨.bl false,H,I,rfl,q⟩
end
section
variable{X:Cx}{K:yg}
def qfV(K:yg):R2:=λx y H Q=>rIx K x y H Q\/∃ a v,x=.ref a/\DGet H a y (some v)/\Q v H
theorem qp(f:X.K=K)(m:X.A.units+100<cLine):IxR X (qfV K):=by
 subst f;show IxR.or ix_seq ?_;intro d c pins s σ H x y v u Q I j l h i;obtain⟨a,z,rfl,g,q⟩:=h;cases j;show tail_any (dict_typeIs I g) PySem.F.slot_dict_getitem.lookup (d_getItem (by lk) I g l λo n e b=>⟨z,H,e,b,q⟩) i
def rSetU:qf3:=λo i v H Q=>rSetL o i v H Q\/∃ a H',o=.ref a/\DPut H a i v H'/\Q H'
theorem jQ(l:X.A.units+100<cLine):qgD X rSetU:=by
 intro pins s σ H o i v j f u Q I c b d h;rcases h with h | ⟨a,H',rfl,g,q⟩
 .show set_list pins s σ H o i v j f u Q I c b d h
 .cases c;show d_setItem (by lk) I g b d λs' e=>⟨H',e,q⟩
def qe0(K:yg)(b:Bool):R2:=λx y H Q=>rIn K b x y H Q\/(∃ a o,y=.ref a/\DGet H a x o/\Q (.bl (if b then !o.isSome else o.isSome)) H) \/
 (∃ p xs e n,y=.ref p/\SqL K H p xs/\n<=60/\(∀ z∈xs,EqD K H n z x (e z))/\Q (.bl (if b then !xs.any e else xs.any e)) H)
theorem qfu{pins:List (Addr×Obj)}{σ:St}{H:Hp}{s:Shared}{xs:List V}{its:List Value}{x:V}{u:Value}{e:V->Bool}{n:Nat}{A:Around}(I:Inv X pins σ H s)(r:Vals xs its)(t:RelV x u)(p:A.units+n<cLine)(o:∀ z∈xs,EqD X.K H n z x (e z)) :
  ∃ i:Value->Bool,(∀ w,w∈its.toArray->SeqAt.EqAt A s w u (i w))/\its.toArray.any i=xs.any e:=by
 classical
 show⟨λw=>decide (∃ z∈xs,RelV z w/\e z=true),λw hw=>?_,?_⟩
 .have f:w∈its:=by simpa using hw
  obtain⟨j,d⟩:=kf.mp f;obtain⟨z,a,b⟩:=jB r d;have l:=ye a
  have eq:decide (∃ z∈xs,RelV z w/\e z=true)=e z:=by
   cases q:e z with
   | true=>show yA ⟨z,l,b,q⟩
   | false =>
    show ym λ⟨v,_,g,m⟩=>?_;rw[RelV.inj g b,q] at m;cases m
  show SeqAt.EqAt A s w u (decide (∃ z∈xs,RelV z w/\e z=true));rw[eq];show(qdh I n).1 A z x (e z) w u (o z l) b t p
 .rw [Y9,xu];constructor
  .intro h;have h':its.any (λw=>decide (∃ z∈xs,RelV z w/\e z=true))=true:=by simpa using h
   obtain⟨w,_,q⟩:=xu.mp h';obtain⟨z,a,_,c⟩:=yk q;show⟨z,a,c⟩
  .rintro ⟨z,a,c⟩;obtain⟨j,d⟩:=kf.mp a;obtain⟨w,hw,b⟩:=r.get d;have:its.any (λw=>decide (∃ z∈xs,RelV z w/\e z=true))=true:=xu.mpr ⟨w,ye hw,yA ⟨z,a,b,c⟩⟩;simpa using this
theorem qaf(j:X.K=K)(l:X.A.units+100<cLine):OpR X (compareOp .In) (qe0 K false):=by
 subst j;intro pins s σ H x y u v Q I b c h;rcases h with h | ⟨a,o,rfl,g,q⟩ | ⟨p,xs,e,n,rfl,hl,hn,he,q⟩
 .show op_in_seq pins s σ H x y u v Q I b c h
 .cases c;show d_in (by lk) I g b λs' d=>⟨.bl _,H,d,rfl,q⟩
 .cases c;obtain⟨its,r,pl,m⟩:=I.list hl;obtain⟨f,h1,i⟩:=qfu (A:=X.A.in1) I r b (by show X.A.units+1+n<cLine;lk) he;show SeqAt.in_listAt f pl.isList h1 (by rw[i];show⟨.bl _,H,I,rfl,q⟩)
theorem j0(j:X.K=K)(l:X.A.units+100<cLine):OpR X (compareOp .NotIn) (qe0 K true):=by
 subst j;intro pins s σ H x y u v Q I b c h;rcases h with h | ⟨a,o,rfl,g,q⟩ | ⟨p,xs,e,n,rfl,hl,hn,he,q⟩
 .show op_notIn_seq pins s σ H x y u v Q I b c h
 .cases c;show d_notIn (by lk) I g b λs' d=>⟨.bl _,H,d,rfl,q⟩
 .cases c;obtain⟨its,r,pl,m⟩:=I.list hl;obtain⟨f,h1,i⟩:=qfu (A:=X.A.in1) I r b (by show X.A.units+1+n<cLine;lk) he;show SeqAt.notIn_listAt f pl.isList h1 (by rw[i];show⟨.bl _,H,I,rfl,q⟩)
def rListU(K:yg):List V->Hp->VK->Prop:=λxs H Q=>(∃ p ys,xs=[.ref p]/\(SqL K H p ys\/SqT K H p ys)/\∀ l,H l=none->Q (.ref l) (upd H l (.lst ys))) \/
 (∃ p kvs,xs=[.ref p]/\H p=some (.dK kvs)/\∀ l,H l=none->Q (.ref l) (upd H l (.lst (kvs.map λa=>kV a.1)))) \/
 (∃ x,xs=[.str x]/\x.length<=1000/\∀ l,H l=none->Q (.ref l) (upd H l (.lst (x.cps.toList.map λc=>.str ⟨#[c]⟩))))
theorem qcc{c d:Type}{F:c->d->Prop}:∀{l:List c} {m:List d} {j:Nat} {a:c},Paired F l m->l[j]?=some a->∃ b,m[j]?=some b/\F a b
 | _,_,_,_,.nil,e=>by simp at e
 | _,_,0,_,.cons r _,e=>by simp at e;subst e;show⟨_,rfl,r⟩
 | _,_,j+1,a,.cons _ t,e=>by
  obtain⟨b,h1,f⟩:=qcc (j:=j) (a:=a) t (by simpa using e);show⟨b,by simpa using h1,f⟩
theorem qa5:∀{ys:List V} {us:List Value},ys.length=us.length->(∀(j:Nat) y u,ys[j]?=some y->us[j]?=some u->RelV y u)->Vals ys us
 | [],[],_,_=>.nil
 | [],_::_,h,_=>by cases h
 | _::_,[],h,_=>by cases h
 | y::ys,u::us,h,q=>.cons (q 0 y u rfl rfl) (qa5 (Nat.succ.inj h) λj c b h1 a=>q (j+1) c b (by simpa using h1) (by simpa using a))
theorem zV(L:X.K=K)(hc:X.calm=true):zI X (.type "list") (rListU K):=by
 subst L;intro pins s σ H xs us Q I r h;rcases h with h | ⟨p,kvs,rfl,ea,q⟩ | ⟨x,rfl,hx,q⟩
 .show call_list_of pins s σ H xs us Q I r h
 .obtain⟨u,rfl,N⟩:=qa2 r;cases N;obtain⟨D,M,vs,E,d⟩:=(show ObjOk X.prog X.w H s.heap p (.dK kvs) from I.hok p _ ea);obtain⟨ep,n⟩:=d.dictAt;have hl:kvs.length=vs.length:=E.length;show PySem.W.kdl_call (PySem.W.kdl_dict (knd:=jI X.prog X.w) (kvs:=vs) (ep:=ep) M) (I.ok.hd hc) n (by rw[<- hl];show D) λh' tk a f A e it=>?_;obtain⟨o,v⟩:=it
  have hv:Vals (kvs.map λb=>kV b.1) a.toList:=by
   show qa5 (by rw[ya,hl,<- o];simp) λj y u h1 g=>?_;obtain⟨k,x,l,G⟩:=v j u (by simpa using g);rw[yd] at h1
   cases B:kvs[j]? with
   | none=>rw[B] at h1;cases h1
   | some b =>
    rw[B] at h1;cases h1;obtain⟨P,C,J,O⟩:=qcc E B;rw[l] at C;cases C;have F:b.1=k:=J;show RelV (kV b.1) u;rw[F];rcases qW (show qdb k u=true from G) with⟨i,t,rfl,rfl⟩ | ⟨z,t,rfl,rfl⟩
    .show⟨t,rfl⟩
    .show⟨t,rfl⟩
  show⟨.ref s.heap.objs.size,_,I.laid (t':=tk) A (yh _) (show ObjOk X.prog X.w _ h' _ (.lst (kvs.map λb=>kV b.1)) from⟨by rw[ya];show D,a.toList,f,hv,by simpa using e⟩),rfl,q _ (I.hok.fresh (yh _))⟩
 .obtain⟨u,rfl,t,rfl⟩:=qa2 r;have hsz:x.cps.size<=sizeLine:=yS (qv hx);show call_list_str (I.ok.hd hc) x t (λh' tk a f A e it=>?_) hsz;obtain⟨o,v⟩:=it
  have hv:Vals (x.cps.toList.map λc=>V.str ⟨#[c]⟩) a.toList:=by
   show qa5 (by rw[ya];simp[o]) λj y u h1 g=>?_;obtain⟨c,t',l,rfl⟩:=v j u (by simpa using g);rw[yd] at h1;have m:x.cps.toList[j]?=some c:=by simpa using l
   rw[m] at h1;cases h1;show⟨t',rfl⟩
  show⟨.ref s.heap.objs.size,_,I.laid (t':=tk) A (yh _) (show ObjOk X.prog X.w _ h' _ (.lst (x.cps.toList.map λc=>V.str ⟨#[c]⟩)) from⟨by rw[ya];simpa using hsz,a.toList,f,hv,by simpa using e⟩),rfl,q _ (I.hok.fresh (yh _))⟩
end
structure CMethOk(P:Program)(w:World)(K:yg)(mg:Str->Option Value)(base:Heap)(CX:CXT)(k:Nat)(C:Addr)(x m:Str)(ps:LS)(sp:Sp):Prop where
 ex:∃ f fd,FnOk P w K mg base CX k f fd ps sp/\CMeth K C m f/\Binds K fd ps []
 mg_:mg x=some (.ref C)
section
variable{X:Cx}{k:Nat}{C:Addr}{ps:LS}{sp:Sp}{x m:Str}{p pos apos:Pos}{e:Expr}{es:List Expr}{t:TA}
theorem qdQ(D:MakeOk X.prog X.w X.K X.mg X.base CX0 k C x ps sp)(h:Room (k+1) X.A)(c:PA X (e::es) t)(g:Gl X x:=by rfl)(a:(x==("__debug__":Str))=false:=by decide)
  (d:starEach (e::es) X.env=(false,eval e X.env)::starEach es X.env:=by rfl) (b:(backTo pos (starEach es X.env)).any (·.1)=false:=by rfl):PE X (.Call (.Name x p) (e::es) [] pos) (qfK C sp [] E0 t):=by
 obtain⟨f,fd,F,M,hb⟩:=D.ex;show pe_make M F h g D.mg_ hb .nil qF c a d b
theorem qdR{pl:Sem Bool}(D:CMethOk X.prog X.w X.K X.mg X.base CX0 k C x m ps sp)(h:Room k X.A)(d:PA X (e::es) t)(g:Gl X x:=by rfl)(a:(x==("__debug__":Str))=false:=by decide)
  (c:starEach (e::es) X.env=(false,eval e X.env)::starEach es X.env:=by rfl) (b:(backTo pos (starEach es X.env)).any (·.1)=false:=by rfl)
  (i:eval (.Call (.Attribute (.Name x p) m apos) (e::es) [] pos) X.env=(do
   let ov <- eval (.Name x p) X.env
   standAt apos.atName
   let (f,first) <- holding [ov] (getMethod ov m pl)
   callWith pos f first (backTo pos (starEach (e::es) X.env)) (backToKw pos (keywordEach [] X.env))):=by rfl) :
  PE X (.Call (.Attribute (.Name x p) m apos) (e::es) [] pos) (qel sp [] E0 t):=by
 obtain⟨f,fd,F,M,hb⟩:=D.ex;show pe_clsm (pl:=pl) M F h g D.mg_ hb qF d a c b i
end
theorem own_eq_same{prog:Program}{w:World}{A:Around}{E:Value->Shared->Prop}{s:Shared}{K:yg}{x C:Addr}{ox:Obj}{od:Option Obj}{Q:Value->Shared->Prop}(l:A.units<cLine)(X:K.In s.heap)(I:PySem.W.InstAt s.heap x ox C od)
  (j:PySem.W.findIn K (.ref C) "__eq__"=some (some (.builtin "object.__eq__"))) (g:PySem.W.mroIn K C (.type "object")=some true) (h:Q (.bool true) s):wpAny (model prog w) A (richCompare .Eq (.ref x) (.ref x)) Q E s:=by
 have a:∀{f:Around} {d:Value->Shared->Prop},d (.bool true) s->wpAny (model prog w) f (call (.builtin "object.__eq__") [.ref x,.ref x]) d E s:=λ{f d} q=>by
  show xJ (xx PySem.F.slot_object_eq.plain PySem.F.entry_object_eq (@PySem.W.check_slot (model prog w) _ _ s "object.__eq__" "object" "__eq__" (.ref x) [.ref x] [] _ (by room) (by room) (I.type.andThen (xC X g)) (PySem.F.args_object_eq_2 _ _) ?_));show yt (yz (yt (wpAny_isSame_ref_self ?_)));show yz q
 have one:wpAny (model prog w) A (tryCompare (.ref x) "__eq__" (.ref x)) (λr s'=>∃ v,r=some v/\Q v s') E s:=by
  unfold tryCompare;show yt ?_;simp only[callSpecialIfBound?,bindSpecialIfBound?];show YG (yt (yt (yt (I.type.here ((YU X j).here ?_)))));show yt (kW (wpAny_ite ?_));have b:=PySem.F.slot_object_eq.bind (.ref x)
  have c:wpAny (model prog w) A (call (.builtin "object.__eq__") ([.ref x]++[.ref x])>>=λv=>pure (some v)) (λr s'=>wpAny (model prog w) A (match r with | some .notImplemented | none=>pure none | some v=>pure (some v)) (λr s'=>∃ v,r=some v/\Q v s') E s') E s:=
   yt (a (yz (yz ⟨_,rfl,h⟩)))
  split
  .show yt (xo b (yz c))
  .show wpAny_tryCatch (yt (xo b (yz c)))
 unfold richCompare;simp only[oneThing_ref];show YG (yt (wpAny_cRoomFor l ?_));show yt (I.type.here (yt (I.type.here ?_)));rw[yF (by simp)];show yt (yz ?_);simp only[xL,XU];show yt (YC one (λr s' z=>?_) λ_ _ e=>e);obtain⟨v,rfl,i⟩:=z;show yz i
structure OEq(K:yg)(C:Addr):Prop where
 eq:PySem.W.findIn K (.ref C) "__eq__"=some (some (.builtin "object.__eq__"))
 ob:PySem.W.mroIn K C (.type "object")=some true
def qg3(K:yg):R2:=λx y H Q=>qeh K false x y H Q\/∃ a C dx fs,x=.ref a/\y=.ref a/\H a=some (.ins C dx fs)/\OEq K C/\Q (.bl true) H
theorem k_eqW{X:Cx}{K:yg}(d:X.K=K)(e:X.A.units+100<cLine):OpR X (compareOp .Eq) (qg3 K):=by
 subst d;intro pins s σ H x y u v Q I b c h;rcases h with h | ⟨a,C,dx,fs,rfl,rfl,ea,oe,q⟩
 .show k_eqU rfl e pins s σ H x y u v Q I b c h
 .cases b;cases c;obtain⟨f,O,_⟩:=qa3 I.hok ea;obtain⟨od,J,_⟩:=O.look;show own_eq_same (by lk) I.kIn J oe.eq oe.ob ⟨.bl true,H,I,rfl,q⟩
theorem qK{X:Cx}:MtR X "list.append" rAppend:=mt_append
theorem qa6{X:Cx}:MtR X "list.extend" rExtend:=mt_extend
theorem mtR_popAt{X:Cx}:MtR X "list.pop" rPopAt:=mt_popAt
theorem boot_ValueError:bootBuiltins "ValueError"=some (.type "ValueError"):=by room
section
variable{D:Ends}{σ:St}{H:Hp}{Q:VK}{t u:TS}{te ta tb tc:TE}{tas:TA}{K:yg}{sp:Sp}{E:XK}{EK:St->XK}{C:Addr}{f m:Str}
theorem vFldU(h:ta σ H λx a=>FlUR K f x a Q):qgh K ta f σ H Q:=h
theorem vSFldU(h:te σ H λy a=>ta σ a λx b=>SFUR K f x y b (D.nx σ)):qgi K ta te f D σ H:=h
theorem vXMake(h:tas σ H λvs a=>vs.length<=1000/\∀ x,a x=none->sp (.ref x::vs) (upd a x (XN x C none)) (λv b=>v=.non/\Q (.ref x) b) E):qeA C sp E tas σ H Q:=h
theorem vMake(h:tas σ H λvs a=>∀ x dx,a x=none->a dx=none->dx≠x->sp (.ref x::(vs++[])) (upd (upd a dx (.own x)) x (.ins C dx [])) (λv b=>v=.non/\Q (.ref x) b) E):qfK C sp [] E tas σ H Q:=h
theorem vMeth(h:ta σ H λx a=>MeR C m x a (tas σ a λvs b=>sp (x::(vs++[])) b Q E)):qem C m sp [] E ta tas σ H Q:=h
theorem vVinit(h:tas σ H λvs b=>∃ a C y,vs=[.ref a,y]/\b a=some (XN a C none)/\XAt K C/\Q .non b):qfk K tas σ H Q:=h
theorem vCallS(h:tas σ H λvs a=>sp vs a Q (EK σ)):qfo sp EK tas σ H Q:=h
theorem vMethS(h:ta σ H λx a=>MeR C m x a (tas σ a λvs b=>sp (x::vs) b Q (EK σ))):qfp C m sp EK ta tas σ H Q:=h
theorem vMakeS(h:tas σ H λvs a=>∀ x dx,a x=none->a dx=none->dx≠x->sp (.ref x::vs) (upd (upd a dx (.own x)) x (.ins C dx [])) (λv b=>v=.non/\Q (.ref x) b) (EK σ)):qfq C sp EK tas σ H Q:=h
theorem vRaise(h:te σ H λx b=>∃ a C dx,x=.ref a/\b a=some (XN a C dx)/\XAt K C/\EK σ (.ref C) dx (upd b a (XO a C dx))):qfn K EK te D σ H:=h
theorem qa7{x y:V}{t a:Value}{b:Bool}(ty:TyX K H x t)(c:qcQ y=some a)(hb:PySem.W.kitOne K t a=some b)(h:Q (.bl b) H):qgk K [x,y] H Q:=⟨x,y,t,a,b,rfl,ty,c,hb,h⟩
end
section
variable{prog:Program}{w:World}{A:Around}{E:Value->Shared->Prop}{s:Shared}
theorem none_dict{a:Addr}{Q:Value->Shared->Prop}(d:s.TypeIs (.ref a) "dict")(e:A.units<cLine)(h:Q (.bool false) s):wpAny (model prog w) A (richCompare .Eq .none (.ref a)) Q E s:=by
 show SeqAt.rc_eq_decline_or (k:=false) rfl d (by decide) PySem.F.sub_dict_NoneType Y8 PySem.F.slot_dict_eq_refl
  (λ_ c=>call_gives Y8 rfl PySem.F.entry_NoneType_eq (PySem.F.args_NoneType_eq_2 _ _) (SeqAt.NoneType___eq___none_ref_0 a) c) (λf c=>?_) (λ_ c=>xo (rfl:isSame .none (.ref a)=pure false) c) (.inr e) h
 show wpAny_call_entry PySem.F.slot_dict_eq_refl d PySem.F.entry_dict_eq ?_ (PySem.F.args_dict_eq_2 _ _);show wpAny _ _ (Builtin.Dict.dictSlotArgs "__eq__" ⟨[.ref a,.none],[]⟩>>=_) _ _ s;show yt ?_;unfold Builtin.Dict.dictSlotArgs;show yt (wpAny_notOrdered_dict d ?_);show wpAny _ _ (pure (Value.ref a,Value.none)) _ _ s;show yz ?_;show yt (wpAny_isInstance (T:="NoneType") (b:=false) rfl PySem.F.sub_NoneType_dict ?_);simp only[Bool.not_false,Xy];show yt (Kb (yz ⟨_,rfl,c⟩))
theorem none_own{K:yg}{x C:Addr}{ox:Obj}{od:Option Obj}{Q:Value->Shared->Prop}(i:A.units<cLine)(X:K.In s.heap)(I:PySem.W.InstAt s.heap x ox C od)(f:OEq K C)(g:PySem.W.mroIn K C (.type "NoneType")=some false)
  (h:Q (.bool false) s):wpAny (model prog w) A (richCompare .Eq .none (.ref x)) Q E s:=by
 have j:wpAny (model prog w) A (tryCompare .none "__eq__" (.ref x)) (λr s'=>r=none/\s'=s) E s:=by
  unfold tryCompare;show yt ?_;simp only[callSpecialIfBound?,bindSpecialIfBound?];show YG (yt (yt ?_));show yt (xo (rfl:typeOf .none=pure (.type "NoneType")) ?_);show xo Y8.lookup ?_;show yt (kW (wpAny_ite ?_))
  have a:wpAny (model prog w) A (call (.builtin "NoneType.__eq__") ([.none]++[.ref x])>>=λv=>pure (some v)) (λr s'=>wpAny (model prog w) A (match r with | some .notImplemented | none=>pure none | some v=>pure (some v)) (λr s'=>r=none/\s'=s) E s') E s:=
   yt (call_gives Y8 rfl PySem.F.entry_NoneType_eq (PySem.F.args_NoneType_eq_2 _ _) (SeqAt.NoneType___eq___none_ref_0 x) (yz (yz ⟨rfl,rfl⟩)))
  split
  .show yt (xo (Y8.bind .none) (yz a))
  .show wpAny_tryCatch (yt (xo (Y8.bind .none) (yz a)))
 have l:wpAny (model prog w) A (tryCompare (.ref x) "__eq__" .none) (λr s'=>r=none/\s'=s) E s:=by
  unfold tryCompare;show yt ?_;simp only[callSpecialIfBound?,bindSpecialIfBound?];show YG (yt (yt (yt (I.type.here ((YU X f.eq).here ?_)))));show yt (kW (wpAny_ite ?_));have b:=PySem.F.slot_object_eq.bind (.ref x)
  have c:∀{d:Value->Shared->Prop},d .notImplemented s->wpAny (model prog w) A (call (.builtin "object.__eq__") [.ref x,.none]) d E s:=λ{d} q=>by
   show xJ (xx PySem.F.slot_object_eq.plain PySem.F.entry_object_eq (@PySem.W.check_slot (model prog w) _ _ s "object.__eq__" "object" "__eq__" (.ref x) [.none] [] _ (by room) (by room) (I.type.andThen (xC X f.ob)) (PySem.F.args_object_eq_2 _ _) ?_));show yt (yz (yt (xo (rfl:isSame (.ref x) .none=pure false) ?_)));show yz q
  have a:wpAny (model prog w) A (call (.builtin "object.__eq__") ([.ref x]++[.none])>>=λv=>pure (some v)) (λr s'=>wpAny (model prog w) A (match r with | some .notImplemented | none=>pure none | some v=>pure (some v)) (λr s'=>r=none/\s'=s) E s') E s:=
   yt (c (yz (yz ⟨rfl,rfl⟩)))
  split
  .show yt (xo b (yz a))
  .show wpAny_tryCatch (yt (xo b (yz a)))
 unfold richCompare;show YG (yt (wpAny_cRoomFor i ?_));show wpAny _ _ (typeOf .none>>=_) _ _ _;show yt (xo (rfl:typeOf .none=pure (.type "NoneType")) (yt (I.type.here ?_)));rw[yG (by rfl)];show yt ((xC X g).here ?_);simp only[xL,XU];show yt (YC j (λr s' z=>?_) λ_ _ e=>e);obtain⟨rfl,rfl⟩:=z;simp only[Bool.not_false,Xy];show yt (YC l (λr s' z=>?_) λ_ _ e=>e);obtain⟨rfl,rfl⟩:=z;show yt (Kb (yt (xo (rfl:isSame .none (.ref x)=pure false) (yz h))))
end
def rNoneRef(K:yg):R2:=λx y H Q=>∃ a,x=.non/\y=.ref a/\((∃ xs,SqL K H a xs\/SqT K H a xs)\/(∃ kvs,H a=some (.dK kvs))\/∃ C dx fs,H a=some (.ins C dx fs)/\OEq K C/\PySem.W.mroIn K C (.type "NoneType")=some false)/\Q (.bl false) H
def qg4(K:yg):R2:=λx y H Q=>qg3 K x y H Q\/rNoneRef K x y H Q
theorem zn{X:Cx}{K:yg}(e:X.K=K)(j:X.A.units+100<cLine):OpR X (compareOp .Eq) (qg4 K):=by
 intro pins s σ H x y u v Q I f g h;rcases h with h | ⟨a,rfl,rfl,h,q⟩
 .show k_eqW e j pins s σ H x y u v Q I f g h
 .subst e;cases f;cases g;have b:EP X pins σ Q (.bool false) s:=⟨.bl false,H,I,rfl,q⟩;rcases h with⟨xs,hl | hl⟩ | ⟨kvs,c⟩ | ⟨C,dx,fs,c,l,i⟩
  .obtain⟨its,r,pl,_⟩:=I.list hl;show SeqAt.RcAt.none_list pl.isList (by lk) _ _ _ _ b
  .obtain⟨its,r,pl,_⟩:=I.tuple hl;show SeqAt.RcAt.none_tuple pl (by lk) _ _ _ _ b
  .obtain⟨_,_,vs,_,d⟩:=(show ObjOk X.prog X.w H s.heap a (.dK kvs) from I.hok a _ c);show none_dict d.typeIs (by lk) b
  .obtain⟨m,O,_⟩:=qa3 I.hok c;obtain⟨od,J,_⟩:=O.look;show none_own (by lk) I.kIn J l i b
def XL(K:yg)(C:Addr)(d:List Value):Prop:=∃ nm l N bs a sn sub c b e f g h i j,K.lookup C=some (excClassObj nm l C N bs d a sn sub c b e f g h i j "ValueError.__new__")
section
variable{K:yg}{C D:Addr}{bm bn:List Value}
theorem XL.xat(x:XL K C bm)(hb:qcA bm=true)
  (g:PySem.W.findIn K (.ref C) "__getattribute__"=some (some (.builtin "BaseException.__getattribute__"))) (h:PySem.W.findIn K (.ref C) "__getattr__"=some none)
  (b:PySem.W.mroIn K C (.type "BaseException")=some true) (j:PySem.W.mroIn K C (.type "object")=some true) (i:PySem.W.hasDictIn K C=true) (d:PySem.W.findIn K (.ref C) "__class__"=some (some (.builtin "object.__class__")))
  (c:PySem.W.specialIn K (.builtin "object.__class__") "__get__"=some (some (.builtin "getset_descriptor.__get__"))) (ct:PySem.W.takesIn K (.builtin "object.__class__")=some true)
  (l:PySem.W.findIn K (.ref C) "__setattr__"=some (some (.builtin "object.__setattr__"))):XAt K C:=by
 obtain⟨nm,t,N,bs,a,sn,sub,m,f,n,o,p,q,r,s,e⟩:=x;show⟨g,h,b,j,i,d,c,ct,l,?_,?_⟩
 .unfold PySem.W.clsIn;rw[e];show hb
 .unfold qgz;rw[e];simp[hb]
theorem XL.kit(x:XL K C bm)(y:XL K D bn):PySem.W.kitOne K (.ref C) (.ref D)=some ((Value.ref C::bm).contains (.ref D)):=by
 obtain⟨nm,I,N,bs,d,sn,sub,w,i,A,B,E,F,G,H,e⟩:=x;obtain⟨q,t,v,h,a,u,f,g,b,j,l,m,n,o,p,c⟩:=y;unfold PySem.W.kitOne PySem.W.kitCls;split
 .rename_i z
  have z:C=D:=km (Yl.mp z);subst z;simp
 .dsimp only;have r:(PySem.W.clsIn K D).isSome=true:=by unfold PySem.W.clsIn;rw[c];rfl
  have s:(PySem.W.typeIn K (.ref D)==some (.type "type"))=true:=by show((K.lookup D).map (·.cls)==_)=true;rw[c];rfl
  rw[yG (by rw[r,s];rfl)];unfold PySem.W.subIn PySem.W.mroIn PySem.W.clsIn;dsimp only;rw[e];rfl
theorem XL.kitT(x:XL K C bm){T:String}(h:PySem.W.kitMeta T=true):PySem.W.kitOne K (.ref C) (.type T)=some (bm.contains (.type T)):=by
 obtain⟨nm,m,N,bs,a,sn,sub,c,b,d,f,g,i,j,l,e⟩:=x;unfold PySem.W.kitOne PySem.W.kitCls;split
 .rename_i z
  show absurd (Yl.mp z) nofun
 .dsimp only;rw[yG h];unfold PySem.W.subIn PySem.W.mroIn PySem.W.clsIn;dsimp only;rw[e];show some ((Value.ref C::bm).contains _)=_;rw[Yw];rfl
abbrev qcm:List Value:=[.type "ValueError",.type "Exception",.type "BaseException",.type "object"]
theorem qeD:qcA qcm=true:=by decide
theorem qdj{c:Addr}:qcA (.ref c::qcm)=true:=qeD
theorem kits{K:yg}{a:LX}{c:Addr}(n:(a++[c]).Nodup)(h:∀ i,i<a.length->XL K (a.getD i c) (.ref c::qcm))(hc:XL K c qcm) :
  (∀ i j,i<a.length->j<a.length->PySem.W.kitOne K (.ref (a.getD i c)) (.ref (a.getD j c))=some (decide (i=j)))/\(∀ i,i<a.length+1->PySem.W.kitOne K (.ref (a.getD i c)) (.ref c)=some true) /\
  (∀ i,i<a.length+1->PySem.W.kitOne K (.ref (a.getD i c)) (.type "ValueError")=some true)/\∀ j,j<a.length->PySem.W.kitOne K (.ref c) (.ref (a.getD j c))=some false:=by
 have m:∀(j:Nat) (b:j<a.length),a.getD j c=a[j]:=λj b=>by simp[List.getD,b]
 have hl:a.getD a.length c=c:=by simp
 have g:∀ j,j<a.length->c≠a.getD j c:=λj b e=>by
  have s:=(Yg.mp n).2.2 (a.getD j c) (by rw[m j b];show Xe b) c (by simp);show s e.symm
 show⟨λi j f b=>?_,λi f=>?_,λi f=>?_,λj b=>?_⟩
 .rw [(h i f).kit (h j b)]
  congr 1
  rw[Yw,Yw];have l:((Value.ref (a.getD j c))==Value.ref c)=false:=YB.mpr λe=>g j b (km e).symm;have p:List.contains qcm (Value.ref (a.getD j c))=false:=rfl;rw[l,p];by_cases d:i=j
  .subst d;simp
  .have r:((Value.ref (a.getD j c))==Value.ref (a.getD i c))=false:=YB.mpr λe=>by
    have e:=km e;rw[m i f,m j b] at e;have o:=YL.mp (Yg.mp n).1;rcases Nat.lt_or_gt_of_ne d with q | q
    .show o i j f b q e.symm
    .show o j i b f q e
   rw[r];simp[d]
 .rcases Nat.lt_or_ge i a.length with hi' | hi'
  .rw [(h i hi').kit hc,Yw,Yw];simp
  .have:i=a.length:=by lk
   subst this;rw[hl,hc.kit hc];simp
 .rcases Nat.lt_or_ge i a.length with hi' | hi'
  .rw [(h i hi').kitT (by room)];rfl
  .have:i=a.length:=by lk
   subst this;rw[hl,hc.kitT (by room)];rfl
 .rw [hc.kit (h j b),Yw];have l:((Value.ref (a.getD j c))==Value.ref c)=false:=YB.mpr λe=>g j b (km e).symm;rw[l];rfl
end
end L2
namespace HT
open PySem PySem.Spec PyProof.Rows
section
variable{prog:Program}{w:World}{A:Around}{E:Value->Shared->Prop}{s:Shared}
end
end HT
namespace L2
open PySem PySem.Spec PyProof.Rows
variable{H:Hp}{σ:St}
def tRev(K:yg)(d:TE)(e:TO):TE:=fun σ H Q=>d σ H λx c=>e σ c λo b=>o=some (-1)/\∃ a y z,x=.ref a/\SqT K b a [y,z]/\∀ p,b p=none->Q (.ref p) (upd b p (.tup [z,y]))
theorem vRev{K:yg}{c:TE}{d:TO}{Q:VK}(h:c σ H λx e=>d σ e λo b=>o=some (-1)/\∃ a y z,x=.ref a/\SqT K b a [y,z]/\∀ p,b p=none->Q (.ref p) (upd b p (.tup [z,y]))):tRev K c d σ H Q:=h
section
variable{X:Cx}{K:yg}{e st:Expr}{te:TE}{ts:TO}{p2 pos:Pos}
def rTupleU(K:yg):List V->Hp->VK->Prop:=λxs H Q=>∃ p a,xs=[.ref p]/\((SqL K H p a/\∀ l,H l=none->Q (.ref l) (upd H l (.tup a)))\/(SqT K H p a/\Q (.ref p) H))
theorem k_tupleU(a:X.K=K):zI X (.type "tuple") (rTupleU K):=by subst a;show call_tuple_of
end
def Ite(K:yg)(a:Addr):It:=
 ⟨λi H=>∃ xs x,SqL K H a xs/\xs[i]?=some x,λi H x H'=>∃ t y,x=.ref t/\H t=none/\H'=upd H t (.tup [.int i,y])/\∀ xs,SqL K H a xs->xs[i]?=some y,λi H=>∃ xs,SqL K H a xs/\xs.length<=i⟩
def iEnum(K:yg)(c:TA):TI:=fun σ H R=>c σ H λvs b=>∃ a xs,vs=[.ref a]/\SqL K b a xs/\R (Ite K a) b
theorem vEnum{K:yg}{b:TA}{R:It->Hp->Prop}(h:b σ H λvs c=>∃ a xs,vs=[.ref a]/\SqL K c a xs/\R (Ite K a) c):iEnum K b σ H R:=h
section
variable{X:Cx}
end
end L2
namespace L2
open PySem PySem.Spec PyProof.Rows PySem.Builtin PySem.Builtin.Str
theorem vDGet2{e ty f:TE}{b:St}{H:Hp}{Q:VK}(h:e b H λx c=>∃ a,x=.ref a/\IsD c a/\ty b c λy g=>f b g λz d=>∃ o,DGet d a y o/\Q (o.getD z) d):tDGet2 e ty f b H Q:=h
end L2
namespace L2
open PySem PySem.Spec PyProof.Rows
theorem eqV_strD(a b:Str):eqV (.str a) (.str b)=decide (a=b):=by
 have e:eqV (.str a) (.str b)=(a==b):=by simp[eqV]
 rw[e,Y9,Yl,yR]
theorem qcV:∀(c:LS) (y:Str) (m:Nat) (b:m<c.length),m<c.idxOf y->c[m]≠y
 | [],_,_,b,_=>by simp at b
 | a::r,y,m,b,h=>by
  rw[List.idxOf_cons] at h;by_cases e:a=y
  .subst e;simp at h
  .have hb:(a==y)=false:=YB.mpr e;rw[hb] at h
   cases m with
   | zero=>show e
   | succ k =>
    have d:k<r.idxOf y:=by
     have h:k+1<r.idxOf y+1:=h;lk
    show qcV r y k (by simpa using b) d
section
variable{X:Cx}{K:yg}
def rIndex(K:yg):V->List V->Hp->VK->Prop:=λx vs H Q=>∃(p:Addr) (a:LS) (y:Str),x=.ref p/\vs=[.str y]/\SqL K H p (a.map V.str)/\y∈a/\Q (.int (a.idxOf y:Nat)) H
theorem qaE(C:X.K=K):MtR X "list.index" (rIndex K):=by
 subst C;intro A s P H x vs v us Q I M L h;obtain⟨p,b,y,rfl,rfl,D,G,q⟩:=h;cases M;obtain⟨u,rfl,J⟩:=L.one;obtain⟨a,r,pl,z⟩:=I.list D;obtain⟨⟨cls,B,data,N⟩,t,hc,n,o⟩:=id pl.isList;simp only at hc o;subst hc o;have fs:(b.map V.str).all qay=true:=by rw[Kc];show YY.mpr λ_ _=>rfl
 have c:(b.map V.str).length=a.length:=r.length;rw[ya] at c;have f:b.idxOf y<b.length:=List.idxOf_lt_length_iff.mpr G
 have at_:∀(m:Nat) (j:m<b.length) (d:m<a.toArray.size),eqU (.str y) a.toArray[m]=decide (b[m]=y):=λm j d=>by
  have g:(b.map V.str)[m]?=some (.str b[m]):=by rw[yd,yb j];rfl
  obtain⟨w,hw,l⟩:=r.get g
  have e:a.toArray[m]=w:=by
   have:a.toArray[m]?=some w:=by simpa using hw
   rw[Array.getElem?_eq_getElem d] at this;show yn this
  rw[e,qer l rfl,eqV_strD]
 have O:b.length<=sizeLine:=by rw[ya] at z;show z
 have E:sizeLine<2 ^ 63-1:=by decide
 show kH YI ⟨_,t,rfl⟩ PySem.F.entry_list_index (PySem.F.args_list_index_2 _ _)
  (SeqAt.list_indexAt p a.toArray n B N u (eqU (.str y)) (b.idxOf y) (by simpa [<- c] using f) (by lk) ?_ ?_) ⟨t,λw hw=>qaq J rfl r fs w (by simpa using hw),.int _,H,I.tok _,⟨_,rfl⟩,q⟩
 .rw [at_ _ f];show yA (Yx f)
 .intro m j i;rw[at_ m (by lk)];show ym λe=>qcV b y m (by lk) i e
end
theorem qag(xs:List V)(k:Nat):qb9 xs none (some (k:Int))=xs.take k:=by
 unfold qb9;rw[HT.sIx_none,HT.sIx_nat,Kl,Kq];by_cases h:k<=xs.length
 .rw [Kh h]
 .rw [kX (by lk),YM (yh _),YM (by lk)]
theorem qbU(xs:List V)(k:Nat):qb9 xs (some (k:Int)) none=xs.drop k:=by
 unfold qb9;rw[HT.sIx_none,HT.sIx_nat];by_cases h:k<=xs.length
 .rw [Kh h,YM (by rw[YA];lk)]
 .rw [kX (by lk),kY,List.drop_of_length_le (by lk)];simp
section
variable{X:Cx}{K:yg}
end
end L2
namespace HT
open PySem PySem.Spec PyProof.Rows
section
variable{prog:Program}{w:World}{A:Around}{E:Value->Shared->Prop}{s:Shared}
end
end HT
namespace L2
open PySem PySem.Spec PyProof.Rows
def tStep(K:yg)(e:TE)(f:TO):TE:=λc H Q=>e c H λx d=>f c d λo b=>∃ a y z,x=.ref a/\SqT K b a [y,z]/\((o=some (-1)/\∀ p,b p=none->Q (.ref p) (upd b p (.tup [z,y])))\/(o=some 1/\Q (.ref a) b))
theorem vStep{K:yg}{d:TE}{e:TO}{c:St}{H:Hp}{Q:VK}(h:d c H λx f=>e c f λo b=>∃ a y z,x=.ref a/\SqT K b a [y,z]/\((o=some (-1)/\∀ p,b p=none->Q (.ref p) (upd b p (.tup [z,y])))\/(o=some 1/\Q (.ref a) b))):tStep K d e c H Q:=h
section
variable{X:Cx}{K:yg}{e st:Expr}{te:TE}{ts:TO}{p2 pos:Pos}
end
def FG(K:yg)(nm:Str)(st:Stmt):Prop:=∃ f a,PySem.W.nsIn K mainGlobals nm=some (some (.ref f))/\Fun K nm nm st f a
def FM(K:yg)(C:Addr)(m b:Str)(st:Stmt):Prop:=∃ f a,PySem.W.findIn K (.ref C) m=some (some (.ref f))/\PySem.W.isFn K (.ref f)=true/\Fun K m b st f a
def FC(K:yg)(C:Addr)(m b:Str)(st:Stmt):Prop:=∃ f a,PySem.W.findCls K (.ref C) (.type "type") m=some (.val (.ref f))/\Fun K m b st f a
structure XQ(K:yg)(C:Addr):Prop where
 xa:PySem.W.findIn K (.ref C) "__getattribute__"=some (some (.builtin "BaseException.__getattribute__"))
 xb:PySem.W.findIn K (.ref C) "__getattr__"=some none
 xd:PySem.W.mroIn K C (.type "BaseException")=some true
 xe:PySem.W.mroIn K C (.type "object")=some true
 xf:PySem.W.hasDictIn K C=true
 xg:PySem.W.findIn K (.ref C) "__class__"=some (some (.builtin "object.__class__"))
 xh:PySem.W.findIn K (.ref C) "__setattr__"=some (some (.builtin "object.__setattr__"))
 p:PySem.W.keepIn K (.ref C)=true
section
variable{P:Program}{w:World}{K:yg}{mg:Str->Option Value}{base h:Heap}{CX:CXT}{k:Nat}{sp:Sp}{st:Stmt}{f:Addr}{fd:FuncData}{ps:LS}{nm m ql x:Str}{C:Addr}
theorem lN0{P:List Value->Prop}(h:P []):∀ us:List Value,us.length=0->P us:=λus e=>by rw[List.eq_nil_of_length_eq_zero e];show h
theorem lNs{P:List Value->Prop}{n:Nat}(h:∀ a r,r.length=n->P (a::r)):∀ us:List Value,us.length=n+1->P us:=λus e=>by
 cases us with
 |nil=>cases e
 |cons a r=>show h a r (Nat.succ.inj e)
theorem lN1{P:List Value->Prop}(h:∀ a,P [a]):∀ us:List Value,us.length=1->P us:=lNs λa=>lN0 (h a)
theorem lN2{P:List Value->Prop}(h:∀ a b,P [a,b]):∀ us:List Value,us.length=2->P us:=lNs λa=>lN1 (h a)
theorem lN3{P:List Value->Prop}(h:∀ a b c,P [a,b,c]):∀ us:List Value,us.length=3->P us:=lNs λa=>lN2 (h a)
theorem lN4{P:List Value->Prop}(h:∀ a b c d,P [a,b,c,d]):∀ us:List Value,us.length=4->P us:=lNs λa=>lN3 (h a)
theorem lN5{P:List Value->Prop}(h:∀ a b c d e,P [a,b,c,d,e]):∀ us:List Value,us.length=5->P us:=lNs λa=>lN4 (h a)
theorem lN6{P:List Value->Prop}(h:∀ a b c d e g,P [a,b,c,d,e,g]):∀ us:List Value,us.length=6->P us:=lNs λa=>lN5 (h a)
theorem lN7{P:List Value->Prop}(h:∀ a b c d e g i,P [a,b,c,d,e,g,i]):∀ us:List Value,us.length=7->P us:=lNs λa=>lN6 (h a)
abbrev BA(x ql:Str)(st:Stmt)(ps:LS):Prop:=∀(kV b d:Value) (c:Option Addr) (a ct:Value) (us:List Value),us.length=ps.length->bindArgs (PySem.W.fnOf x ql (qaD st) (zS st) (qh st) .none kV b d c a ct) ⟨us,[]⟩=pure (ps.zip us)
theorem fg_mk(X:K.In h)(G:h.Ns mainGlobals mg)(a:PySem.W.nsIn K mainGlobals nm=some (some (.ref f)))(F:Fun K nm nm st f fd)(o:FnOk P w K mg base CX k f fd ps sp)
  (hb:BA nm nm st ps:=by first | (show λ_ _ _ _ _ _=>lN1 λ_=>rfl) | (show λ_ _ _ _ _ _=>lN2 λ_ _=>rfl) | (show λ_ _ _ _ _ _=>lN3 λ_ _ _=>rfl) | (show λ_ _ _ _ _ _=>lN4 λ_ _ _ _=>rfl)) :
  DefOk P w K mg base CX k nm ps sp:=⟨_,_,o,kR X G a,F.kp,F.binds hb⟩
theorem fm_mk(b:Cls K C)(a:PySem.W.findIn K (.ref C) m=some (some (.ref f)))(n:PySem.W.isFn K (.ref f)=true)(F:Fun K m ql st f fd)(o:FnOk P w K mg base CX k f fd ps sp)
  (hb:BA m ql st ps:=by first | (show λ_ _ _ _ _ _=>lN1 λ_=>rfl) | (show λ_ _ _ _ _ _=>lN2 λ_ _=>rfl) | (show λ_ _ _ _ _ _=>lN3 λ_ _ _=>rfl) | (show λ_ _ _ _ _ _=>lN4 λ_ _ _ _=>rfl)) :
  MethOk P w K mg base CX k C m ps sp:=⟨⟨_,_,o,⟨a,n,F.kp⟩,F.binds hb⟩,b⟩
theorem fw_mk(X:K.In h)(G:h.Ns mainGlobals mg)(c:PySem.W.nsIn K mainGlobals x=some (some (.ref C)))(b:PySem.W.makesIn K C=true)(d:PySem.W.keepIn K (.ref C)=true)(a:PySem.W.findIn K (.ref C) "__init__"=some (some (.ref f)))(n:PySem.W.isFn K (.ref f)=true)(F:Fun K "__init__" ql st f fd)(o:FnOk P w K mg base CX k f fd ps sp)
  (hb:BA "__init__" ql st ps:=by first | (show λ_ _ _ _ _ _=>lN1 λ_=>rfl) | (show λ_ _ _ _ _ _=>lN2 λ_ _=>rfl) | (show λ_ _ _ _ _ _=>lN3 λ_ _ _=>rfl)) :
  MakeOk P w K mg base CX k C x ps sp:=⟨⟨_,_,o,⟨b,a,n,d⟩,F.binds hb⟩,kR X G c⟩
theorem qgl(X:K.In h)(G:h.Ns mainGlobals mg)(c:PySem.W.nsIn K mainGlobals x=some (some (.ref C)))(Y:XAt K C)(q:XQ K C)(a:PySem.W.findIn K (.ref C) "__init__"=some (some (.ref f)))(n:PySem.W.isFn K (.ref f)=true)(F:Fun K "__init__" ql st f fd)(o:wqP k f fd ps sp)
  (hb:BA "__init__" ql st ps:=by first | (show λ_ _ _ _ _ _=>lN1 λ_=>rfl) | (show λ_ _ _ _ _ _=>lN2 λ_ _=>rfl)) :
  XMakeOk P w K mg base k C x ps sp:=⟨⟨_,_,o,⟨Y,a,n,q.p⟩,F.binds hb⟩,kR X G c⟩
theorem fc_mk(X:K.In h)(G:h.Ns mainGlobals mg)(c:PySem.W.nsIn K mainGlobals x=some (some (.ref C)))(a:PySem.W.readsIn K C (.type "type")=true)(b:PySem.W.findCls K (.ref C) (.type "type") m=some (.val (.ref f)))(d:PySem.W.specialIn K (.ref C) "__getattribute__"=some (some (.builtin "type.__getattribute__")))(F:Fun K m ql st f fd)(o:FnOk P w K mg base CX k f fd ps sp)
  (hb:BA m ql st ps:=by(show λ_ _ _ _ _ _=>lN2 λ_ _=>rfl)) :
  CMethOk P w K mg base CX k C x m ps sp:=⟨⟨_,_,o,⟨a,b,d,F.kp⟩,F.binds hb⟩,kR X G c⟩
theorem qfb{c:List Value}(x:XL K C c)(hb:qcA c=true)(q:XQ K C)(a:PySem.W.specialIn K (.builtin "object.__class__") "__get__"=some (some (.builtin "getset_descriptor.__get__")))(b:PySem.W.takesIn K (.builtin "object.__class__")=some true):XAt K C:=x.xat hb q.xa q.xb q.xd q.xe q.xf q.xg a b q.xh
end
end L2
namespace HT
open PySem PySem.Spec PyProof.Rows
section
variable{prog:Program}{w:World}{A:Around}{E:Value->Shared->Prop}{s:Shared}
end
end HT
namespace L2
open PySem PySem.Spec PyProof.Rows
variable{H:Hp}{te:TE}{σ:St}
section
variable{X:Cx}{K:yg}{pos p:Pos}{x:Str}
end
section
variable{X:Cx}{K:yg}{e lo st:Expr}{te:TE}{tl ts:TO}{p2 pos:Pos}
def qg5(K:yg)(te:TE):TI:=fun σ H R=>te σ H λv b=>∃ a xs,v=.ref a/\SqL K b a xs/\R (Itl K a) b
theorem qcW{K:yg}{R:It->Hp->Prop}(h:te σ H λv b=>∃ a xs,v=.ref a/\SqL K b a xs/\R (Itl K a) b):qg5 K te σ H R:=h
theorem qbj{u:Expr}(l:X.K=K)(m:PE X e te):PI X u e (qg5 K te):=by
 subst l;intro c s σ H R I h;show thn (m c s σ H _ I h) λv d ⟨y,g,f,t,a,xs,i,n,q⟩=>?_;subst i;cases t
 have j:∀ b∈[d.heap.objs.size],qea X c g b:=λb hb=>by
  have e:b=d.heap.objs.size:=by simpa using hb
  subst e;show f.fpOk (yh _) (f.hok.fresh (yh _))
 obtain⟨r,x,p,w⟩:=f.list n;show XV p.isList ⟨d.heap.objs.size,[d.heap.objs.size],_,_,g,rfl,f.kept (t':=d.toks) λb o e=>yy _ e,qcC a _,⟨_,Yd _ rfl,rfl,rfl⟩,j,q⟩
end
def qg6(K:yg)(te:TE)(d:TO):TE:=fun σ H Q=>te σ H λx c=>d σ c λo b=>o=some (-1)/\∃ a xs,x=.ref a/\SqL K b a xs/\∀ p,b p=none->Q (.ref p) (upd b p (.lst xs.reverse))
theorem qg7{K:yg}{c:TO}{Q:VK}(h:te σ H λx d=>c σ d λo b=>o=some (-1)/\∃ a xs,x=.ref a/\SqL K b a xs/\∀ p,b p=none->Q (.ref p) (upd b p (.lst xs.reverse))):qg6 K te c σ H Q:=h
theorem qdS:∀{xs:List V} {us:List Value},Vals xs us->Vals xs.reverse us.reverse
 | _,_,.nil=>.nil
 | _,_,.cons r t=>by
  rw[List.reverse_cons,List.reverse_cons];show(qdS t).append (.cons r .nil)
section
variable{X:Cx}{K:yg}{e st:Expr}{te:TE}{ts:TO}{p2 pos:Pos}
theorem qfv(u:X.K=K)(y:PE X e te)(z:PO X (some st) ts):PE X (.Subscript e (.Slice none none (some st) p2) pos) (qg6 K te ts):=by
 subst u;intro c s σ H Q I h;show Subscript_ (thn (y c s σ H _ I h) λv J ⟨x,l,n,G,F⟩=>?_);show wpAny_Slice ?_;rw[evalPart_none];show yz ?_;show yz ?_;show thn (z c J σ l _ n F) λj d ⟨o,m,p,pt,t,a,xs,ex,B,q⟩=>?_;subst t ex;cases G;have f:Inv X c σ m { d with heap:=d.heap.push { cls:=.type "slice",data:=.fields #[.none,.none,j] } }:=p.kept (t':=d.toks) λb E q=>yy _ q;obtain⟨D,r,i,C⟩:=f.list B;have g:=r.length;show wpAny (model X.prog X.w) X.A (subscriptTail e (.Slice none none (some st) p2) (.ref a) (.ref d.heap.objs.size)) (EP X c σ Q) X.xe { d with heap:=d.heap.push { cls:=.type "slice",data:=.fields #[.none,.none,j] } };show tail_any (ops:=[.ref a,.ref d.heap.objs.size]) i.isList.typeIs kM.lookup (wpAny_getItem_list_slice i.isList (Heap.IsSliceOf.new ..) .none .none pt (by decide) ?_ (by rw[yD]<;>lk)) (by with_unfolding_all rfl);rw[PySem.W.krv_pick];show⟨.ref _,_,f.laid (t':=d.toks) (o:=.lst xs.reverse) (λb E q=>yy _ q) (yh _) ?_,rfl,q _ (f.hok.fresh (yh _))⟩;show⟨by rw[YH];show C,_,0,qdS r,Yd _ rfl⟩
end
section
variable{X:Cx}{a:Expr}{ta:TA}{p p2 pos pos2:Pos}
end
end L2
namespace L2
structure Sb(V:Nat->Prop):Prop where
 z:V 0
 a:∀ x y,V x->V y->V (x ^^^ y)
def jn(V:Nat->Prop)(x:Nat):Nat->Prop:=λy=>V y\/V (y ^^^ x)
def Spn:LN->Nat->Prop
 | []=>λy=>y=0
 | a::L=>jn (Spn L) a
open Classical in
def Bnd(b n v:Nat):Prop:=∀ i,v.testBit i=true->b<=i/\i<b+n
open Classical in
def swp:Nat->Nat->LN->Nat
 | 0,_,_=>0
 | n+1,b,L=>match L.filter (λv=>v.testBit b) with
  | []=>swp n (b+1) L
  | p::t=>1+swp n (b+1) (L.filter (λv=>!v.testBit b)++t.map λv=>v ^^^ p)
open Classical in
def rk(L:LN):Nat:=swp 30 0 L
open Classical in
def les:Nat×Nat->List (Nat×Nat)->Nat×Nat
 | s,[]=>s
 | s,o::os=>if s.1 ^^^ o.1<s.1 then les (s.1 ^^^ o.1,s.2 ^^^ o.2) os else les s os
structure Ech(os:List (Nat×Nat)):Prop where
 nz:∀ o∈os,o.1≠0
 pw:os.Pairwise λa b=>b.1.testBit a.1.log2=false
def csm:LN->Nat->Nat->Nat
 | [],_,_=>0
 | a::L,k,c=>(if c.testBit k then a else 0) ^^^ csm L (k+1) c
def stp(st:List (Nat×Nat))(n v:Nat):List (Nat×Nat):=if (les (v,1 <<< n) st).1=0 then st else st++[les (v,1 <<< n) st]
structure Stp(L:LN)(n:Nat)(st:List (Nat×Nat)):Prop where
 ech:Ech st
 sum:∀ o∈st,csm L 0 o.2=o.1
 low:∀ o∈st,o.2<2 ^ n
 lt:∀ o∈st,o.1<2 ^ 30
 spn:∀ v,Spn (st.map (·.1)) v↔Spn (L.take n) v
 free:st.map (λo=>o.2.log2)=(List.range n).filter λi=>decide (rk (L.take i)<rk (L.take (i+1)))
 len:st.length<=n
end L2
namespace L2
open PySem PySem.Spec PyProof.Rows
variable{j n:Nat}
section
variable{X:Cx}
end
def Fl:V->Prop
 | .non=>True
 | .bl _=>True
 | .int i=>-999999999999<=i/\i<=999999999999
 | _=>False
def fD:V->PyData
 | .non=>.none
 | .bl b=>.bool b
 | .int i=>.int i
 | .str x=>.str x
 | _=>.none
def FlS(xs:List V):Prop:=xs.length<=1000/\∀ x∈xs,Fl x
def ShwT(H:Hp)(v:V)(t:Str):Prop:=match v with
 | .non=>t="None"
 | .bl b=>t=if b then Str.ofString "True" else Str.ofString "False"
 | .int i=>i.natAbs.log2<1920/\t=toString i
 | .str x=>(reprText x).length<=sizeLine/\t=reprText x
 | .ref p=>(∃ xs,H p=some (.lst xs)/\FlS xs/\t=(PyData.list (xs.map fD)).shown)\/∃ xs,H p=some (.tup xs)/\FlS xs/\t=(PyData.tuple (xs.map fD)).shown
 | _=>False
section
variable{X:Cx}{K:yg}
end
theorem qcX{b i:Nat}{K:yg}(o:i<b:=by decide)(p:j<b:=by decide):qex b (qgT K n (qfH (qb3 i) (qfH (qb3 j) qgS))):=by
 intro x t H Q ⟨a,xs,e,h,g,v,r,c,m,l,d,q⟩;obtain⟨f,q⟩:=q;show⟨a,xs,e,h,g,v,r,c,m,l,d,f,q,?_,λk s=>?_⟩
 .rw [xQ,xQ]
 .rw [xw (by lk),xw (by lk)]
section
variable{K:yg}{a:Addr}{xs:List V}{g:TG}{tc:TT}{te:TE}{σ':St}{H1:Hp}{Q:V->Hp->Prop}
end
theorem bit_nat(m j:Nat):decide (Builtin.bitAnd ((m:Int) / 2 ^ (j:Int).toNat) 1=1)=m.testBit j:=by
 rw[XZ,Nat.testBit_eq_decide_div_mod_eq];rw[yV]
 have e:((m:Int) / 2 ^ j) % 2=((m / 2 ^ j % 2:Nat):Int):=by
  rw[Int.natCast_emod,Int.natCast_ediv,Xl];rfl
 rw[e];by_cases h:m / 2 ^ j % 2=1
 .rw [h];rfl
 .rw [ym h,ym (by lk)]
theorem qcn(m j:Nat):decide (Builtin.bitAnd ((m:Int) / 2 ^ (j:Int).toNat) 1=0)=!m.testBit j:=by
 rw[<- bit_nat m j,XZ];have h:((m:Int) / 2 ^ (j:Int).toNat) % 2=0\/((m:Int) / 2 ^ (j:Int).toNat) % 2=1:=by lk
 rcases h with h | h<;>rw[h]<;>rfl
section
variable{K:yg}{a b:Addr}{xs ys:List V}{g:TG}{tc:TT}{te:TE}{σ':St}{H1:Hp}{Q:V->Hp->Prop}
end
section
variable{X:Cx}{K:yg}
end
section
variable{X:Cx}{K:yg}{e st:Expr}{te:TE}{ts:TO}{p2 pos:Pos}
end
mutual
inductive Dat(H:Hp):V->PyData->Prop
 | non:Dat H .non .none
 | bl (b:Bool):Dat H (.bl b) (.bool b)
 | int (i:Int):Dat H (.int i) (.int i)
 | str (x:Str):Dat H (.str x) (.str x)
 | lst {a:Addr} {xs:List V} {ds:List PyData}:H a=some (.lst xs)->DatS H xs ds->Dat H (.ref a) (.list ds)
 | tup {a:Addr} {xs:List V} {ds:List PyData}:H a=some (.tup xs)->DatS H xs ds->Dat H (.ref a) (.tuple ds)
 | dnil {a:Addr}:H a=some (.dK [])->Dat H (.ref a) (.dict [])
inductive DatS(H:Hp):List V->List PyData->Prop
 | nil:DatS H [] []
 | cons {v:V} {vs:List V} {d:PyData} {ds:List PyData}:Dat H v d->DatS H vs ds->DatS H (v::vs) (d::ds)
end
theorem Dat.same{H H':Hp}(s:Same H H'){v:V}{d:PyData}(h:Dat H v d):Dat H' v d:=
 Dat.rec (H:=H) (motive_1:=λv d _=>Dat H' v d) (motive_2:=λvs c _=>DatS H' vs c) .non .bl .int .str (λe _ r=>.lst (s _ _ e) r) (λe _ r=>.tup (s _ _ e) r) (λe=>.dnil (s _ _ e)) .nil (λ_ _ a b=>.cons a b) h
structure Shw(d:PyData)(n m:Nat):Prop where
 s:d.showable=true
 l:d.leavesShort 13=true
 b:d.bulk<=n
 p:d.depth<=m
structure ShwS(ds:List PyData)(n m:Nat):Prop where
 s:PyData.showableAll ds=true
 l:PyData.leavesShortAll 13 ds=true
 b:PyData.bulkAll ds<=n
 p:PyData.depthAll ds<=m
theorem ShwS.nil{m:Nat}:ShwS [] 0 m:=⟨rfl,rfl,yh _,Yy _⟩
theorem ShwS.cons{d:PyData}{a:List PyData}{n c m:Nat}(h:Shw d n m)(r:ShwS a c m):ShwS (d::a) (n+1+c) m:=
  ⟨by show(PyData.showable d&&PyData.showableAll a)=true;rw[h.s,r.s];rfl,by show(PyData.leavesShort 13 d&&PyData.leavesShortAll 13 a)=true;rw[h.l,r.l];rfl,
   by have:=h.b;have:=r.b;show PyData.bulk d+1+PyData.bulkAll a<=_;lk,
   by have:=h.p;have:=r.p;simp only[PyData.depthAll];lk⟩
theorem ShwS.mono{a:List PyData}{n d m c:Nat}(h:ShwS a n m)(f:n<=d)(e:m<=c):ShwS a d c:=⟨h.s,h.l,yi h.b f,yi h.p e⟩
theorem Shw.mono{d:PyData}{n c m a:Nat}(h:Shw d n m)(f:n<=c)(e:m<=a):Shw d c a:=⟨h.s,h.l,yi h.b f,yi h.p e⟩
theorem ShwS.list{a:List PyData}{n m:Nat}(h:ShwS a n m):Shw (.list a) n (m+1):=
 ⟨by simpa only[PyData.showable] using h.s,by simpa only[PyData.leavesShort] using h.l,by simpa only[PyData.bulk] using h.b,by have:=h.p;simp only[PyData.depth];lk⟩
theorem ShwS.tuple{a:List PyData}{n m:Nat}(h:ShwS a n m):Shw (.tuple a) n (m+1):=
 ⟨by simpa only[PyData.showable] using h.s,by simpa only[PyData.leavesShort] using h.l,by simpa only[PyData.bulk] using h.b,by have:=h.p;simp only[PyData.depth];lk⟩
theorem Shw.non{m:Nat}:Shw .none 0 m:=⟨rfl,rfl,yh _,Yy _⟩
theorem Shw.bl{b:Bool}{m:Nat}:Shw (.bool b) 0 m:=⟨rfl,rfl,yh _,Yy _⟩
theorem Shw.int{i:Int}{m:Nat}(h1:-999999999999<=i)(a:i<=999999999999):Shw (.int i) 0 m:=
 ⟨yA (log2_small (yj (show i.natAbs<2 ^ 40 by lk) (xW (by decide) (by decide)))),yA (PyData.shown_int_le2 h1 a),yh _,Yy _⟩
theorem Shw.str{x:Str}{m:Nat}(h:∀ c∈x.cps.toList,c<16 ^ 8):Shw (.str x) x.length m:=
 ⟨rfl,by simpa only[PyData.leavesShort,YY,kP] using h,yh _,Yy _⟩
theorem Shw.dnil{m:Nat}:Shw (.dict []) 0 (m+1):=⟨rfl,rfl,yh _,by simp[PyData.depth,PyData.depthKv]⟩
section
variable{X:Cx}{K:yg}{pins:List (Addr×Obj)}{σ:List (Option V)}{H:Hp}{s:Shared}
theorem Dat.reads(I:Inv X pins σ H s)(K:H sysModules=none){v:V}{d:PyData}(h:Dat H v d):∀ u,RelV v u->∃ as,Reads s.heap u d as/\sysModules∉as:=
 Dat.rec (H:=H) (motive_1:=λv d _=>∀ u,RelV v u->∃ as,Reads s.heap u d as/\sysModules∉as) (motive_2:=λvs l _=>∀ us,Vals vs us->∃ as,ReadsAll s.heap us l as/\sysModules∉as)
  (λu r=>⟨[],by cases r;show .none,nofun⟩) (λb u r=>⟨[],by cases r;show .bool b,nofun⟩) (λi u r=>⟨[],by obtain⟨t,rfl⟩:=r;show .int i t,nofun⟩) (λx u r=>⟨[],by obtain⟨t,rfl⟩:=r;show .str x t,nofun⟩)
  (λ{a xs l} e _ A u r=>by
   cases r;obtain⟨z,c,n,E,f⟩:=I.hok a _ e;obtain⟨as,j,w⟩:=A c E;show⟨a::as,.list f rfl rfl (by rw[List.toList_toArray];show j),λg=>?_⟩;rcases yv.mp g with z | z
   .rw [z,e] at K;cases K
   .show w z)
  (λ{a xs l} e _ A u r=>by
   cases r;obtain⟨c,E,⟨o,m,f,n,p⟩,_⟩:=I.tuple (SqT.of e);obtain⟨as,j,w⟩:=A c E;show⟨as,.tuple m f p (by rw[List.toList_toArray];show j),w⟩)
  (λ{a} e u r=>by
   cases r;obtain⟨z,G,vs,D,o,es,ep,m,f,p,N,F,O⟩:=qgb I.hok e;cases D;have J:es.toList=[]:=by cases q:es.toList with | nil=>rfl | cons y ys=>rw[q] at F;cases F
   show⟨a::[]++[],.dict m f.1 p (by rw[J];show .nil) (by rw[J];show .nil),λg=>?_⟩;rcases yv.mp g with z | z
   .rw [<- z] at G;simp at G
   .cases z)
  (λus r=>by cases r;show⟨[],.nil,nofun⟩)
  (λ_ _ B C us r=>by
   cases r with
   | cons r rr =>
    obtain⟨as,j,L⟩:=B _ r;obtain⟨bs,M,nb⟩:=C _ rr;show⟨as++bs,.cons j M,λg=>(yw.mp g).elim L nb⟩) h
def rReprD:List V->Hp->VK->Prop:=λxs H Q=>∃ v d,xs=[v]/\Dat H v d/\Shw d (2 ^ 20) 60/\Q (.str d.shown) H
theorem qco(n:X.K=K)(D:X.A.units+100<cLine)(f:X.A.guards=some [])(y:∃ o,K.lookup sysModules=some o):zI X (.builtin "repr") rReprD:=by
 subst n;intro pins s σ H xs us Q I r h;obtain⟨v,d,rfl,m,hw,q⟩:=h;obtain⟨u,rfl,a⟩:=qa2 r;obtain⟨o,w⟩:=y;have t:H sysModules=none:=(I.bs _ _ (I.mod.kin _ _ w)).2;have hsz:d.shown.length<=sizeLine:=PyData.shown_fits_bulk (B:=13) (by decide) (by decide) hw.l hw.b;obtain⟨as,j,g⟩:=m.reads I t u a;have C:=hw.p
 cases m with
 | non=>cases a;show P.repr_of_none ⟨.str _,H,I.tok _,⟨_,rfl⟩,q⟩
 | bl b=>cases a;show P.repr_of_bool ⟨.str _,H,I.tok _,⟨_,rfl⟩,q⟩
 | int i=>obtain⟨tk,rfl⟩:=a;show P.repr_of_int (yk (by simpa only[PyData.showable] using hw.s)) ⟨.str _,H,I.tok _,⟨_,rfl⟩,q⟩
 | str x=>obtain⟨tk,rfl⟩:=a;show P.repr_of_str (hsz:=hsz) ⟨.str _,H,I.tok _,⟨_,rfl⟩,q⟩
 | lst e _=>cases a;show repr_of_reads' j hw.s (λ_=>g) f (by lk) (λ_ _ z=>z) (λh' u tk c=>⟨.str _,H,I.kept (t':=tk) c,⟨_,rfl⟩,q⟩) hsz
 | tup e _=>cases a;show repr_of_reads' j hw.s (λ_=>g) f (by lk) (λ_ _ z=>z) (λh' u tk c=>⟨.str _,H,I.kept (t':=tk) c,⟨_,rfl⟩,q⟩) hsz
 | dnil e=>cases a;show repr_of_reads' j hw.s (λ_=>g) f (by lk) (λ_ _ z=>z) (λh' u tk c=>⟨.str _,H,I.kept (t':=tk) c,⟨_,rfl⟩,q⟩) hsz
end
section
variable{X:Cx}{tg elt iter:Expr}{ifs:List Expr}{scope sc1:Scope}{pos:Pos}{N N1:LS}{nl:Nat}{ixs:LN}{wi:TI}{g:TG}{tc:TT}{te:TE}{C1:Addr}{s1:Shared}{H1:Hp}{ex1:LX}
end
section
variable{X:Cx}{K:yg}
end
abbrev Cx.soft(X:Cx):Cx:={ X with calm:=false }
structure RoomW(k:Nat)(A:Around):Prop where
 dp:A.depth+3*k+5<recursionLimit
 un:A.units+16*k+200<cLine
 gd:A.guards=some []
theorem RoomW.deeper{k:Nat}{A:Around}(r:RoomW (k+1) A)(env:Env):RoomW k (A.deeper env):=
 ⟨by have:=r.dp;show A.depth+1+3*k+5<_;lk,by have:=r.un;show A.units+3+16*k+200<_;lk,r.gd⟩
theorem Room.soft{j k:Nat}{A:Around}{h:Option Value}(r:Room k A)(l:j<=k):RoomW j (A.mark h):=⟨by have:=r.dp;show A.depth+3*j+5<_;lk,by have:=r.un;show A.units+16*j+200<_;lk,r.gd⟩
structure FnOkW(P:Program)(w:World)(K:yg)(mg:Str->Option Value)(base:Heap)(k:Nat)(f:Addr)(fd:FuncData)(ps:LS)(sp:Sp):Prop where
 len:∀ vs H Q E,sp vs H Q E->vs.length=ps.length
 run:∀(A:Around) (outer:List Env) (s:Shared) (H:Hp) (args:Args) (us:List Value) (vs:List V) (Q:VK) (E:XK),RoomW k A->Env0 P w K mg base A outer s H->BindsTo s fd args (ps.zip us)->Vals vs us->sp vs H Q E ->
  codeAny (model P w) A (.call (.ref f) args) (CR CX0 outer P w H s Q E) s
structure DefOkW(P:Program)(w:World)(K:yg)(mg:Str->Option Value)(base:Heap)(k:Nat)(x:Str)(ps:LS)(sp:Sp):Prop where
 ex:∃ f fd,FnOkW P w K mg base k f fd ps sp/\mg x=some (.ref f)/\PySem.W.keepIn K (.ref f)=true/\Binds K fd ps []
section
variable{X:Cx}{k:Nat}{f C:Addr}{fd:FuncData}{ps:LS}{sp:Sp}{x m:Str}{p pos apos:Pos}{e o:Expr}{es:List Expr}{ta:TE}{t:TA}
end
section
variable{P:Program}{w:World}{K:yg}{mg:Str->Option Value}{base:Heap}
end
section
variable{prog:Program}{w:World}{A:Around}{E:Value->Shared->Prop}{s:Shared}
abbrev IsZp(h:Heap)(z TI TO:Addr)(b:Value)(a:Bool):Prop:=h.get? z=some { cls:=.type "zip",dict:=none,data:=.fields #[b,.bool a,.bool false,.ref TI,.ref TO],slots:=#[] }
def ZAt(z TI TO N:Nat)(h:Heap):Prop:=IsZip h z TI TO .none\/∃ T a o,N<=T/\IsZp h z TI TO (rawInt (T:Nat)) a/\h.get? T=some o
end
structure LZ(z TI TO i1 i2 a b S N:Nat)(xs ys:Array Value)(h0:Heap)(i:Nat)(acc:Array Value)(c:Nat)(h:Heap):Prop where
 zp:ZAt z TI TO N h
 ti:IsPair h TI (.ref i1) (.ref i2)
 tO:∃ u v,IsPair h TO u v
 j1:h.IsListIter i1 a i
 j2:h.IsListIter i2 b i
 la:h.IsList a xs
 lb:h.IsList b ys
 ls:h.get? S=some { cls:=.type "list",dict:=none,data:=.seq acc c,slots:=#[] }
 sz:N<=h.objs.size
 len:acc.size=i
 its:∀(j:Nat) v,acc[j]?=some v->∃ t x y,v=.ref t/\N<=t/\IsPair h t x y/\xs[j]?=some x/\ys[j]?=some y
 nd:∀(j k:Nat) v,acc[j]?=some v->acc[k]?=some v->j=k
 kp:∀ q o,q<N->q≠z->q≠TO->q≠i1->q≠i2->q≠S->h0.get? q=some o->h.get? q=some o
structure LE(z TO i1 i2 S N:Nat)(xs ys:Array Value)(h0:Heap)(n:Nat)(acc:Array Value)(c:Nat)(h:Heap):Prop where
 ls:h.get? S=some { cls:=.type "list",dict:=none,data:=.seq acc c,slots:=#[] }
 len:acc.size=n
 its:∀(j:Nat) v,acc[j]?=some v->∃ t x y,v=.ref t/\N<=t/\IsPair h t x y/\xs[j]?=some x/\ys[j]?=some y
 nd:∀(j k:Nat) v,acc[j]?=some v->acc[k]?=some v->j=k
 kp:∀ q o,q<N->q≠z->q≠TO->q≠i1->q≠i2->q≠S->h0.get? q=some o->h.get? q=some o
structure LA(z TI TO i1 i2 a b S N:Nat):Prop where
 D:ZipApart z TI TO i1 i2 a b
 lt:z<S/\TI<S/\TO<S/\i1<S/\i2<S/\a<S/\b<S
 S:S<N
section
variable{prog:Program}{w:World}{A:Around}{R:Result->Shared->Prop}{z TI TO i1 i2 a b S N:Nat}{xs ys:Array Value}{h0:Heap}
end
section
variable{prog:Program}{w:World}{A:Around}{E:Value->Shared->Prop}{s:Shared}
end
structure Zl(H H':Hp)(l:Addr)(ts:LX)(xs ys:List V):Prop where
 sm:L2.Same H H'
 fl:H l=none
 ls:H' l=some (.lst (ts.map V.ref))
 len:ts.length=min xs.length ys.length
 tp:∀(j:Nat) t,ts[j]?=some t->H t=none/\∃ x y,xs[j]?=some x/\ys[j]?=some y/\H' t=some (.tup [x,y])
section
variable{X:Cx}
end
section
variable{prog:Program}{w:World}{A:Around}{E:Value->Shared->Prop}{s:Shared}{a:Addr}
def TxS(w:World)(h:Heap)(a:Addr)(ss:LS):Prop:=
 ∃(es:Array (Int×Value)) (ep:Nat) (t:SetTable),h.get? a=some { cls:=.type "set",dict:=none,data:=.set es ep t } /\
  (∀ e∈es.toList,∃ k u,e=(hashStr w k,Value.str k u))/\(es.toList.map λe=>strOf e.2).Perm ss/\t.fits es.size=true/\(es.size=0\/t.plain=false)/\es.size<scanBound
theorem TxS.keep{h h':Heap}{ss:LS}(x:TxS w h a ss)(e:∀ o,h.get? a=some o->h'.get? a=some o):TxS w h' a ss:=by
 obtain⟨es,ep,t,b,r⟩:=x;show⟨es,ep,t,e _ b,r⟩
theorem TxS.len{h:Heap}{ss:LS}{es:Array (Int×Value)}(p:(es.toList.map λe=>strOf e.2).Perm ss):es.size=ss.length:=by
 rw[<- p.length_eq,ya,Y5]
theorem or_plain{t:SetTable}{n:Nat}(a:t.plain=false):(t.orStandIn n).plain=false:=by
 unfold SetTable.orStandIn;split
 .show a
 .rfl
theorem lay_plain{t:SetTable}{es:Array (Int×Value)}{h:Int}{x:Value}(a:t.plain=false):(layNew t es h x).2.1.plain=false:=by
 unfold layNew;split
 .show or_plain a
 .rfl
theorem laid_plain{m f v:Nat}{l p:Bool}{a:Array Int}{r:SetTable×Array Nat}(h:SetTable.laid m f v l p a=some r):r.1.plain=p:=by
 unfold SetTable.laid at h
 cases hc:SetTable.layClean m a with
 | none=>rw[hc] at h;cases h
 | some o=>rw[hc] at h;cases h;rfl
theorem relay_plain{t:SetTable}{es:Array (Int×Value)}{n:Nat}(a:t.plain=false):(relayAll t es n).2.1.plain=false:=by
 unfold relayAll;split
 .rename_i t' order h
  dsimp only;split
  .rw [laid_plain (r:=(t',order)) h];show a
  .rfl
 .rfl
theorem elems_of{es:List (Int×Value)}(h:∀ e∈es,∃ k u,e=(hashStr w k,Value.str k u)):ElemsOf (PySem.strKind prog w) es:=by
 intro e a;obtain⟨k,u,rfl⟩:=h e a;show⟨⟨k,strKind_is _ _ _ _,rfl⟩,rfl⟩
theorem qfw{h:Heap}{es es':Array (Int×Value)}{ep:Nat}{t t':SetTable}(b:h.get? a=some { cls:=.type "set",dict:=none,data:=.set es ep t }):(h.update a (Obj.putSet es' t')).get? a=some { cls:=.type "set",dict:=none,data:=.set es' (ep+1) t' }:=by
 have:=xr (Obj.putSet es' t') b rfl;show this
theorem add_txt{ss:LS}{k:Str}{u:Tok}{Q:Bool->Shared->Prop}(hS:TxS w s.heap a ss)(hk:k∉ss)(hb:ss.length+1<scanBound)
  (h:∀ h',Heap.SameBut a s.heap h'->TxS w h' a (ss++[k])->Q true { s with heap:=h' }) :
  wpAny (model prog w) A (setAddHashed a (.str k u) (hashStr w k)) Q E s:=by
 obtain⟨es,ep,t,P,v,hp,hf,aa,hsz⟩:=hS;have l:=elems_of (prog:=prog) v;unfold setAddHashed setAddHashedIn;show YG (yt (wpAny_setState_of P rfl hf ?_));dsimp only;rw[byScan_of (knd:=PySem.strKind prog w) rfl hsz l];simp only[↓reduceIte];unfold setAddByScan;show yt ?_;show yt (Kb ?_);show yt (wpAny_setScan_of (knd:=PySem.strKind prog w) (k:=k) (strKind_is _ _ _ _) P rfl hf l ?_)
 have Y:es.toList.findIdx? (λe=>(PySem.strKind prog w).is k e.2)=none:=by
  rw[List.findIdx?_eq_none_iff];intro e F;obtain⟨k',u',rfl⟩:=v e F;have X:k≠k':=λT=>hk (hp.mem_iff.mp (yQ.mpr ⟨_,F,T.symm⟩))
  cases hc:(PySem.strKind prog w).is k (Value.str k' u') with
  | false=>rfl
  | true=>show absurd ((PySem.strKind prog w).inj _ _ _ hc (strKind_is _ _ _ _)) X
 rw[Y];dsimp only;have d:=layNew_perm t es (hashStr w k) (.str k u);have f:=layNew_fits t es (hashStr w k) (.str k u);have J:=@lay_plain t es (hashStr w k) (.str k u);generalize layNew t es (hashStr w k) (.str k u)=L at d f J ⊢;obtain⟨c,t1,O,Z⟩:=L;dsimp only at d f J ⊢;rw[Array.toList_push] at d
 have I:∀(b:Bool) {j:Shared} {S:Unit->Shared->Prop},S () j->wpAny (model prog w) A (match b with | true=>rule "set.scan.the-table-gave-way" | false=>pure ()) S E j:=
  λb j S hq=>by cases b<;>first | show yz hq | show Kb hq
 have m:∀ e∈c.toList,∃ k u,e=(hashStr w k,Value.str k u):=λe F=>by
  rcases yw.mp (d.mem_iff.mp F) with h1 | h1
  .show v e h1
  .show⟨k,u,yx.mp h1⟩
 have B:(c.toList.map λe=>strOf e.2).Perm (ss++[k]):=by
  show(d.map _).trans ?_;rw[yC];show hp.append_right _
 have D:c.size<scanBound:=by rw[TxS.len (h:=s.heap) B,yu];show hb
 have N:=fits_of_scanBound D;show yt (I _ ?_)
 have p:∀ g:SetTable,g.fits c.size=true->g.plain=false->wpAny (model prog w) A (do
    storeSet a c g
    if (!O&&g.tooFull)=true then do
      (match (relayAll g c (SetTable.grown c.size)).2.2 with | true=>rule "set.scan.the-table-gave-way" | false=>pure ())
      storeSet a (relayAll g c (SetTable.grown c.size)).1 (relayAll g c (SetTable.grown c.size)).2.1
      pure (some true)
     else pure (some true)) (λr s'=>∃ h',r=some true/\s'={ s with heap:=h' }/\Heap.SameBut a s.heap h'/\TxS w h' a (ss++[k])) E s:=by
  intro g W K;show yt (wpAny_storeSet_of P rfl ?_ N);have z:=qfw (es':=c) (t':=g) P;have o:=Heap.SameBut.update s.heap a (Obj.putSet c g);split
  .have i:=relayAll_perm g c (SetTable.grown c.size);have y:=relayAll_fits g c (SetTable.grown c.size);have C:=relay_plain (es:=c) (n:=SetTable.grown c.size) K;generalize relayAll g c (SetTable.grown c.size)=R at i y C ⊢;obtain⟨G,t3,g2⟩:=R;dsimp only at i y C ⊢;have M:G.size=c.size:=by rw[<- Y5,i.length_eq,Y5]
   show yt (I _ ?_);show yt (wpAny_storeSet_of z rfl ?_ (by rw[M];show N));show yz ⟨_,rfl,rfl,o.trans (Heap.SameBut.update _ a _),G,_,t3,qfw z,λe F=>m e (i.mem_iff.mp F),(i.map _).trans B,y,.inr C,by rw[M];show D⟩
  .show yz ⟨_,rfl,rfl,o,c,_,g,z,m,B,W,.inr K,D⟩
 have H:∀{r:Option Bool} {s':Shared},(∃ h',r=some true/\s'={ s with heap:=h' }/\Heap.SameBut a s.heap h'/\TxS w h' a (ss++[k]))->Q true s'/\r=some true:=λ⟨h',e,T,U,hT⟩=>by
  subst T;show⟨h h' U hT,e⟩
 split
 .show yt ?_;rw[hashByValue_scannable 8 rfl];show yz ?_;show YC (p _ ?_ ?_) (λr s' x=>?_) λ_ _ e=>e
  .show SetTable.fits_plain_off f
  .rfl
  .obtain⟨q,rfl⟩:=H x;show yz q
 .rename_i hpf
  show yt (yz ?_);simp only[↓reduceIte];show YC (p _ f (by simpa using hpf)) (λr s' x=>?_) λ_ _ e=>e;obtain⟨q,rfl⟩:=H x;show yz q
theorem loop_txt{I:Addr}{O z:LX}{G:Array GenState->Array GenState->Prop}{P:Nat->Value->Prop}{St:Nat->Shared->Prop}{R:Result->Shared->Prop}{ks:LS}(W:WalksS prog w A.in1 I O z G ks.length P St)(l:a∉O)
  (y:∀ i v,P i v->∃(k:Str) (t:Tok),ks[i]?=some k/\v=.str k t) (Z:ks.Nodup) (hb:ks.length+1<scanBound) :
  ∀(n i:Nat) (s:Shared),ks.length-i=n->i<=ks.length->St i s->TxS w s.heap a (ks.take i) ->
   (∀ s',Moved (a::z) G s s'->TxS w s'.heap a ks->R (.ok (.ret .none)) s') ->
   codeAny (model prog w) A (.builtin "set.update.loop" ⟨[.ref a,.ref I],[]⟩) R s:=by
 have m:a∉z:=λh=>l (W.sub _ h);have f:∀ b∈z,b∈a::z:=λb hb=>yE _ hb;intro n
 induction n with
 | zero =>
  intro i s Y U d B C;have e:ks.take i=ks:=YM (by lk);rw[e] at B;have J:i=ks.length:=by lk
  rw[J] at d;show Ki PyProof.Rows.F.entry_set_update_loop ?_;rw[Around.under_plainId xE _];show wpAny _ A.in1 (pyNext (.ref I)>>=_) _ _ s;show yt (W.done s _ _ d λs' q=>?_);show wpAny _ A.in1 (ret Value.none) _ _ s';show yz (C s' (q.mono f) (B.keep λo e=>q.heap a _ m e))
 | succ n ih =>
  intro i s Y U d B C;have c:i<ks.length:=by lk
  show Ki PyProof.Rows.F.entry_set_update_loop ?_;rw[Around.under_plainId xE _];show wpAny _ A.in1 (pyNext (.ref I)>>=_) _ _ s;show yt (W.item i s _ _ c d λv s' T x q=>?_);obtain⟨k,t,N,rfl⟩:=y i v T;have p:ks[i]=k:=by rw[yb c] at N;show yn N
  have D:TxS w s'.heap a (ks.take i):=B.keep λo e=>q.heap a _ m e;show wpAny _ A.in1 (holding [Value.str k t] (setAdd a (.str k t))>>=_) _ _ s';show yt (YG ?_);unfold setAdd;show YG ?_;show yt ((PySem.strKind prog w).pyHash (k:=k) (strKind_is _ _ _ _) ?_);show add_txt (s:={ s' with toks:=s'.toks+1 }) D (λL=>?_) (by rw[yU];lk) λh' u E=>?_
  .obtain⟨j,X,S⟩:=List.mem_take_iff_getElem.mp L;have K:j<i:=yj X (Nat.min_le_left _ _);show(YL.mp Z) j i (by lk) c K (S.trans p.symm)
  .have H:TxS w h' a (ks.take (i+1)):=by rw[List.take_succ_eq_append_getElem c,p];show E
   show yz ⟨plainId_quiet xE _,ih (i+1) _ (by lk) c (W.frame _ s' _ _ x (Xf _) λb hb o e=>?_) H λM r g=>?_⟩
   .rw [u.2 b (λh:b=a=>l (by rw[<- h];show hb))];show e
   .show C M (Moved.trans W.gtrans ((q.mono f).then_heap (Xf _) λb o hb e=>?_) r) g;rw[u.2 b (λh:b=a=>hb (by rw[h];show yL))];show e
theorem fresh_txt{h:Heap}{b:Bool}(e:h.get? a=some { cls:=.type "set",dict:=none,data:=.set #[] 0 (.fresh 0 0 b) }):TxS w h a []:=
 ⟨#[],0,_,e,λe c=>by simp at c,.refl _,rfl,.inl rfl,by decide⟩
theorem set_txt{l:Addr}{f:Array Value}{ks:LS}{Q:Value->Shared->Prop}(hh:A.handled=none)(hl:s.heap.IsList l f)(z:f.size=ks.length)
  (G:∀(i:Nat) (v:Value),f[i]?=some v->∃(k:Str) (t:Tok),ks[i]?=some k/\v=.str k t) (hn:ks.Nodup) (hb:ks.length+1<scanBound)
  (h:∀(h':Heap) (tk:Nat),TxS w h' s.heap.objs.size ks->(∀ b o,s.heap.get? b=some o->h'.get? b=some o)->Q (.ref s.heap.objs.size) { s with heap:=h',toks:=tk }) :
  wpAny (model prog w) A (call (.type "set") [.ref l]) Q E s:=by
 obtain⟨c,tl,Y⟩:=F.called_set.mro;have O:=F.called_set.made;have ac:=F.called_set.sub;show xJ (Kg ?_);show wpAny _ _ (callAny (.type "set") _) _ _ _;show yz ⟨kI _ (by room),Ki F.entry_type_call ?_⟩;rw[Around.under_plain (weight_type_call_type "set" [.ref l] []) rfl];have h1:=F.called_set.notType;have h2:=F.called_set.canCreate;have af:=F.typeCall_set_1 (.ref l)
 repeat (any_goals (first | assumption | wp_step))
 show xH (code_set_new_1 (.ref l) (E:=E) (Q₁:=λH g=>∃ d:Bool,H=.ref s.heap.objs.size/\g={ s with heap:=s.heap.push { cls:=.type "set",dict:=none,data:=.set #[] 0 (.fresh 0 0 d) } }) λd=>⟨d,rfl,rfl⟩) λr g D=>?_
 cases r with
 | error e=>show D
 | ok fl =>
  cases fl with
  | next=>show D.elim
  | brk=>show D.elim
  | cont=>show D.elim
  | ret H =>
   obtain⟨d,rfl,rfl⟩:=D;generalize p:({ cls:=.type "set",dict:=none,data:=.set #[] 0 (.fresh 0 0 d) }:Obj)=o0;have X:(s.heap.push o0).get? s.heap.objs.size=some o0:=Yd _ (by rw[<- p];rfl);have hT:Shared.TypeIs { s with heap:=s.heap.push o0 } (.ref s.heap.objs.size) "set":=⟨_,X,by rw[<- p]⟩;have ag:=F.called_set.init.lookup;have ae:=F.called_set.init.bind (.ref s.heap.objs.size)
   repeat (any_goals (first | assumption | wp_step))
   show xH (xx (R:=wants (λr j=>r=.none/\∃ h' tk,j={ s with heap:=h',toks:=tk }/\TxS w h' s.heap.objs.size ks/\(∀ b o,s.heap.get? b=some o->h'.get? b=some o)) E) F.called_set.init.plain F.entry_set_init (check_set_init_1 hT ?_)) λI j a=>?_
   .obtain⟨ol,C,q,nl,u⟩:=id hl;obtain⟨ad,S,P,K⟩:=ol;simp only at q u;subst q;subst u;have Z:=yy o0 C;have ab:=F.sub_list_set;have aa:=F.sub_list_frozenset;have ah:(Value.type "list"==Value.type "dict")=false:=by decide
    have x:(s.heap.push o0).IsList l f:=hl.push _;subst p;unfold Builtin.«set.__init__» noKeywords Builtin.Frozenset.updateFrom;generalize L:pyIter=PI
    wp_walk
    subst L;show XV x ?_;show yt (wpAny_runValue ?_);have y:l<s.heap.objs.size:=yM C;have M:A.in1.in1.in1.handled=none:=by simp[hh]
    have W:=(Walks.list (prog:=prog) (w:=w) M (s.heap.push { cls:=.type "set",dict:=none,data:=.set #[] 0 (.fresh 0 0 d) }).objs.size l (by rw[YW];show Yi (Nat.lt_succ_of_lt y)) f).toS;rw[z] at W;show loop_txt W (by rw[YW];simp only[yv,yJ,Yo,Kr];show⟨Yi (Xx _),Xw y⟩) G hn hb (ks.length-0) 0 _ rfl (Yy _) ⟨⟨_,Yd _ rfl,rfl,rfl⟩,(x.push _)⟩ (fresh_txt (yy _ X)) ?_;intro s' J m;obtain⟨h',g',d',U,T⟩:=s';have eg:g'=s.gens:=J.gens;have ed:d'=s.drawn:=J.drawn;have eo:T=s.os:=J.os;subst eg;subst ed;subst eo;show wpAny _ _ _ _ _ _;show yz ?_;show wpAny _ _ (ret Value.none) _ _ _;show yz ⟨rfl,h',U,rfl,m,λb o e=>J.heap b o (λn=>?_) (yy _ (yy _ e))⟩;have B:=yM e;rw[YW] at n;simp only[yv,yJ,Yo] at n;rcases n with rfl | rfl
    .show absurd B (Yz _)
    .show absurd (Nat.lt_of_succ_lt B) (Yz _)
   .cases I with
    | error e=>show a
    | ok fl₂ =>
     cases fl₂ with
     | next=>show a.elim
     | brk=>show a.elim
     | cont=>show a.elim
     | ret r =>
      obtain⟨rfl,h',tk,rfl,m,N⟩:=a
      repeat (any_goals (first | assumption | wp_step))
      show h _ _ m N
end
section
variable{prog:Program}{w:World}{A:Around}{E:Value->Shared->Prop}{s:Shared}{a:Addr}
end
section
variable{prog:Program}{w:World}{A:Around}{E:Value->Shared->Prop}{s:Shared}{a I T:Addr}{es:Array (Int×Value)}{ep i:Nat}{t:SetTable}{f:Value}{Q:Option Value->Shared->Prop}
end
section
variable{prog:Program}{w:World}{A:Around}{E:Value->Shared->Prop}{s:Shared}{a I T:Addr}{es:Array (Int×Value)}{ep i:Nat}{t:SetTable}{f:Value}{Q:Option Value->Shared->Prop}{js:LN}
end
section
variable{prog:Program}{w:World}{A:Around}{E:Value->Shared->Prop}{s:Shared}{a I T:Addr}{es:Array (Int×Value)}{ep i:Nat}{t:SetTable}
end
section
variable{prog:Program}{w:World}{A:Around}{E:Value->Shared->Prop}{s:Shared}{a:Addr}{ss:LS}{w₁:World}
end
section
variable{prog:Program}{w:World}{A:Around}{E:Value->Shared->Prop}{s:Shared}{a:Addr}{ss:LS}{w₁:World}
end
section
variable{X:Cx}{K:yg}
theorem qeE:∀{a:LS} {us:List Value},StrsAre us a->∀(i:Nat) (v:Value),us[i]?=some v->∃(k:Str) (t:Tok),a[i]?=some k/\v=.str k t
 | _,_,.cons y tk r,0,v,h=>⟨y,tk,rfl,(yn h).symm⟩
 | _,_,.cons y tk r,i+1,v,h=>qeE r i v h
def qfP(a:Addr)(ss:LS):HO:=.ext λh=>∃ w,TxS w h a ss
def rSetS(K:yg):List V->Hp->VK->Prop:=λxs H Q=>∃(p:Addr) (ss:LS),xs=[.ref p]/\SqL K H p (ss.map V.str)/\ss.Nodup/\ss.length<=100/\∀ l:Addr,H l=none->Q (.ref l) (upd H l (qfP l ss))
theorem k_setS(f:X.K=K)(hc:X.calm=true):zI X (.type "set") (rSetS K):=by
 subst f;intro c s A H xs us Q I r h;obtain⟨p,ss,rfl,m,l,h1,q⟩:=h;obtain⟨u,rfl,t⟩:=qa2 r;cases t;obtain⟨a,d,pl,z⟩:=I.list m;have n:=qde d;have hl:a.length=ss.length:=by rw[<- d.length,ya]
 show set_txt (ks:=ss) (I.ok.hd hc) pl.isList (by simpa using hl) (λi v e=>qeE n i v (by simpa using e)) l (by unfold scanBound;lk) λh' tk b j=>?_;have g:=I.hok.fresh (yh s.heap.objs.size);show⟨.ref _,_,I.laid (o:=qfP s.heap.objs.size ss) (t':=tk) j (yh _) ⟨⟨_,b⟩,?_,λh1 y x e=>?_⟩,rfl,q _ g⟩
 .obtain⟨_,_,_,e,_⟩:=b;show⟨_,e⟩
 .obtain⟨w,x⟩:=x;show⟨w,x.keep e⟩
def rLenT:List V->Hp->VK->Prop:=λxs H Q=>∃(p:Addr) (ss:LS),xs=[.ref p]/\H p=some (qfP p ss)/\Q (.int (ss.length:Int)) H
theorem k_lenT:zI X (.builtin "len") rLenT:=by
 intro b s g H xs us Q I r h;obtain⟨p,ss,rfl,e,q⟩:=h;obtain⟨u,rfl,f⟩:=qa2 r;cases f;obtain⟨⟨w,es,ep,t,d,_,a,c,_,hb⟩,_,_⟩:=I.hok p _ e;show call_len_set d ⟨rfl,rfl,rfl⟩ rfl c (by unfold scanBound at hb;lk) ?_;rw[TxS.len (h:=s.heap) a];show⟨.int _,H,I.tok _,⟨_,rfl⟩,q⟩
end
end L2
namespace HT
open PySem PySem.Spec PyProof.Rows
section
variable{prog:Program}{w:World}{A:Around}{E:Value->Shared->Prop}{s:Shared}
end
end HT
namespace L2
open PySem PySem.Spec PyProof.Rows
variable{lo n:Nat}{ta:TA}{tg:Expr}
section
variable{X:Cx}{K:yg}{e st:Expr}{te:TE}{ts:TO}{p2 pos:Pos}
end
def Itw(lo n:Nat):It:=⟨λi _=>i<n,λi H x H'=>H'=H/\x=.int ((lo+2*i:Nat):Int),λi _=>n<=i⟩
theorem turn_two{P:Program}{w:World}{K:yg}(it:Addr)(lo n:Nat):Turn P w K tg (Itw lo n) [it] it (λi h=>IsRangeIter h it ((lo:Int)+(i:Nat)*2) ((n:Int)-(i:Nat)) 2) where
 mem:=by simp
 obj:=λi h st b hb=>by
  obtain rfl:b=it:=by simpa using hb
  show⟨_,st,λv z=>by have A:Data.fields _=Data.cell v:=z;cases A⟩
 keep:=λi h h' st k=>k it (by simp) _ st
 item:=by
  intro X q hw p hc i a s u H E I d st r;subst q hw p;obtain⟨f,g,_,j,l,m⟩:=d it (by simp);show(Walks.range (prog:=X.prog) (w:=X.w) (I.ok.hd hc) it (lo:Int) 2 n).item i s _ _ r st λv h' tk hv c y=>?_;obtain⟨t,rfl⟩:=hv;have J:Inv X a u H { s with heap:=h',toks:=tk }:=I.turned (λb o hb e=>y b o (by simpa using hb) e) f g j l m;show⟨_,rfl,qe5 (s:={ s with heap:=h',toks:=tk }) (n:="range_iterator") c rfl rfl (by decide) ⟨.int ((lo+2*i:Nat):Int),H,J,⟨t,?_⟩,⟨rfl,rfl⟩,c,λb hb=>(d b hb).1⟩⟩
  congr 1
  lk
 done:=by
  intro X q hw p hc i a s u H E I d st r;subst q hw p;obtain⟨f,g,_,j,l,m⟩:=d it (by simp);show wpAny_pyNext_range_end (I.ok.hd hc) st (by have:n<=i:=r;lk) λh' x=>⟨rfl,I.turned (t':=s.toks) (λb o hb e=>x b o hb e) f g j l m⟩
 self:=λ_ _ _ _ _ st h=>wpAny_pyIter_rangeiter st h
def qg8(ta:TA):TI:=λb H R=>ta b H λvs a=>∃ lo n:Nat,vs=[.int lo,.int ((2*n:Nat):Int),.int 2]/\lo<=1/\n<=1000/\R (Itw lo n) a
theorem qg9{a:St}{H:Hp}{R:It->Hp->Prop}(h:ta a H λvs b=>∃ lo n:Nat,vs=[.int lo,.int ((2*n:Nat):Int),.int 2]/\lo<=1/\n<=1000/\R (Itw lo n) b):qg8 ta a H R:=h
theorem qdT(h:lo<=1):Builtin.Range.rangeSize (lo:Int) ((2*n:Nat):Int) 2=n:=by
 unfold Builtin.Range.rangeSize;rw[yG (by decide)];split<;>lk
theorem small_two(h:lo<=1)(b:n<=1000):Builtin.Range.small (lo:Int) ((2*n:Nat):Int) 2=true:=by
 unfold Builtin.Range.small;rw[qdT h,yG (by decide)]
 have f:∀ z:Int,0<=z->z<=5000->Builtin.Range.rangeFitsLong z=true:=λz a h1=>by
  unfold Builtin.Range.rangeFitsLong;rw[yO,yR,yR];constructor<;>lk
 rw[f _ (by lk) (by lk),f _ (by lk) (by lk),f _ (by lk) (by lk),f _ (by lk) (by lk),f _ (by lk) (by lk)];simp
theorem qfx{X:Cx}{a b c:Expr}{p j:Pos}(A:Gl X "range")(B:X.mg "range"=none)(z:PA X [a,b,c] ta)(D:starEach [a,b,c] X.env=[(false,eval a X.env),(false,eval b X.env),(false,eval c X.env)]:=by rfl)(i:starEach [b,c] X.env=[(false,eval b X.env),(false,eval c X.env)]:=by rfl) :
  PI X tg (.Call (.Name "range" p) [a,b,c] [] j) (qg8 ta):=by
 intro d s v H R I h;show Call_ (qbF I A B boot_range (xG (thn (z j d s v H _ I h) λus f ⟨vs,u,w,F,E⟩=>?_) (by rw[D,i]) (by rw[i];rfl)));obtain⟨lo,n,e,g,C,q⟩:=E;subst e
 cases F with
 | cons r rr =>
  cases rr with
  | cons r2 rr =>
   cases rr with
   | cons r3 rr =>
    cases rr;obtain⟨t,rfl⟩:=r;obtain⟨l,rfl⟩:=r2;obtain⟨m,rfl⟩:=r3;show call_range_3 (by decide) ?_ (.inl (PyProof.noPylong_small (by lk)));show wpAny_pyIter_range (IsRange.new ..) (small_two g C) ?_;have J:Inv X d v u { f with heap:=f.heap.push { cls:=.type "range",data:=.fields #[.int lo t,.int ((2*n:Nat):Int) l,.int 2 m] },toks:=f.toks }:=w.kept λb o e=>yy _ e;show⟨_,[(f.heap.push { cls:=.type "range",data:=.fields #[.int lo t,.int ((2*n:Nat):Int) l,.int 2 m] }).objs.size],_,_,u,rfl,J.kept (t':=f.toks) λb o e=>yy _ e,turn_two _ lo n,?_,λb hb=>?_,q⟩
    .have x:(lo:Int)+((0:Nat):Int)*2=lo:=by simp
     have y:(n:Int)-((0:Nat):Int)=Builtin.Range.rangeSize (lo:Int) ((2*n:Nat):Int) 2:=by rw[qdT g];simp
     show IsRangeIter _ _ ((lo:Int)+((0:Nat):Int)*2) ((n:Int)-((0:Nat):Int)) 2;rw[x,y];show Yd _ rfl
    .obtain rfl:b=(f.heap.push { cls:=.type "range",data:=.fields #[.int lo t,.int ((2*n:Nat):Int) l,.int 2 m] }).objs.size:=by simpa using hb
     show J.fpOk (yh _) (J.hok.fresh (yh _))
theorem comp_two{g:TG}{o:TT}{q:TE}{f:St}{j:Hp}{Q:VK}(c:Nat->List V->Hp->Prop)(t:c 0 [] j)
  (w:∀ i a H,i<n->c i a H->g (.int ((lo+2*i:Nat):Int)) f H λh r=>o h r λb l=>if b=true then q h l λv s=>a.length<sizeLine/\c (i+1) (a++[v]) s else c (i+1) a l)
  (u:∀ a H,c n a H->a.length<=sizeLine/\∀ p,H p=none->Q (.ref p) (upd H p (.lst a))):qec (Itw lo n) g o q f j Q:=by
 show⟨λi m a H=>m=n-i/\i<=n/\c i a H,⟨n,by simp,Yy _,t⟩,?_⟩;rintro i m a H ⟨rfl,A,p⟩;by_cases d:i<n
 .show .inr ⟨d,c (i+1),λys' H' z=>⟨n-(i+1),by lk,rfl,d,z⟩,λx H' y=>?_⟩;obtain⟨e,y⟩:=y;subst e y;show w i a _ d p
 .have e:i=n:=by lk
  subst e;show .inl ⟨yh _,u a H p⟩
end L2
namespace K48
open PySem L2 PyProof.Rows
variable{A:Str->Str->Prop}{C c cw dx l p x:Addr}{E:XK}{G H H' H0 H1 H2 J J':Hp}{K:W.Frag}{Pd:Str->Prop}{S S':FS}{a b s t u y z:Str}{ab q:Str×Str}{d lo ol v:V}{dn l' l1 l2 m1 r rs rv rw rz seen ss wt:LS}{first i j m m' n n' room:Nat}{g:Str->Option Str}{kps qs tps:LP}{kvs:List (Key×V)}{mg:Str->Option Value}{ns:LN}{o:HO}{q':Nat×Nat}{ta:TA}{ts us:LX}{xs ys:List V}{α β:Type}{σ:L2.St}
theorem Sr(H:Hp):L2.Same H H:=L2.Same.refl H
theorem ze{k:Nat}{A:Around}(a:Room k A):A.units+100<cLine:=by have:=a.un;lk
theorem hmR{k:Nat}{A:Around}(a:Room k A)(h:j<=k:=by decide):Room j A:=a.mono h
theorem uC:FnScope wqx wqx (qh jD):=fS
theorem uH:FnScope wZ wZ (qh j3):=fS
theorem uI:FnScope wZ wZ (qh j4):=fS
local macro_rules | `(tactic| walk_at "w")=>`(tactic| first
 | with_reducible refine vSeq ?_ | with_reducible refine vAsg ?_ | with_reducible refine vAsgS ?_ | with_reducible refine vIfS ?_ | with_reducible refine vRet ?_ | with_reducible refine vNext ?_ | with_reducible refine vC ?_
 | ((with_reducible refine' vVar ?hv ?_);(case hv=>rfl)) | with_reducible refine vOp ?_ | with_reducible refine vChain ?_ | with_reducible refine vNil ?_ | with_reducible refine vCons ?_ | with_reducible refine vCB ?_ | with_reducible refine vCall ?_
 | with_reducible refine vLst ?_ | with_reducible refine vTup ?_ | with_reducible refine vTest ?_ | with_reducible refine vB ?_ | with_reducible refine vNot ?_ | with_reducible refine vAnd ?_ | with_reducible refine vOr ?_
 | with_reducible refine vAndV ?_ | with_reducible refine vOrV ?_ | with_reducible refine vNotV ?_ | with_reducible refine vYes ?_ | with_reducible refine vLeI ?_ | with_reducible refine vLeS ?_ | with_reducible refine vIsB ?_ | with_reducible refine vAddI ?_ | with_reducible refine vSl ?_ | with_reducible refine vNoPart ?_ | with_reducible refine vPart ?_ | with_reducible refine vExI ?_ | with_reducible refine vBM ?_ | with_reducible refine vBM0 ?_ | with_reducible refine vComp ?_ | with_reducible refine vFor ?_ | with_reducible refine vRng1 ?_ | with_reducible refine vAny ?_ | with_reducible refine vGN ?_ | with_reducible refine vI0 ?_ | with_reducible refine vEqI ?_ | with_reducible refine vEqB ?_ | with_reducible refine vEx ?_ | with_reducible refine vDrop ?_ | with_reducible refine vRetN ?_ | with_reducible refine vFldU ?_ | with_reducible refine vSFldU ?_ | with_reducible refine vXMake ?_ | with_reducible refine vMake ?_ | with_reducible refine vMeth ?_ | with_reducible refine vVinit ?_ | with_reducible refine vCallS ?_ | with_reducible refine vRaise ?_ | with_reducible refine vMethS ?_ | with_reducible refine vMakeS ?_ | with_reducible refine vUn ?_ | with_reducible refine vIf ?_ | with_reducible refine vRev ?_ | with_reducible refine vEnum ?_ | with_reducible refine vDGet2 ?_ | with_reducible refine vStep ?_)
local macro_rules | `(tactic| walk_at "v")=>`(tactic| repeat walk_at "w")
local macro_rules | `(tactic| ext)=>`(tactic| walk_at "v")
local macro_rules | `(tactic| apply $e)=>`(tactic| (ext;refine $e))
def fAtt:LS:=["board","partners","rows","parents","bases","rings","waiting","longer"]
def qe1(_:Nat):Str:="found"
structure Txt(K:W.Frag)(mg:Str->Option Value)(cc:Nat->Addr)(cw:Addr):Prop where
 b_len:mg "len"=none
 b_int:mg "int"=none
 b_enumerate:mg "enumerate"=none
 b_all:mg "all"=none
 b_max:mg "max"=none
 b_min:mg "min"=none
 b_isinstance:mg "isinstance"=none
 b_bool:mg "bool"=none
 b_str:mg "str"=none
 b_range:mg "range"=none
 b_list:mg "list"=none
 b_tuple:mg "tuple"=none
 b_ValueError:mg "ValueError"=none
 g_LONGEST_NAME:∃ tk,mg "LONGEST_NAME"=some (.int 6 tk)
 g_MOST_PLACES:∃ tk,mg "MOST_PLACES"=some (.int 14 tk)
 g_MOST_TIES:∃ tk,mg "MOST_TIES"=some (.int 30 tk)
 m_NoPairs:mg "NoPairs"=some (.ref (cc 0))
 m_NoPlace:mg "NoPlace"=some (.ref (cc 1))
 m_NoBar:mg "NoBar"=some (.ref (cc 2))
 m_OnceError:mg "OnceError"=some (.ref (cc 3))
 vinit:VInit K
 xat:∀ i,i<3+1->XAt K (cc i)
 na:∀ i,i<3->NoAttr K (cc i) (qe1 i)
 kit:∀ i j,i<3->j<3->W.kitOne K (.ref (cc i)) (.ref (cc j))=some (decide (i=j))
 kitV:∀ i,i<3+1->W.kitOne K (.ref (cc i)) (.type "ValueError")=some true
 mroO:∀ i,i<3->W.mroIn K (cc i) (.ref (cc 3))=some true
 wcl:Cls K cw
 wn:NoAttr K cw "numbers"
 wo:NoAttr K cw "order"
 wr:NoAttr K cw "near"
 m_Web:mg "Web"=some (.ref cw)
 m_Forest:mg "Forest"=some (.ref (cc 9))
 fcl:Cls K (cc 9)
 fa:∀ a∈fAtt,NoAttr K (cc 9) a
 b_set:mg "set"=none
 b_repr:mg "repr"=none
 smod:∃ o,K.lookup sysModules=some o
inductive spOnce(K:W.Frag)(vs:List V)(H:Hp)(Q:VK)(E:XK):Prop|mk (e C:Addr) (y:V) (_:vs=[.ref e,y]) (_:H e=some (XN e C none)) (_:XAt K C) (_:Q .non H)
inductive spX(C:Addr)(fl:Str)(vs:List V)(H:Hp)(Q:VK)(E:XK):Prop|mk (e:Addr) (v:V) (_:vs=[.ref e,v]) (_:H e=some (XN e C none)) (_:∀ dx,H dx=none->Q .non (upd (upd H dx (.xd [(fl,v)])) e (XN e C (some dx))))
theorem qa8{g:Str}{y:V}(c:XAt K C)(q:∀ dx H',L2.Same H1 H'->H' dx=some (.xd [(g,y)])->E (.ref C) (some dx) H') :
  [y].length<=1000/\∀ x,H1 x=none->spX C g (.ref x::[y]) (upd H1 x (XN x C none)) (λv H2=>v=.non/\∃ a f dx,(V.ref x)=.ref a/\H2 a=some (XN a f dx)/\XAt K f/\E (.ref f) dx (upd H2 a (XO a f dx))) E0:=by
 show⟨by show 1<=1000;decide,λx h=>⟨x,y,rfl,qb,λdx d=>⟨rfl,x,C,some dx,rfl,qb,c,q dx _ (λb o e=>?_) ?_⟩⟩⟩
 .have nx:b≠x:=λz=>by rw[z,h] at e;cases e
  have nd:b≠dx:=λz=>by rw[<- z,qg nx,e] at d;cases d
  rw[qg nx,qg nx,qg nd,qg nx];show e
 .have nx:dx≠x:=λz=>by rw[z,qb] at d;cases d
  rw[qg nx,qg nx,qb]
def Rz(a:Nat->Addr)(H:Hp)(E:XK)(r:Nat×V):Prop:=∀ dx H',L2.Same H H'->H' dx=some (.xd [(qe1 r.1,r.2)])->E (.ref (a r.1)) (some dx) H'
theorem Rz.later{a:Nat->Addr}{r:Nat×V}(h:Rz a H E r)(s:L2.Same H H1):Rz a H1 E r:=λdx H' t e=>h dx H' (s.trans t) e
section
variable{P:Program}{w:World}{K:W.Frag}{mg:Str->Option Value}{base:Heap}{cc:Nat->Addr}{cw:Addr}{f:Addr}{fd:FuncData}
theorem ok_once(F:Fun K "__init__" "OnceError.__init__" jD f fd)(T:Txt K mg cc cw):wqP 1 f fd wqx (spOnce K):=by
 show F.ok uC λ_ _ _ _ H vs Q E b h=>?_
 .obtain⟨e,C,y,rfl,a,c,q⟩:=h;show⟨_,(qe (qE (k_vinit (K:=K) rfl T.vinit rfl T.b_ValueError boot_ValueError (qa (pv 0) (qa (pv 1) qd))))),?_⟩;apply⟨e,C,y,rfl,a,c,q⟩
theorem ok_NoPairs(F:Fun K "__init__" "NoPairs.__init__" j4 f fd)(T:Txt K mg cc cw)(b:CMethOk P w K mg base CX0 1 (cc 3) "OnceError" "__init__" wqx (spOnce K)) :
  wqP 2 f fd wZ (spX (cc 0) (qe1 0)):=by
 show F.ok uI λ_ _ _ _ H vs Q E c h=>?_
 .obtain⟨e,v,rfl,a,q⟩:=h;show⟨_,(qc (qE (qdR b (hmR c) (qa (pv 0) (qa jJ qd))))
 (qe (qS (K:=K) rfl (pv 0) (pv 1) rfl))),?_⟩
  apply⟨e,_,_,rfl,a,T.xat 0 (by decide),?_⟩;apply .inr ⟨e,_,rfl,a,T.xat 0 (by decide),T.na 0 (by decide),q⟩
theorem ok_NoPlace(F:Fun K "__init__" "NoPlace.__init__" j3 f fd)(T:Txt K mg cc cw)(b:CMethOk P w K mg base CX0 1 (cc 3) "OnceError" "__init__" wqx (spOnce K)) :
  wqP 2 f fd wZ (spX (cc 1) (qe1 1)):=by
 show F.ok uH λ_ _ _ _ H vs Q E c h=>?_
 .obtain⟨e,v,rfl,a,q⟩:=h;show⟨_,(qc (qE (qdR b (hmR c) (qa (pv 0) (qa jJ qd))))
 (qe (qS (K:=K) rfl (pv 0) (pv 1) rfl))),?_⟩
  apply⟨e,_,_,rfl,a,T.xat 1 (by decide),?_⟩;apply .inr ⟨e,_,rfl,a,T.xat 1 (by decide),T.na 1 (by decide),q⟩
theorem uJ:FnScope wqC wqC (qh zo):=fS
theorem uZ:FnScope wqt wqt (qh qaO):=fS
theorem uD:FnScope wO wO (qh zL):=fS
theorem KE:FnScope ["numbers","thing","both"] wO (qh ji):=fS
theorem qz(a:L2.Same H H1)(hl:H1 l=none):L2.Same H (upd H1 l o):=λc u e=>by
 have q:=a c u e;rw[qg (qN q hl)];show q
theorem qa9(a:L2.Same H H1)(hl:H l=none):L2.Same H (upd H1 l o):=λc u e=>by
 rw[qg (qN e hl)];show a c u e
def sg(c:Nat):Bool:=if (!decide (([c]:LN)<("a":Str).cps.toList))=true then !decide (("z":Str).cps.toList < [c]) else false
def jf(x:Str):Bool:=if 1<=x.length/\x.length<=6 then x.cps.toList.all sg else false
theorem qdU{x:Str}(h:jf x=true):1<=x.length/\x.length<=6/\x.cps.toList.all sg=true:=by
 unfold jf at h;split at h
 .rename_i z;show⟨z.1,z.2,h⟩
 .cases h
theorem nameS_len(h:jf s=true):s.length<=6:=(qdU h).2.1
structure All2{α β:Type}(R:α->β->Prop)(l:List α)(m:List β):Prop where
 len:l.length=m.length
 at_:∀(k:Nat) a b,l[k]?=some a->m[k]?=some b->R a b
theorem All2.nil{R:α->β->Prop}:All2 R [] []:=⟨rfl,λk a b h=>by simp at h⟩
theorem All2.mono{R S:α->β->Prop}{l:List α}{m:List β}(h:All2 R l m)(f:∀ a b,R a b->S a b):All2 S l m:=⟨h.len,λk a b x y=>f a b (h.at_ k a b x y)⟩
theorem All2.snoc{R:α->β->Prop}{l:List α}{m:List β}{x:α}{y:β}(h:All2 R l m)(r:R x y):All2 R (l++[x]) (m++[y]):=by
 show⟨by rw[yu,yu,h.len];rfl,λk a b c hb=>?_⟩;by_cases d:k<l.length
 .rw [yX d] at c;rw[yX (by rw[<- h.len];show d)] at hb;show h.at_ k a b c hb
 .rw [yH (by lk)] at c;rw[yH (by rw[<- h.len];lk)] at hb
  have e:k-l.length=0:=by
   have:=(yc.mp c).1;simp at this;lk
  rw[<- h.len] at hb;rw[e] at c hb;cases c;cases hb;show r
theorem All2.mem{R:α->β->Prop}{l:List α}{m:List β}(h:All2 R l m){x:α}(c:x∈l):∃ y∈m,R x y:=by
 obtain⟨k,b,e⟩:=xn c;have a:k<m.length:=by rw[<- h.len];show b
 show⟨m[k],Xe a,h.at_ k x m[k] (by rw[yb b,e]) (yb a)⟩
def PL(H:Hp)(l:Addr)(ts:LX)(tps:LP):Prop:=H l=some (.lst (ts.map V.ref))/\All2 (λt ab=>H t=some (.tup [.str ab.1,.str ab.2])) ts tps
theorem PL.same(h:PL H l ts tps)(s:L2.Same H H'):PL H' l ts tps:=⟨s _ _ h.1,h.2.mono λ_ _ z=>s _ _ z⟩
inductive spName(vs:List V)(H:Hp)(Q:VK)(E:XK):Prop|mk (x:Str) (_:vs=[.str x]) (_:jf x=true) (_:∀ H',L2.Same H H'->Q (.bl true) H')
theorem ok_name(F:Fun K "is_name" "is_name" zo f fd)(T:Txt K mg cc cw):wqP 1 f fd wqC spName:=by
 show F.ok uJ λ_ _ _ _ H vs Q E s h=>?_
 .obtain⟨x,rfl,m,q⟩:=h;obtain⟨t,p,r⟩:=qdU m;show⟨_,(qc (qI (PW.pt (zu (qU (qT (qr (qad (K:=K) rfl) rfl T.b_isinstance YD (qa (pv 0) (qa (jK (v:=.ty "str") rfl T.b_str boot_str rfl) qd))))) (zk (qU (qdz qfi qfi qf (qr (zg (K:=K) rfl) rfl T.b_len YQ (qa (pv 0) qd)) (qbo rfl T.g_LONGEST_NAME)))))) (qe (qq jd)) qw)
 (qe (qq (qr (qgg (K:=K) rfl rfl) rfl T.b_all boot_all (qa (jG (sc:=qh zo) (XN:=wqC) ["sign"] 1 [] rfl rfl rfl (by room) rfl (by room)
  (jh (K:=K) rfl (pv 0)) (λ_ _ _ _=>(qu (i:=0) (show(["sign"]:LS).Nodup by room) rfl (yK rfl))) jF
  (λ_ _ _ _=>jP)
  (λ_ _ _ _=>(qdy qfi qfi jJ (pv 0) jJ))) qd))))),?_⟩
  apply qa7 (.inl (.str x)) rfl (zc K "str" (by simp) "str" (by simp)) ?_;apply yr ?_;apply qgf (yi p (by decide)) ?_;apply qL (λh1=>?_) λh1=>absurd (yA (by lk)) h1;apply qL (λg=>by simp only[Y6,xj] at g;lk) λg=>?_;apply qdJ (λi ys H'=>H'=H/\ys=((x.cps.toList.take i).map sg).map V.bl) ⟨rfl,by simp⟩ (λi c ys H' hc e=>?_) λys H' e=>?_
  .obtain⟨rfl,rfl⟩:=e;apply zd ?_;ext
   have hl:(List.map V.bl (List.map sg (List.take i x.cps.toList))).length<sizeLine:=by
    rw[ya,ya,yU];show qv (yi (kh _ _) (by simpa [Str.length] using(show x.length<=1000 by lk)))
   have a:∀ b,b=sg c->(List.map V.bl (List.map sg (List.take i x.cps.toList)))++[V.bl b]=List.map V.bl (List.map sg (List.take (i+1) x.cps.toList)):=by
    intro b hb;have j:x.cps.toList[i]?=some c:=by simpa using hc
    rw[hb,yY,j];simp
   show qL (λd=>?_) λd=>⟨hl,rfl,a _ (by unfold sg;rw[yF d])⟩;apply⟨hl,rfl,a _ (by unfold sg;rw[yG d])⟩
  .obtain⟨rfl,rfl⟩:=e;have n:x.cps.toList.take x.cps.size=x.cps.toList:=by rw[<- Y5,Ye]
   rw[n];show⟨?_,λl hl=>?_⟩
   .rw [ya,ya];show yS (qv (by simpa [Str.length] using(show x.length<=1000 by lk)))
   .ext;show⟨l,x.cps.toList.map sg,rfl,SqL.of qb,?_⟩;have z:=q _ (qz (Sr H') (o:=.lst ((x.cps.toList.map sg).map V.bl)) hl);rw[Kc];rw[<- r] at z;show z
inductive spBit(vs:List V)(H:Hp)(Q:VK)(E:XK):Prop|mk (b n:Int) (_:vs=[.int b,.int n]) (_:0<=n) (_:Q (.bl (decide (Builtin.bitAnd (b / 2 ^ n.toNat) 1=1))) H)
theorem ok_bit(F:Fun K "has_bit" "has_bit" qaO f fd):wqP 1 f fd wqt spBit:=by
 show F.ok uZ λ_ _ _ _ H vs Q E c h=>?_
 .obtain⟨b,n,rfl,a,q⟩:=h;have d:=ze c;show⟨_,(qe (qq (za (zn (K:=K) rfl d) (qt zm (qt qbH (pv 0) (pv 1)) qf) qf (qy _)))),?_⟩;apply vI a ?_;apply .inl (.inl (.inl ⟨rfl,rfl,?_⟩));show q
def qbp:LS->Nat->List (Key×V)
 | [],_=>[]
 | s::r,i=>(.inr s,.int i)::qbp r (i+1)
theorem qcY(y:Str):∀(ss:LS) (i:Nat),qbp (ss++[y]) i=qbp ss i++[(.inr y,.int (i+ss.length:Nat))]
 | [],i=>rfl
 | s::r,i=>by
  show(_::qbp (r++[y]) (i+1))=_::(qbp r (i+1)++_);rw[qcY y r (i+1)];have:i+1+r.length=i+(s::r).length:=by simp;lk
  rw[this]
theorem zW:∀(ss:LS) (i:Nat),(qbp ss i).length=ss.length
 | [],_=>rfl
 | _::r,i=>congrArg (· + 1) (zW r (i+1))
theorem qbV:∀{ss:LS} {i:Nat},y∉ss->zv (qbp ss i) (.inr y:Key)=none
 | [],_,_=>rfl
 | s::r,i,h=>by
  have h1:¬ s=y:=λe=>h (by rw[e];show yL);show zv ((.inr s,V.int i)::qbp r (i+1)) _=none;rw[q8 (p:=((.inr s:Key),V.int i)) (λe=>h1 (xU e))];show qbV λm=>h (yE _ m)
theorem zM:∀{ss:LS} {i:Nat},y∈ss->∃ j,j<ss.length/\ss[j]?=some y/\zv (qbp ss i) (.inr y:Key)=some (.int (i+j:Nat))
 | [],_,h=>by cases h
 | s::r,i,h=>by
  by_cases e:s=y
  .subst e;show⟨0,by simp,rfl,jl (p:=((.inr s:Key),V.int i)) rfl⟩
  .rcases yv.mp h with z | z
   .show absurd z.symm e
   .obtain⟨j,h1,b,c⟩:=zM (i:=i+1) z;show⟨j+1,by simp;lk,by simpa using b,?_⟩;show zv ((.inr s,V.int i)::qbp r (i+1)) _=_;rw[q8 (p:=((.inr s:Key),V.int i)) (λa=>e (xU a)),c];have:i+1+j=i+(j+1):=by lk
    rw[this]
theorem qaF(y:Str)(ss:LS)(i:Nat):(zv (qbp ss i) (.inr y:Key)).isSome=decide (y∈ss):=by
 by_cases h:y∈ss
 .obtain⟨j,_,_,e⟩:=zM (i:=i) h;rw[e,yA h];rfl
 .rw [qbV h,ym h];rfl
inductive spPlace(vs:List V)(H:Hp)(Q:VK)(E:XK):Prop|mk (d:Addr) (ss:LS) (x:Str) (_:vs=[.ref d,.str x]) (_:H d=some (.dK (qbp ss 0))) (_:jf x=true) (_:x∈ss) (_:∀ H',L2.Same H H'->Q (.bl true) H')
theorem ok_place(F:Fun K "is_place" "is_place" zL f fd)(c:wqN 1 "is_name" wqC spName):wqP 2 f fd wO spPlace:=by
 show F.ok uD λ_ _ _ _ H vs Q E a h=>?_
 .obtain⟨d,ss,x,rfl,e,g,j,q⟩:=h;have i:=ze a;show⟨_,(qe (qq (qbg (qx c (hmR a) qF (qa (pv 1) qd)) (qbf (za (qaf (K:=K) rfl i) (pv 1) (pv 0) (by with_unfolding_all rfl)))))),?_⟩;apply⟨x,rfl,g,λH1 b=>?_⟩;apply zd ?_;apply .inr (.inl ⟨d,_,rfl,DGet.k (k:=Sum.inr x) (b d _ e),?_⟩);rw[qaF,yA j];show q H1 b
inductive spTwo(vs:List V)(H:Hp)(Q:VK)(E:XK):Prop|mk (d t:Addr) (ss:LS) (a b:Str) (_:vs=[.ref d,.ref t]) (_:H d=some (.dK (qbp ss 0))) (_:H t=some (.tup [.str a,.str b])) (_:jf a=true) (_:jf b=true) (_:a∈ss) (_:b∈ss) (_:a≠b) (_:∀ H',L2.Same H H'->Q (.bl true) H')
theorem ok_two(F:Fun K "are_two_places" "are_two_places" ji f fd)(T:Txt K mg cc cw)(o:wqN 2 "is_place" wO spPlace):wqP 3 f fd wO spTwo:=by
 show F.ok KE λ_ _ _ _ H vs Q E m h=>?_
 .obtain⟨d,t,ss,a,b,rfl,p,c,s,nb,r,hb,l,q⟩:=h;have g:=ze m;show⟨_,(qc (qI (PW.pt (zu (qU (qT (qr (qad (K:=K) rfl) rfl T.b_isinstance YD (qa (pv 1) (qa (jK (v:=.ty "tuple") rfl T.b_tuple kJ rfl) qd))))) (zk (qj (qae (K:=K) rfl g) (qr (zg (K:=K) rfl) rfl T.b_len YQ (qa (pv 1) qd)) qf (qy _))))) (qe (qq jd)) qw)
 (qc (qm (i:=2) KE.nd rfl (yK rfl) (qbg (qx o (hmR m) qF (qa (pv 0) (qa (qo (qp (K:=K) rfl g) (pv 1) qf (λ_ _=>rfl)) qd))) (qbf (qx o (hmR m) qF (qa (pv 0) (qa (qo (qp (K:=K) rfl g) (pv 1) qf (λ_ _=>rfl)) qd))))))
 (qe (qq (qbg (pv 2) (qbf (za (qae (K:=K) rfl g) (qo (qp (K:=K) rfl g) (pv 1) qf (λ_ _=>rfl)) (qo (qp (K:=K) rfl g) (pv 1) qf (λ_ _=>rfl)) (qy _)))))))),?_⟩
  apply qa7 (.inl (.tup c)) rfl (zc K "tuple" (by simp) "tuple" (by simp)) ?_;apply yr ?_;apply qfN c ?_;apply .inl ⟨rfl,rfl,?_⟩;apply yr ?_;apply .inl (qaH c rfl ?_);apply⟨d,ss,a,rfl,p,s,r,λH1 j=>?_⟩;apply zd ?_;apply .inl (qaH (j _ _ c) rfl ?_);apply⟨d,ss,b,rfl,j _ _ p,nb,hb,λH2 n=>?_⟩;apply zd ?_;apply .inl (qaH (n _ _ (j _ _ c)) rfl ?_);apply .inl (qaH (n _ _ (j _ _ c)) rfl ?_);show .inl ⟨rfl,rfl,?_⟩;have z:=q H2 (j.trans n);have e:(if true=true then !eqV (V.str a) (V.str b) else eqV (V.str a) (V.str b))=true:=by simp[eqV,l]
  rw[e];show z
theorem K4:FnScope ["names","numbers","name"] ["names"] (qh zy):=fS
theorem qba(m j:Nat):decide (Builtin.bitAnd ((m:Int) / 2 ^ (j:Int).toNat) 1=1)=m.testBit j:=by
 rw[XZ,Nat.testBit_eq_decide_div_mod_eq];rw[yV];have e:(m:Int) / 2 ^ j=((m / 2 ^ j:Nat):Int):=by rw[Int.natCast_ediv,Xl];rfl
 rw[e]
 congr 1
 apply propext;lk
theorem qdV(m j:Nat):Builtin.bitOr (m:Int) (1*2 ^ (j:Int).toNat)=((m ||| 2 ^ j:Nat):Int):=by
 have e:(1*2 ^ (j:Int).toNat:Int)=((2 ^ j:Nat):Int):=by rw[yV,Km,Xl];rfl
 rw[e];generalize 2 ^ j=k;have c:Builtin.bitNot (m:Int)=-(m:Int)-1:=rfl;have d:Builtin.bitNot (k:Int)=-(k:Int)-1:=rfl;unfold Builtin.bitOr Builtin.bitAnd;rw[c,d,ym (by lk),ym (by lk)];dsimp only;unfold Builtin.bitNot;have a:(-(-(m:Int)-1)-1).toNat=m:=by lk
 have b:(-(-(k:Int)-1)-1).toNat=k:=by lk
 rw[a,b];lk
def But(x:Addr)(H H':Hp):Prop:=∀ b o,b≠x->H b=some o->H' b=some o
theorem But.refl(x:Addr)(H:Hp):But x H H:=λ_ _ _ e=>e
theorem But.same(a:But x H H1)(b:L2.Same H1 H2):But x H H2:=λc o n e=>b c o (a c o n e)
theorem But.put(a:But x H H1):But x H (upd H1 x o):=λc u n e=>by rw[qg n];show a c u n e
theorem But.new(a:But x H H1)(hl:H1 l=none):But x H (upd H1 l o):=a.same (qz (Sr H1) hl)
theorem qeF{a q:Addr}{Q:VK}(h:H a=some (.lst xs))(b:H q=some (.tup [.ty "list",.ty "tuple"]))(k:Q (.bl true) H):qfs K [.ref a,.ref q] H Q:=
 ⟨_,q,_,_,[.type "list",.type "tuple"],true,rfl,.inl (.lst h),b,rfl,rfl,k⟩
inductive spNums(vs:List V)(H:Hp)(Q:VK)(E:XK):Prop|mk (a:Addr) (ss:LS) (_:vs=[.ref a]) (_:H a=some (.lst (ss.map V.str))) (_:ss.length<=14) (_:ss.Nodup) (_:(∀ s∈ss,jf s=true)) (_:∀ d H',L2.Same H H'->H d=none->H' d=some (.dK (qbp ss 0))->Q (.ref d) H')
theorem ok_nums(F:Fun K "numbers_of" "numbers_of" zy f fd)(T:Txt K mg cc cw)(L:wqN 1 "is_name" wqC spName) :
  wqP 4 f fd ["names"] spNums:=by
 show F.ok K4 λ_ _ _ _ H vs Q E D h=>?_
 .obtain⟨a,ss,rfl,l,M,p,r,q⟩:=h;have G:=ze D;show⟨_,(qc (qI (qU (qT (qr (qdg (K:=K) rfl) rfl T.b_isinstance YD (qa (pv 0) (qa (jm (qa (jK (v:=.ty "list") rfl T.b_list xz rfl) (qa (jK (v:=.ty "tuple") rfl T.b_tuple kJ rfl) qd))) qd))))) (qe jL) qw)
 (qc (qI (qj qej (qr (zg (K:=K) rfl) rfl T.b_len YQ (qa (pv 0) qd)) (qbo rfl T.g_MOST_PLACES) (qy _)) (qe jL) qw)
 (qc (qm (i:=1) K4.nd rfl (yK rfl) jr)
 (qc (qX yT rfl (jh (K:=K) rfl (pv 0)) (qu (i:=2) K4.nd rfl (yK rfl))
 (qc (qI (qU (qT (qx L (hmR D) qF (qa (pv 2) qd)))) (qe jL) qw)
 (qc (qI (qj (qaf (K:=K) rfl G) (pv 2) (pv 1) (by with_unfolding_all rfl)) (qe jL) qw)
 (qe (jN (qr (zg (K:=K) rfl) rfl T.b_len YQ (qa (pv 1) qd)) (jM (pv 1) (pv 2) (jQ G)))))))
 (qe (qq (pv 1))))))),?_⟩
  apply⟨wqS,λg N=>?_⟩;have m:=qz (Sr H) (o:=.tup [.ty "list",.ty "tuple"]) N;apply qeF (m _ _ l) qb ?_;apply yr ?_;apply qac (m _ _ l) ?_;rw[ya];apply qL (λh=>by have:=yk h;lk) λ_=>?_;ext;intro d B;have J:=qz m (o:=.dK []) B;have c:H d=none:=m.free B;apply .inl ⟨⟨_,SqL.of (J _ _ l)⟩,qP (K:=K) (λi σ H'=>∃ u,σ=[some (.ref a),some (.ref d),u]/\L2.Same H H'/\H' d=some (.dK (qbp (ss.take i) 0))) ⟨none,rfl,J,qb⟩ (λi σ H' _ e=>by obtain⟨_,_,z,_⟩:=e;show SqL.of (z _ _ l)) (λi y σ H' I e=>?_) fun σ H' e=>?_⟩
  .obtain⟨u,rfl,t,b⟩:=e;rw[yd] at I;obtain⟨x,s,rfl⟩:=yo.mp I;have O:i<ss.length:=(yc.mp s).1;have j:ss.take (i+1)=ss.take i++[x]:=by rw[yY,s];rfl
   have C:x∉ss.take i:=λz=>by
    have A:(ss.take (i+1)).Nodup:=p.sublist (kL _ _);rw[j] at A;show(Yg.mp A).2.2 _ z x (by simp) rfl
   apply⟨x,rfl,r x (ye s),λH1 n=>?_⟩;have R:=t.trans n;apply yr ?_;apply .inr (.inl ⟨d,_,rfl,DGet.k (k:=Sum.inr x) (n _ _ b),?_⟩);rw[qaF,ym C];apply yr ?_;apply .inr ⟨_,n _ _ b,?_⟩;apply .inr ⟨d,_,rfl,DPut.k (k:=Sum.inr x) (n _ _ b) (qv (by rw[zW,yU];lk)),?_⟩;show⟨_,rfl,qa9 R c,?_⟩;rw[qb,qbn _ (qbV C),j,qcY,zW];simp only[Xz]
  .obtain⟨u,rfl,t,b⟩:=e;ext;rw[ya,Ye] at b;show q d H' t c b
theorem uW:FnScope wqi wqi (qh qat):=fS
theorem KR:FnScope ["numbers","ties","near","tie","one","other"] wqM (qh qaP):=fS
def qbW(ss:LS)(ns:LN)(seen:LP):Prop:=ns.length=ss.length/\(∀ a,ns.getD a 0<2 ^ ss.length)/\∀ a b s t,ss[a]?=some s->ss[b]?=some t->(ns.getD a 0).testBit b=decide ((s,t)∈seen\/(t,s)∈seen)
theorem qC(h:ss.Nodup){a b:Nat}(i:ss[a]?=some s)(hb:ss[b]?=some s):a=b:=by
 have e:=YL.mp h;obtain⟨f,c⟩:=yc.mp i;obtain⟨g,d⟩:=yc.mp hb;rcases kQ a b with q | q | q
 .show absurd (c.trans d.symm) (e a b f g q)
 .show q
 .show absurd (d.trans c.symm) (e b a g f q)
theorem bits_zero:qbW ss (List.replicate ss.length 0) []:=by
 have z:∀ a,(List.replicate ss.length 0).getD a 0=0:=λa=>by
  simp only[List.getD,Xa];split<;>rfl
 show⟨by simp,λa=>by rw[z a];show Xm _,λa b s t c hb=>?_⟩;rw[z a];simp
theorem zA{v:Nat}(h:i<ns.length):(ns.set i v).getD j 0=if i=j then v else ns.getD j 0:=by
 simp only[List.getD,List.getElem?_set];by_cases e:i=j
 .subst e;simp[h]
 .simp [e]
theorem bits_step{seen:LP}(hb:qbW ss ns seen)(n:ss.Nodup)(d:ss[i]?=some s)(g:ss[j]?=some t)(m:s≠t) :
  qbW ss ((ns.set i (ns.getD i 0 ||| 2 ^ j)).set j (ns.getD j 0 ||| 2 ^ i)) (seen++[(s,t)]):=by
 obtain⟨hl,l,h⟩:=hb;have A:i<ns.length:=by rw[hl];show(yc.mp d).1
 have B:j<ns.length:=by rw[hl];show(yc.mp g).1
 have D:i≠j:=λe=>by rw[e,g] at d;cases d;show m rfl
 have x:i<ss.length:=(yc.mp d).1;have y:j<ss.length:=(yc.mp g).1;show⟨by simp[hl],λa=>?_,λa b u v f c=>?_⟩
 .rw [zA (by simpa using B),zA A];split
  .show X5 (l _) (Xr (by decide) x)
  .split
   .show X5 (l _) (Xr (by decide) y)
   .show l _
 rw[zA (by simpa using B),zA A];have o:=h a b u v f c;have C:∀ P Q:Prop,(P↔Q)->∀ [Decidable P] [Decidable Q],decide P=decide Q:=λP Q e=>by intro _ _;show Ym.mpr e
 by_cases r:j=a
 .subst r;rw[g] at f;cases f;rw[yG rfl,X6,o,Yt];by_cases q:i=b
  .subst q;rw[d] at c;cases c;simp
  .have vs:v≠s:=λe=>by subst e;show q (qC n d c)
   simp only[q,Kp,Kn];apply Ym.mpr;simp only[yw,yx,XE];constructor
   .rintro (z | z)
    .show .inl (.inl z)
    .show .inr (.inl z)
   .rintro ((z | ⟨z,_⟩) | (z | ⟨z,_⟩))
    .show .inl z
    .show absurd z.symm m
    .show .inr z
    .show absurd z vs
 .rw [yF r];by_cases p:i=a
  .subst p;rw[d] at f;cases f;rw[yG rfl,X6,o,Yt];by_cases w:j=b
   .subst w;rw[g] at c;cases c;simp
   .have F:v≠t:=λe=>by subst e;show w (qC n g c)
    simp only[w,Kp,Kn];apply Ym.mpr;simp only[yw,yx,XE];constructor
    .rintro (z | z)
     .show .inl (.inl z)
     .show .inr (.inl z)
    .rintro ((z | ⟨_,z⟩) | (z | ⟨_,z⟩))
     .show .inl z
     .show absurd z F
     .show .inr z
     .show absurd z m
  .rw [yF p,o];have us:u≠s:=λe=>by subst e;show p (qC n d f)
   have E:u≠t:=λe=>by subst e;show r (qC n g f)
   apply Ym.mpr;simp only[yw,yx,XE];constructor
   .rintro (z | z)
    .show .inl (.inl z)
    .show .inr (.inl z)
   .rintro ((z | ⟨z,_⟩) | (z | ⟨_,z⟩))
    .show .inl z
    .show absurd z us
    .show .inr z
    .show absurd z E
def zB(ns:LN):List V:=ns.map λ(n:Nat)=>.int (n:Int)
theorem jt(h:i<ns.length):(zB ns)[i]?=some (.int (ns.getD i 0:Nat)):=by
 unfold zB;rw[yd,yb h];simp[List.getD,h]
theorem qbq(ns:LN)(i m:Nat):(zB ns).set i (.int m)=zB (ns.set i m):=by
 unfold zB;rw[List.map_set]
theorem qcZ(k:Nat):(List.replicate k [V.int 0]).flatten=zB (List.replicate k 0):=by
 induction k with
 | zero=>rfl
 | succ k ih=>rw[xB,Xo,ih];rfl
theorem qcp(h:j<n):ixN n (j:Int)=some j:=by
 unfold ixN;rw[yG (by lk),yG (by lk)];rfl
def UN(x y:Str×Str):Prop:=x≠y/\x≠(y.2,y.1)
structure TGo(ss:LS)(tps:LP):Prop where
 few:tps.length<=30
 inn:∀ ab∈tps,ab.1∈ss/\ab.2∈ss/\ab.1≠ab.2
 un:tps.Pairwise UN
structure WOk(ss:LS)(ns:LN):Prop where
 len:ns.length=ss.length
 few:ss.length<=14
 nd:ss.Nodup
 lt:∀ a,ns.getD a 0<2 ^ ss.length
 nm:∀ s∈ss,jf s=true
inductive WebAt(cw:Addr)(H:Hp)(x:Addr)(ss:LS)(ns:LN):Prop|mk (dx d ol n:_) (_:H x=some (.ins cw dx (qG "near" (.ref n) (qG "order" (.ref ol) (qG "numbers" (.ref d) []))))) (_:H d=some (.dK (qbp ss 0))) (_:H ol=some (.lst (ss.map V.str))) (_:H n=some (.lst (zB ns))) (_:WOk ss ns)
theorem WebAt.same(h:WebAt cw H x ss ns)(s:L2.Same H H'):WebAt cw H' x ss ns:=by
 obtain⟨dx,d,ol,n,h1,a,b,c,e⟩:=h;show⟨dx,d,ol,n,s _ _ h1,s _ _ a,s _ _ b,s _ _ c,e⟩
inductive WebN(H0:Hp)(cw:Addr)(H:Hp)(x:Addr)(ss:LS)(ns:LN):Prop|mk (dx d ol n:_) (_:H x=some (.ins cw dx (qG "near" (.ref n) (qG "order" (.ref ol) (qG "numbers" (.ref d) []))))) (_:H d=some (.dK (qbp ss 0))) (_:H ol=some (.lst (ss.map V.str))) (_:H n=some (.lst (zB ns))) (_:WOk ss ns) (_:H0 d=none) (_:H0 ol=none) (_:H0 n=none)
theorem WebN.web(h:WebN H0 cw H x ss ns):WebAt cw H x ss ns:=by
 obtain⟨dx,d,ol,n,h1,a,b,c,e,_⟩:=h;show⟨dx,d,ol,n,h1,a,b,c,e⟩
inductive WebP(A:Addr->Prop)(cw:Addr)(H:Hp)(x:Addr)(ss:LS)(ns:LN):Prop|mk (dx d ol n:_) (_:H x=some (.ins cw dx (qG "near" (.ref n) (qG "order" (.ref ol) (qG "numbers" (.ref d) []))))) (_:H d=some (.dK (qbp ss 0))) (_:H ol=some (.lst (ss.map V.str))) (_:H n=some (.lst (zB ns))) (_:WOk ss ns) (_:¬ A x) (_:¬ A d) (_:¬ A ol) (_:¬ A n)
theorem WebP.web{A:Addr->Prop}(h:WebP A cw H x ss ns):WebAt cw H x ss ns:=by
 obtain⟨dx,d,ol,n,h1,a,b,c,e,_⟩:=h;show⟨dx,d,ol,n,h1,a,b,c,e⟩
theorem WebP.keep{A:Addr->Prop}(h:WebP A cw H x ss ns)(k:∀ b o,¬ A b->H b=some o->H' b=some o):WebP A cw H' x ss ns:=by
 obtain⟨dx,d,ol,n,h1,g,i,j,l,a,c,e,f⟩:=h;show⟨dx,d,ol,n,k _ _ a h1,k _ _ c g,k _ _ e i,k _ _ f j,l,a,c,e,f⟩
theorem WebN.apart{A:Addr->Prop}(h:WebN H0 cw H x ss ns)(m:¬ A x)(b:∀ a,A a->H0 a≠none):WebP A cw H x ss ns:=by
 obtain⟨dx,d,ol,n,h1,g,i,j,l,c,e,f⟩:=h;show⟨dx,d,ol,n,h1,g,i,j,l,m,λz=>b _ z c,λz=>b _ z e,λz=>b _ z f⟩
theorem qc0:∀(ss:LS) (i:Nat),(qbp ss i).map (λa=>kV a.1)=ss.map V.str
 | [],_=>rfl
 | s::r,i=>congrArg (V.str s::·) (qc0 r (i+1))
inductive spNear(vs:List V)(H:Hp)(Q:VK)(E:XK):Prop|mk (d l:Addr) (ss:LS) (ts:LX) (tps:LP) (_:vs=[.ref d,.ref l]) (_:H d=some (.dK (qbp ss 0))) (_:ss.length<=14) (_:ss.Nodup) (_:(∀ s∈ss,jf s=true)) (_:PL H l ts tps) (_:TGo ss tps) (_:∀ n ns H',L2.Same H H'->H n=none->H' n=some (.lst (zB ns))->qbW ss ns tps->Q (.ref n) H')
theorem ok_near(F:Fun K "near_of" "near_of" qaP f fd)(T:Txt K mg cc cw)(KC:wqN 3 "are_two_places" wO spTwo)(K2:wqN 1 "has_bit" wqt spBit) :
  wqP 4 f fd wqM spNear:=by
 show F.ok KR λ_ _ _ _ H vs Q E hr h=>?_
 .obtain⟨d,l,ss,ts,tps,rfl,W,ai,ae,G,⟨hl,D⟩,Y,q⟩:=h;have j:=ze hr;have L:=D.len;have few:=Y.few;show⟨_,(qc (qI (qU (qT (qr (qdg (K:=K) rfl) rfl T.b_isinstance YD (qa (pv 1) (qa (jm (qa (jK (v:=.ty "list") rfl T.b_list xz rfl) (qa (jK (v:=.ty "tuple") rfl T.b_tuple kJ rfl) qd))) qd))))) (qe jL) qw)
 (qc (qI (qj qej (qr (zg (K:=K) rfl) rfl T.b_len YQ (qa (pv 1) qd)) (qbo rfl T.g_MOST_TIES) (qy _)) (qe jL) qw)
 (qc (qm (i:=2) KR.nd rfl (yK rfl) (qt qdE (qB (qa qf qd)) (qr (zg (K:=K) rfl) rfl T.b_len YQ (qa (pv 0) qd))))
 (qc (qX yT rfl (jh (K:=K) rfl (pv 1)) (qu (i:=3) KR.nd rfl (yK rfl))
 (qc (qI (qU (qT (qx KC (hmR hr) qF (qa (pv 0) (qa (pv 3) qd))))) (qe jL) qw)
 (qc (qm (i:=4) KR.nd rfl (yK rfl) (qo (qp (K:=K) rfl j) (pv 0) (qo (qp (K:=K) rfl j) (pv 3) qf (λ_ _=>rfl)) (λ_ _=>rfl)))
 (qc (qm (i:=5) KR.nd rfl (yK rfl) (qo (qp (K:=K) rfl j) (pv 0) (qo (qp (K:=K) rfl j) (pv 3) qf (λ_ _=>rfl)) (λ_ _=>rfl)))
 (qc (qI (qT (qx K2 (hmR hr) qF (qa (qo (qp (K:=K) rfl j) (pv 2) (pv 4) (λ_ _=>rfl)) (qa (pv 5) qd)))) (qe jL) qw)
 (qc (jN (qt qe6 (qo (qp (K:=K) rfl j) (pv 2) (pv 4) (λ_ _=>rfl)) (qt zJ qf (pv 5))) (jM (pv 2) (pv 4) (jQ j)))
 (qe (jN (qt qe6 (qo (qp (K:=K) rfl j) (pv 2) (pv 5) (λ_ _=>rfl)) (qt zJ qf (pv 4))) (jM (pv 2) (pv 5) (jQ j))))))))))
 (qe (qq (pv 2))))))),?_⟩
  apply⟨wqS,λg Z=>?_⟩;have s0:=qz (Sr H) (o:=.tup [.ty "list",.ty "tuple"]) Z;apply qeF (s0 _ _ hl) qb ?_;apply yr ?_;apply qac (s0 _ _ hl) ?_;rw[ya];apply qL (λh=>by have:=yk h;lk) λ_=>?_;apply⟨wqR,λz ag=>?_⟩;have s1:=qz s0 (o:=.lst [.int 0]) ag;apply .inr ⟨_,s1 _ _ W,?_⟩;ext;rw[zW];show⟨z,_,_,rfl,rfl,qb,by lk,by lk,by show 1*_<=sizeLine;rw[yV];show yS (qv (by lk)),λn hn=>?_⟩;rw[yV,qcZ];have s2:=qz s1 (o:=.lst (zB (List.replicate ss.length 0))) hn;have n0:H n=none:=s1.free hn;apply .inl ⟨⟨_,SqL.of (s2 _ _ hl)⟩,qP (K:=K) (λi σ H'=>∃ v3 v4 v5 ns,σ=[some (.ref d),some (.ref l),some (.ref n),v3,v4,v5]/\L2.Same H H'/\H' n=some (.lst (zB ns))/\qbW ss ns (tps.take i))
   ⟨none,none,none,_,rfl,s2,qb,bits_zero⟩ (λi σ H' _ I=>by obtain⟨_,_,_,_,_,z,_⟩:=I;show SqL.of (z _ _ hl)) (λi y σ H' hy I=>?_) fun σ H' I=>?_⟩
  .obtain⟨v3,v4,v5,ns,rfl,N,A,a⟩:=I;rw[yd] at hy;obtain⟨t,ht,rfl⟩:=yo.mp hy;have aa:i<ts.length:=(yc.mp ht).1;obtain⟨⟨p,r⟩,u⟩:∃ ab,tps[i]?=some ab:=⟨_,yb (by rw[<- L];show aa)⟩;have U:=D.at_ i t _ ht u;obtain⟨m1,X,c⟩:=Y.inn _ (ye u);dsimp only at U m1 X c;have J:tps.take (i+1)=tps.take i++[(p,r)]:=by rw[yY,u];rfl
   have af:¬ ((p,r)∈tps.take i\/(r,p)∈tps.take i):=λz=>by
    have h3:(tps.take (i+1)).Pairwise UN:=Y.un.sublist (kL _ _);rw[J] at h3;have h4:=(List.pairwise_append.mp h3).2.2;rcases z with z | z
    .show(h4 _ z (p,r) (by simp)).1 rfl
    .show(h4 _ z (p,r) (by simp)).2 rfl
   obtain⟨C,ac,b,R⟩:=zM (i:=0) m1;obtain⟨B,ad,s,S⟩:=zM (i:=0) X;rw[Xz] at R S;have ah:C≠B:=λe=>by rw[e,s] at b;cases b;show c rfl
   have m:C<ns.length:=by rw[a.1];show ac
   have M:B<ns.length:=by rw[a.1];show ad
   apply⟨d,t,ss,p,r,rfl,N _ _ W,N _ _ U,G _ m1,G _ X,m1,X,c,λH1 t1=>?_⟩;have O:=N.trans t1;have x:=t1 _ _ A;apply yr ?_;apply .inl (qaH (O _ _ U) rfl ?_);show .inr ⟨d,.int C,rfl,?_,?_⟩
   .have:=DGet.k (k:=Sum.inr p) (O _ _ W);rw[R] at this;show this
   apply .inl (qaH (O _ _ U) rfl ?_);show .inr ⟨d,.int B,rfl,?_,?_⟩
   .have:=DGet.k (k:=Sum.inr r) (O _ _ W);rw[S] at this;show this
   apply .inl (j9 x (qk (jt m)) ?_);apply⟨_,_,rfl,by lk,?_⟩;rw[qba,a.2.2 C B p r b s,ym af];apply yr ?_;apply .inl (j9 x (qk (jt m)) ?_);apply vI ⟨by lk,by lk,by decide⟩ ?_;ext;rw[qdV];show .inl (qee x (qcp (by unfold zB;rw[ya];show m)) ?_);rw[qbq];ext;have e2:(ns.set C (ns.getD C 0 ||| 2 ^ B)).getD B 0=ns.getD B 0:=by rw[zA m,yF ah]
   show .inl (j9 qb (qk (jt (by simpa using M))) ?_);apply vI ⟨by lk,by lk,by decide⟩ ?_;ext;rw[qdV,e2];show .inl (qee qb (qcp (by unfold zB;rw[ya];simpa using M)) ?_);rw[qbq];show⟨_,_,_,_,rfl,qa9 (qa9 O n0) n0,qb,?_⟩;rw[J];show bits_step a ae b s c
  .obtain⟨v3,v4,v5,ns,rfl,N,A,a⟩:=I;ext;rw[ya,L,Ye] at a;show q n _ H' N n0 A a
inductive spWeb(cw:Addr)(vs:List V)(H:Hp)(Q:VK)(E:XK):Prop|mk (x dx a l:Addr) (ss:LS) (ts:LX) (tps:LP) (_:vs=[.ref x,.ref a,.ref l]) (_:H x=some (.ins cw dx [])) (_:H a=some (.lst (ss.map V.str))) (_:ss.length<=14) (_:ss.Nodup) (_:(∀ s∈ss,jf s=true)) (_:PL H l ts tps) (_:TGo ss tps) (_:∀ ns H',But x H H'->WebN H cw H' x ss ns->qbW ss ns tps->Q .non H')
theorem PL.but{fs:List (Str×V)}(h:PL H l ts tps)(a:H x=some (.ins C dx fs))(b:But x H H'):PL H' l ts tps:=
 ⟨b _ _ (qaZ h.1 a (by intro z;cases z)) h.1,h.2.mono λt ab e=>b _ _ (qaZ e a (by intro z;cases z)) e⟩
theorem ok_web(F:Fun K "__init__" "Web.__init__" qat f fd)(T:Txt K mg cc cw)(uT:wqN 4 "numbers_of" ["names"] spNums)(u6:wqN 4 "near_of" wqM spNear) :
  wqP 5 f fd wqi (spWeb cw):=by
 show F.ok uW λ_ _ _ _ H vs Q E M h=>?_
 .obtain⟨x,dx,a,l,ss,ts,tps,rfl,S,Y,j,nd,p,L,Z,q⟩:=h;have hu:=ze M;show⟨_,(qc (qS (K:=K) rfl (pv 0) (qx uT (hmR M) qF (qa (pv 1) qd)) rfl)
 (qc (qS (K:=K) rfl (pv 0) (qV (zV (K:=K) rfl rfl) rfl T.b_list xz (qa (qA (K:=K) rfl (pv 0) rfl) qd)) rfl)
 (qe (qS (K:=K) rfl (pv 0) (qx u6 (hmR M) qF (qa (qA (K:=K) rfl (pv 0) rfl) (qa (pv 2) qd))) rfl)))),?_⟩
  apply⟨a,ss,rfl,Y,j,nd,p,λd H1 U J O=>?_⟩;have W:=(But.refl x H).same U;have A:=U _ _ S;have r:d≠x:=qaZ O A (by intro z;cases z);apply .inl ⟨x,cw,dx,[],rfl,A,T.wcl,T.wn,by decide,?_⟩;have I:=W.put (o:=.ins cw dx (qG "numbers" (.ref d) []));have g:upd H1 x (.ins cw dx (qG "numbers" (.ref d) [])) d=some (.dK (qbp ss 0)):=by rw[qg r];show O
  have c:upd H1 x (.ins cw dx (qG "numbers" (.ref d) [])) x=_:=qb;generalize upd H1 x (.ins cw dx (qG "numbers" (.ref d) []))=H2 at I g c;apply .inl ⟨x,cw,dx,_,.ref d,rfl,c,T.wcl,T.wn,by rw[qD,yG rfl],?_⟩;apply .inr (.inl ⟨d,_,rfl,g,λol s=>?_⟩);rw[qc0];have no:ol≠x:=λe=>by subst e;rw[c] at s;cases s
  have X:=I.new (o:=.lst (ss.map V.str)) s
  have y:H ol=none:=by
   cases q':H ol with
   | none=>rfl
   | some o'=>rw[I ol o' no q'] at s;cases s
  have N:d≠ol:=qN g s;apply .inl ⟨x,cw,dx,_,rfl,(by rw[qg no.symm];show c),T.wcl,T.wo,Yj (jE _ _ _) (by decide),?_⟩;have D:=X.put (o:=.ins cw dx (qG "order" (.ref ol) (qG "numbers" (.ref d) [])));have m:upd (upd H2 ol (.lst (ss.map V.str))) x (.ins cw dx (qG "order" (.ref ol) (qG "numbers" (.ref d) []))) d=some (.dK (qbp ss 0)):=by rw[qg r,qg N];show g
  have v:upd (upd H2 ol (.lst (ss.map V.str))) x (.ins cw dx (qG "order" (.ref ol) (qG "numbers" (.ref d) []))) ol=some (.lst (ss.map V.str)):=by rw[qg no];show qb
  have i:upd (upd H2 ol (.lst (ss.map V.str))) x (.ins cw dx (qG "order" (.ref ol) (qG "numbers" (.ref d) []))) x=_:=qb;generalize upd (upd H2 ol (.lst (ss.map V.str))) x (.ins cw dx (qG "order" (.ref ol) (qG "numbers" (.ref d) [])))=H3 at D m v i;apply .inl ⟨x,cw,dx,_,.ref d,rfl,i,T.wcl,T.wn,by rw[qD,yF (by room),qD,yG rfl],?_⟩;apply⟨d,l,ss,ts,tps,rfl,m,j,nd,p,L.but S D,Z,λn ns H4 G t R b=>?_⟩;have B:=G _ _ i;have C:n≠x:=qaZ R B (by intro z;cases z);apply .inl ⟨x,cw,dx,_,rfl,B,T.wcl,T.wr,Yj (jE _ _ _) (Yj (kS (jE _ _ _)) (by decide)),?_⟩
  have u:H n=none:=by
   cases q':H n with
   | none=>rfl
   | some o'=>rw[D n o' C q'] at t;cases t
  show q ns _ (D.same G).put ⟨dx,d,ol,n,qb,by rw[qg r];show G _ _ m,by rw[qg no];show G _ _ v,by rw[qg C];show R,⟨b.1,j,nd,b.2.1,p⟩,J,y,u⟩ b
theorem uP:FnScope wql wql (qh zC):=fS
theorem ua:FnScope wX wX (qh jo):=fS
theorem ub:FnScope wy wy (qh jp):=fS
theorem uQ:FnScope wy wy (qh zD):=fS
theorem uz:FnScope wy wy (qh ju):=fS
theorem uE:FnScope ["self","one","other","bits"] wqd (qh qau):=fS
theorem uK:FnScope wqE wqE (qh jC):=fS
theorem zj{n:V}:(qG "near" n (qG "order" ol (qG "numbers" d []))).lookup ("numbers":Str)=some d:=by
 rw[qD,yF (by room),qD,yF (by room),qD,yG rfl]
theorem qdW{n:V}:(qG "near" n (qG "order" ol (qG "numbers" d []))).lookup ("order":Str)=some ol:=by
 rw[qD,yF (by room),qD,yG rfl]
theorem lk_near{n:V}:(qG "near" n (qG "order" ol (qG "numbers" d []))).lookup ("near":Str)=some n:=by
 rw[qD,yG rfl]
theorem qaz{f:Str}{n:V}(h:(f=="near"||f=="order"||f=="numbers")=false):(qG "near" n (qG "order" ol (qG "numbers" d []))).lookup f=none:=by
 simp only[Bool.or_eq_false_iff,YB] at h;rw[qD,yF h.1.1,qD,yF h.1.2,qD,yF h.2];rfl
def inB:LS->Nat->Nat->LS
 | [],_,_=>[]
 | s::r,i,b=>if b.testBit i=true then s::inB r (i+1) b else inB r (i+1) b
theorem qbr(y:Str)(b:Nat):∀(l:LS) (k:Nat),inB (l++[y]) k b=inB l k b++(if b.testBit (k+l.length)=true then [y] else [])
 | [],k=>by simp[inB]
 | s::r,k=>by
  have a:=qbr y b r (k+1);have e:k+1+r.length=k+(s::r).length:=by simp;lk
  rw[e] at a;simp only[kU,inB,a];split<;>simp
theorem qcq(b:Nat):∀(l:LS) (k:Nat),(inB l k b).length<=l.length
 | [],_=>yh _
 | s::r,k=>by
  have a:=qcq b r (k+1);simp only[inB];split
  .simp;lk
  .simp;lk
inductive spHas(cw:Addr)(vs:List V)(H:Hp)(Q:VK)(E:XK):Prop|mk (x:Addr) (ss:LS) (ns:LN) (y:Str) (_:vs=[.ref x,.str y]) (_:WebAt cw H x ss ns) (_:y∈ss) (_:∀ H',L2.Same H H'->Q (.bl true) H')
inductive spNum(cw:Addr)(vs:List V)(H:Hp)(Q:VK)(E:XK):Prop|mk (x:Addr) (ss:LS) (ns:LN) (y:Str) (j:Nat) (_:vs=[.ref x,.str y]) (_:WebAt cw H x ss ns) (_:ss[j]?=some y) (_:∀ H',L2.Same H H'->Q (.int (j:Nat)) H')
inductive spBB(cw:Addr)(vs:List V)(H:Hp)(Q:VK)(E:XK):Prop|mk (x:Addr) (ss:LS) (ns:LN) (y:Str) (j:Nat) (_:vs=[.ref x,.str y]) (_:WebAt cw H x ss ns) (_:ss[j]?=some y) (_:∀ H',L2.Same H H'->Q (.int (ns.getD j 0:Nat)) H')
inductive spNIn(cw:Addr)(vs:List V)(H:Hp)(Q:VK)(E:XK):Prop|mk (x:Addr) (ss:LS) (ns:LN) (b:Nat) (_:vs=[.ref x,.int b]) (_:WebAt cw H x ss ns) (_:∀ l,H l=none->Q (.ref l) (upd H l (.lst ((inB ss 0 b).map V.str))))
inductive spBs(cw:Addr)(vs:List V)(H:Hp)(Q:VK)(E:XK):Prop|mk (x:Addr) (ss:LS) (ns:LN) (y:Str) (j:Nat) (_:vs=[.ref x,.str y]) (_:WebAt cw H x ss ns) (_:ss[j]?=some y) (_:∀ H',L2.Same H H'->∀ l,H' l=none->Q (.ref l) (upd H' l (.lst ((inB ss 0 (ns.getD j 0)).map V.str))))
inductive spTied(cw:Addr)(vs:List V)(H:Hp)(Q:VK)(E:XK):Prop|mk (x:Addr) (ss:LS) (ns:LN) (y z:Str) (j i:Nat) (_:vs=[.ref x,.str y,.str z]) (_:WebAt cw H x ss ns) (_:ss[j]?=some y) (_:ss[i]?=some z) (_:∀ H',L2.Same H H'->Q (.bl ((ns.getD j 0).testBit i)) H')
inductive spPls(cw:Addr)(vs:List V)(H:Hp)(Q:VK)(E:XK):Prop|mk (x:Addr) (ss:LS) (ns:LN) (_:vs=[.ref x]) (_:WebAt cw H x ss ns) (_:∀ l,H l=none->Q (.ref l) (upd H l (.lst (ss.map V.str))))
theorem ok_has(F:Fun K "has_place" "Web.has_place" jo f fd)(T:Txt K mg cc cw)(b:wqN 2 "is_place" wO spPlace):wqP 3 f fd wX (spHas cw):=by
 show F.ok ua λ_ _ _ _ H vs Q E e h=>?_
 .obtain⟨x,ss,ns,y,rfl,⟨dx,d,ol,n,g,c,j,i,hw⟩,a,q⟩:=h;show⟨_,(qe (qq (qx b (hmR e) qF (qa (qA (K:=K) rfl (pv 0) rfl) (qa (pv 1) qd))))),?_⟩;apply .inl ⟨x,cw,dx,_,.ref d,rfl,g,T.wcl,T.wn,zj,?_⟩;apply⟨d,ss,y,rfl,c,hw.nm _ a,a,q⟩
theorem ok_num(F:Fun K "number_of" "Web.number_of" jp f fd)(T:Txt K mg cc cw)(o:wqO 3 cw "has_place" wX (spHas cw)):wqP 4 f fd wy (spNum cw):=by
 show F.ok ub λ_ _ _ _ H vs Q E e h=>?_
 .obtain⟨x,ss,ns,y,j,rfl,c,b,q⟩:=h;obtain⟨dx,d,ol,n,g,r,v,u,hw⟩:=id c;have l:=ye b;have s:=ze e;show⟨_,(qc (qI (qU (qT (qH o (hmR e) (pv 0) (qa (pv 1) qd)))) (qe jL) qw)
 (qe (qq (qo (qp (K:=K) rfl s) (qA (K:=K) rfl (pv 0) rfl) (pv 1) (λ_ _=>rfl))))),?_⟩
  apply⟨x,dx,_,rfl,g,qaz (by room),?_⟩;apply⟨x,ss,ns,y,rfl,c,l,λH1 a=>?_⟩;apply yr ?_;obtain⟨i,t,p,m⟩:=zM (i:=0) l;rw[Xz,qC hw.nd p b] at m;apply .inl ⟨x,cw,dx,_,.ref d,rfl,a _ _ g,T.wcl,T.wn,zj,?_⟩;apply .inr ⟨d,.int j,rfl,?_,q H1 a⟩;have:=DGet.k (k:=Sum.inr y) (a _ _ r);rw[m] at this;show this
theorem ok_bb(F:Fun K "bits_beside" "Web.bits_beside" ju f fd)(T:Txt K mg cc cw)(i:wqO 4 cw "number_of" wy (spNum cw)):wqP 5 f fd wy (spBB cw):=by
 show F.ok uz λ_ _ _ _ H vs Q E c h=>?_
 .obtain⟨x,ss,ns,y,j,rfl,b,a,q⟩:=h;obtain⟨dx,d,ol,n,e,o,p,l,hw⟩:=id b;have m:=ze c;show⟨_,(qe (qq (qo (qp (K:=K) rfl m) (qA (K:=K) rfl (pv 0) rfl) (qH i (hmR c) (pv 0) (qa (pv 1) qd)) (λ_ _=>rfl)))),?_⟩;apply .inl ⟨x,cw,dx,_,.ref n,rfl,e,T.wcl,T.wr,lk_near,?_⟩;apply⟨x,dx,_,rfl,e,qaz (by room),?_⟩;apply⟨x,ss,ns,y,j,rfl,b,a,λH1 g=>?_⟩;show .inl (j9 (g _ _ l) (qk (jt (by rw[hw.len];show(yc.mp a).1))) (q H1 g))
theorem ok_nin(F:Fun K "names_in" "Web.names_in" jC f fd)(T:Txt K mg cc cw)(z:wqN 1 "has_bit" wqt spBit):wqP 2 f fd wqE (spNIn cw):=by
 show F.ok uK λ_ _ _ _ H vs Q E t h=>?_
 .obtain⟨x,ss,ns,b,rfl,⟨dx,d,ol,n,u,C,s,J,hw⟩,q⟩:=h;have G:=ze t;show⟨_,(qe (qq (jG (sc:=qh jC) (XN:=wqE) ["name","bits","self"] 1 [1,0] rfl rfl rfl (by room) rfl (by room)
  (jh (K:=K) rfl (qA (K:=K) rfl (pv 0) rfl)) (λ_ _ _ _=>(qu (i:=0) (show(["name","bits","self"]:LS).Nodup by room) rfl (yK rfl))) jF
  (λ_ _ _ _=>(zf (qT (qx z (hmR t) qF (qa (pv 1) (qa (qo (qp (K:=K) rfl G) (qA (K:=K) rfl (pv 2) rfl) (pv 0) (λ_ _=>rfl)) qd))))))
  (λ_ _ _ _=>(pv 0))))),?_⟩
  apply .inl ⟨x,cw,dx,_,.ref ol,rfl,u,T.wcl,T.wo,qdW,?_⟩;show .inl ⟨⟨_,SqL.of s⟩,jg (K:=K) (λi ys H'=>H'=H/\ys=(inB (ss.take i) 0 b).map V.str) ⟨rfl,by simp[inB]⟩ (λi ys H' _ e=>by rw[e.1];show SqL.of s) (λi y ys H' p e=>?_) λys H' e=>?_⟩
  .obtain⟨rfl,rfl⟩:=e;have D:i<ss.length:=by simpa using(yc.mp p).1
   have c:ss[i]?=some ss[i]:=yb D;generalize ss[i]=r at c;have A:y=.str r:=by rw[yd,c] at p;cases p;rfl
   subst A;obtain⟨j,I,B,v⟩:=zM (i:=0) (ye c);rw[Xz] at v;have o:j=i:=qC hw.nd B c;subst o;have g:ss.take (j+1)=ss.take j++[r]:=by rw[yY,c];rfl
   have a:(ss.take j).length=j:=by rw[yU];lk
   apply .inl ⟨x,cw,dx,_,.ref d,rfl,u,T.wcl,T.wn,zj,?_⟩;apply .inr ⟨d,.int j,rfl,?_,?_⟩
   .have:=DGet.k (k:=Sum.inr r) C;rw[v] at this;show this
   apply⟨_,_,rfl,by lk,?_⟩;rw[qba];ext
   have few:((inB (ss.take j) 0 b).map V.str).length<sizeLine:=by
    rw[ya];show qv (yi (qcq _ _ _) (by rw[a];have:=hw.few;lk))
   show qL (λhb=>?_) λhb=>?_
   .ext;show⟨few,rfl,?_⟩;rw[g,qbr,a,Xz,yG hb];simp
   .show⟨rfl,?_⟩;rw[g,qbr,a,Xz,yF hb];simp
  .obtain⟨rfl,rfl⟩:=e;have m:ss.take (ss.map V.str).length=ss:=by rw[ya,Ye]
   rw[m];show⟨?_,λl hl=>q l hl⟩;rw[ya];show yS (qv (yi (qcq _ _ _) (by have:=hw.few;lk)))
theorem ok_bs(F:Fun K "beside" "Web.beside" zD f fd)(T:Txt K mg cc cw)(g:wqO 5 cw "bits_beside" wy (spBB cw))(l:wqO 2 cw "names_in" wqE (spNIn cw)):wqP 6 f fd wy (spBs cw):=by
 show F.ok uQ λ_ _ _ _ H vs Q E b h=>?_
 .obtain⟨x,ss,ns,y,j,rfl,a,i,q⟩:=h;obtain⟨dx,d,ol,n,c,_⟩:=id a;show⟨_,(qe (qq (qH l (hmR b) (pv 0) (qa (qH g (hmR b) (pv 0) (qa (pv 1) qd)) qd)))),?_⟩;apply⟨x,dx,_,rfl,c,qaz (by room),?_⟩;apply⟨x,dx,_,rfl,c,qaz (by room),?_⟩;apply⟨x,ss,ns,y,j,rfl,a,i,λH1 e=>?_⟩;apply⟨x,ss,ns,_,rfl,a.same e,q H1 e⟩
theorem ok_tied(F:Fun K "tied" "Web.tied" qau f fd)(T:Txt K mg cc cw)(l:wqO 5 cw "bits_beside" wy (spBB cw))(m:wqO 4 cw "number_of" wy (spNum cw))
  (g:wqN 1 "has_bit" wqt spBit):wqP 6 f fd wqd (spTied cw):=by
 show F.ok uE λ_ _ _ _ H vs Q E b h=>?_
 .obtain⟨x,ss,ns,y,z,j,i,rfl,a,p,o,q⟩:=h;obtain⟨dx,d,ol,n,e,_⟩:=id a;show⟨_,(qc (qm (i:=3) uE.nd rfl (yK rfl) (qH l (hmR b) (pv 0) (qa (pv 1) qd)))
 (qe (qq (qx g (hmR b) qF (qa (pv 3) (qa (qH m (hmR b) (pv 0) (qa (pv 2) qd)) qd)))))),?_⟩
  apply⟨x,dx,_,rfl,e,qaz (by room),?_⟩;apply⟨x,ss,ns,y,j,rfl,a,p,λH1 c=>?_⟩;apply⟨x,dx,_,rfl,c _ _ e,qaz (by room),?_⟩;apply⟨x,ss,ns,z,i,rfl,a.same c,o,λH2 r=>?_⟩;apply⟨_,_,rfl,by lk,?_⟩;rw[qba];show q H2 (c.trans r)
theorem ok_pls(F:Fun K "places" "Web.places" zC f fd)(T:Txt K mg cc cw):wqP 1 f fd wql (spPls cw):=by
 show F.ok uP λ_ _ _ _ H vs Q E g h=>?_
 .obtain⟨x,ss,ns,rfl,⟨dx,d,ol,n,b,c,a,e,hw⟩,q⟩:=h;show⟨_,(qe (qq (qV (zV (K:=K) rfl rfl) rfl T.b_list xz (qa (qA (K:=K) rfl (pv 0) rfl) qd)))),?_⟩;apply .inl ⟨x,cw,dx,_,.ref ol,rfl,b,T.wcl,T.wo,qdW,?_⟩;apply .inl ⟨ol,_,rfl,.inl (SqL.of a),q⟩
inductive Rch(ns:LN)(i:Nat):Nat->Prop
 | zero:Rch ns i i
 | step {a b:Nat} (h:Rch ns i a) (t:(ns.getD a 0).testBit b=true):Rch ns i b
inductive spPc(vs:List V)(H:Hp)(Q:VK)(E:XK):Prop|mk (n:Addr) (ns:LN) (i:Nat) (_:vs=[.ref n,.int i]) (_:H n=some (.lst (zB ns))) (_:i<ns.length) (_:ns.length<=14) (_:(∀ a,ns.getD a 0<2 ^ ns.length)) (_:∀(b:Nat) (H':Hp),L2.Same H H'->(∀ c,b.testBit c=true↔Rch ns i c)->Q (.int b) H')
def isRep(ns:LN)(k:Nat):Bool:=@decide (∀ j,j<k->¬ Rch ns j k) (Classical.propDecidable _)
def reps(ns:LN)(n:Nat):LN:=(List.range n).filter (isRep ns)
open Classical in
def compS(ss:LS)(ns:LN)(k:Nat):LS:=ss.filter λs=>decide (Rch ns k (ss.idxOf s))
theorem qeG(b:ss.Nodup)(h:ss[i]?=some s):ss.idxOf s=i:=by
 have a:s∈ss:=ye h;have hl:ss.idxOf s<ss.length:=yW a;show qC b (by rw[yb hl,Yx]) h
theorem qav(f:ss.Nodup)(b:Nat):inB ss 0 b=ss.filter λs=>b.testBit (ss.idxOf s):=by
 have e:∀ k,k<=ss.length->inB (ss.take k) 0 b=(ss.take k).filter λs=>b.testBit (ss.idxOf s):=λk=>by
  induction k with
  | zero=>intro _;simp[inB]
  | succ k ih =>
   intro h;have a:ss[k]?=some ss[k]:=yb (by lk);generalize ss[k]=g at a;have d:ss.take (k+1)=ss.take k++[g]:=by rw[yY,a];rfl
   have c:(ss.take k).length=k:=by rw[yU];lk
   rw[d,qbr,xv,ih (by lk),c,Xz]
   congr 1
   rw[Yc,xS,qeG f a]
 have:=e ss.length (yh _)
 rwa[Ye] at this
def PcAt(H H':Hp)(l:Addr)(a:Addr)(b:LS):Prop:=H a=none/\a≠l/\H' a=some (.lst (b.map V.str))
inductive spPcs(cw:Addr)(vs:List V)(H:Hp)(Q:VK)(E:XK):Prop|mk (x:Addr) (ss:LS) (ns:LN) (_:vs=[.ref x]) (_:WebAt cw H x ss ns) (_:∀(l:Addr) (ls:LX) (H':Hp),L2.Same H H'->H l=none->H' l=some (.lst (ls.map V.ref))->All2 (PcAt H H' l) ls ((reps ns ss.length).map (compS ss ns))->Q (.ref l) H')
theorem inB_mem(a:ss.Nodup){b:Nat}(h:s∈inB ss 0 b):s∈ss/\b.testBit (ss.idxOf s)=true:=by
 rw[qav a] at h;show yq.mp h
def qgm(ss:LS)(ns:LN)(i:Nat):LP:=((inB ss 0 (ns.getD i 0)).filter λo=>decide (i<ss.idxOf o)).map λo=>(ss.getD i "",o)
def qah(ss:LS)(ns:LN)(i:Nat):LP:=(List.range i).flatMap (qgm ss ns)
def qgO(H H':Hp)(l:Addr)(t:Addr)(ab:Str×Str):Prop:=H t=none/\t≠l/\H' t=some (.tup [.str ab.1,.str ab.2])
inductive spTs(cw:Addr)(vs:List V)(H:Hp)(Q:VK)(E:XK):Prop|mk (x:Addr) (ss:LS) (ns:LN) (_:vs=[.ref x]) (_:WebAt cw H x ss ns) (_:∀(l:Addr) (ts:LX) (H':Hp),L2.Same H H'->H l=none->H' l=some (.lst (ts.map V.ref))->ts.length<=196->All2 (qgO H H' l) ts (qah ss ns ss.length)->Q (.ref l) H')
def Box(H:Hp)(p:Addr):Prop:=∃ a b c:Int,H p=some (.lst [.int a,.int b,.int c])
def BB(p:Addr)(H H':Hp):Prop:=(∀ b o,b≠p->H b=some o->H' b=some o)/\Box H' p
inductive spTake(vs:List V)(H:Hp)(Q:VK)(E:XK):Prop|mk (p:Addr) (m:Int) (_:vs=[.ref p,.int m]) (_:Box H p) (_:0<m) (_:m<1073741824) (_:∀(r:Int) (H':Hp),0<=r->r<m->BB p H H'->Q (.int r) H')
inductive spCell(K:W.Frag)(vs:List V)(H:Hp)(Q:VK)(E:XK):Prop|mk (a:Addr) (ns:LY) (k:Int) (_:vs=[.ref a,.int k]) (_:SqL K H a (ns.map V.int)) (_:0<=k) (_:k<1000) (_:∀ i:Int,Q (.int i) H)
inductive spBox(vs:List V)(H:Hp)(Q:VK)(E:XK):Prop|mk (i:Int) (_:vs=[.int i]) (_:∀(p:Addr) (a b c:Int),H p=none->Q (.ref p) (upd H p (.lst [.int a,.int b,.int c])))
def NewH(H H':Hp):Hp:=λa=>match H a with | none=>H' a | some _=>none
theorem zN:∀{l m:LS},l.Nodup->(∀ x∈l,x∈m)->l.length<=m.length
 | [],_,_,_=>Yy _
 | x::r,m,hn,h=>by
  obtain⟨h1,c⟩:=yp.mp hn;have a:=h x yL;have d:=zN (l:=r) (m:=m.erase x) c λy b=>(Xs (λe=>h1 (by rw[<- e];show b))).mpr (h y (yE _ b));rw[YN a] at d;have:0<m.length:=YF a;simp only[yB];lk
theorem qeH(c:Str)(ss:LS):inV (.str c) (ss.map V.str)=decide (c∈ss):=by
 unfold inV;rw[List.any_map,Y9,xu,yR];constructor
 .rintro ⟨y,a,e⟩;have:y=c:=eq_of_beq e;rw[<- this];show a
 .intro h;show⟨c,h,Xc c⟩
inductive spFresh(vs:List V)(H:Hp)(Q:VK)(E:XK):Prop|mk (l:Addr) (ss:LS) (_:vs=[.ref l]) (_:H l=some (.lst (ss.map V.str))) (_:ss.length<=14) (_:∀(x:Str) (H':Hp),L2.Same H H'->jf x=true->x∉ss->Q (.str x) H')
def signs:LS:=("abcdefghijklmno":Str).cps.toList.map λc=>⟨#[c]⟩
theorem slice_ix(k n:Nat):Builtin.Str.strSliceIndices none (some (k:Int)) 1 n=List.range (min k n):=by
 unfold Builtin.Str.strSliceIndices sliceRange;simp only[show(1:Int)>0 by decide,Xy];rw[yF (show ¬ ((k:Int)<0) by lk)];have a:max 0 (min (k:Int) n)=((min k n:Nat):Int):=by lk
 rw[a];have b:(λ(j:Nat)=>((0:Int)+1*(j:Int)).toNat)=id:=by funext j;show _=j;lk
 rw[b,List.map_id]
 congr 1
 split
 .rw [Int.ediv_one];lk
 .omega
theorem qeI(a:Array Nat):∀ m,m<=a.size->(List.range m).filterMap (a[·]?)=a.toList.take m
 | 0,_=>rfl
 | m+1,h=>by
  rw[ky,List.filterMap_append,qeI a m (by lk),yY]
  congr 1
  have e:a[m]?=some a[m]:=Array.getElem?_eq_getElem (by lk);have b:a.toList[m]?=some a[m]:=by rw[Array.getElem?_toList];show e
  rw[b,XB,e];rfl
theorem qbb(z:Str)(k:Nat):(Txt.slice z none (some (k:Int))).cps.toList=z.cps.toList.take k:=by
 unfold Txt.slice;rw[slice_ix];have b:z.length=z.cps.toList.length:=by simp[Str.length]
 split
 .rename_i h
  rw[X7] at h;have:min k z.length=z.length:=by simpa using h
  rw[YM (by lk)]
 .show(List.filterMap _ _).toArray.toList=_;rw[qeI z.cps (min k z.length) (kh _ _)];show z.cps.toList.take (min k z.length)=_;by_cases a:k<=z.length
  .rw [Kh a]
  .rw [kX (by lk),YM (by lk),YM (by lk)]
theorem qaQ(a b:Str):(a++b).cps.toList=a.cps.toList++b.cps.toList:=by
 show(a.cps++b.cps).toList=_;show Array.toList_append
theorem qdX:∀{xs:LS},(∀ x∈xs,x.cps.toList.all sg=true)->(Str.join "" xs).cps.toList.all sg=true
 | [],_=>rfl
 | [x],h=>h x (by simp)
 | x::y::r,h=>by
  have e:Str.join "" (x::y::r)=x++""++Str.join "" (y::r):=rfl;rw[e,qaQ,qaQ,kz,kz,h x (by simp),qdX λz a=>h z (yE _ a)]
  room
theorem qgn{c:Nat}(h:97<=c)(b:c<=122):sg c=true:=by
 have a:∀ i,i<26->sg (97+i)=true:=by room
 have:=a (c-97) (by lk)
 rwa[show 97+(c-97)=c by lk] at this
theorem join_len{xs:LS}(h:∀ x∈xs,x.length=1):(Txt.join "" xs).length=xs.length:=by
 have e:Txt.join "" xs=Str.join "" xs:=Yl.mp (join_plain_closes "" xs);rw[e]
 cases xs with
 | nil=>rfl
 | cons a l =>
  rw[len_join_cons]
  have b:∀ l:LS,(∀ x∈l,x.length=1)->(l.map (·.length)).sum=l.length:=by
   intro l
   induction l with
   | nil=>intro _;rfl
   | cons a l ih =>
    intro h;rw[YJ,List.sum_cons,h a yL,ih λx c=>h x (yE _ c),yB];lk
  have z:("":Str).length=0:=by room
  rw[b _ h,z];lk
theorem sum_ones{xs:LS}(h:∀ x∈xs,x.length=1):(xs.map (·.length)).sum=xs.length:=by
 induction xs with
 | nil=>rfl
 | cons a l ih =>
  rw[YJ,List.sum_cons,h a yL,ih λx b=>h x (yE _ b),yB];lk
def Signs(p:Addr)(H:Hp)(i:Nat)(ys:List V)(H':Hp):Prop:=BB p H H'/\∃ xs:LS,ys=xs.map V.str/\xs.length=i/\∀ x∈xs,x.length=1/\x.cps.toList.all sg=true
def L26:Str:="abcdefghijklmnopqrstuvwxyz"
theorem qfy{i:Int}(b:0<=i)(h1:i<26):atI L26.cps.toList i=some (97+i.toNat):=by
 obtain⟨n,rfl⟩:=Int.eq_ofNat_of_zero_le b;have a:∀ n,n<26->L26.cps.toList[n]?=some (97+n):=by room
 rw[yV];show qk (a n (by lk))
theorem qbs{x:Str}{l:LN}(e:x.cps.toList=l)(h1:1<=l.length)(a:l.length<=6)(h:l.all sg=true):jf x=true:=by
 have hl:x.length=l.length:=by rw[<- e];simp[Str.length]
 unfold jf;rw[yG ⟨by lk,by lk⟩,e];show h
theorem nodup_key(h:∀(i j:Nat) (s:Str),ss[i]?=some s->ss[j]?=some s->i=j):ss.Nodup:=by
 show YL.mpr λi j a c b e=>?_;have:=h i j ss[j] (by rw[yb a,e]) (yb c);lk
def NL(p:Addr)(H':Hp)(l:Addr)(ss:LS):Prop:=H' l=some (.lst (ss.map V.str))/\l≠p
structure NOk(ss:LS):Prop where
 few:ss.length<=14
 nd:ss.Nodup
 nm:∀ s∈ss,jf s=true
def PrT(p:Addr)(H:Hp)(t:Addr)(ab:Str×Str):Prop:=t≠p/\H t=some (.tup [.str ab.1,.str ab.2])
def TL(p:Addr)(H:Hp)(l:Addr)(ts:LX)(tps:LP):Prop:=H l=some (.lst (ts.map V.ref))/\l≠p/\All2 (PrT p H) ts tps
structure TOk(ss:LS)(tps:LP):Prop where
 few:tps.length<=30
 ok:∀ ab∈tps,∃ j k:Nat,j<k/\ss[j]?=some ab.1/\ss[k]?=some ab.2
 nd:tps.Nodup
inductive spTies(vs:List V)(H:Hp)(Q:VK)(E:XK):Prop|mk (p n:Addr) (ss:LS) (_:vs=[.ref p,.ref n]) (_:Box H p) (_:NL p H n ss) (_:NOk ss) (_:∀(l:Addr) (ts:LX) (tps:LP) (H':Hp),BB p H H'->H l=none->TL p H' l ts tps->TOk ss tps->Q (.ref l) H')
def Shuf(tps d:LP):Prop:=∃ c,d.Perm c/\All2 (λa b=>b=a\/b=(a.2,a.1)) tps c
inductive spShuf(vs:List V)(H:Hp)(Q:VK)(E:XK):Prop|mk (p l:Addr) (ts:LX) (tps:LP) (_:vs=[.ref p,.ref l]) (_:Box H p) (_:TL p H l ts tps) (_:tps.length<=30) (_:∀(l':Addr) (us:LX) (ups:LP) (H':Hp),BB p H H'->H l'=none->TL p H' l' us ups->Shuf tps ups->Q (.ref l') H')
theorem pair_eqD{a b:Addr}{s' t':Str}(hb:H b=some (.tup [.str s',.str t']))(f:H a=some (.tup [.str s,.str t])):EqD K H 1 (.ref b) (.ref a) (decide ((s',t')=(s,t))):=by
 by_cases e:b=a
 .subst e;rw[hb] at f;cases f;rw[yA rfl];show .self
 .have z:=EqT.tup (K:=K) (H:=H) (n:=0) (e:=λj=>if j=0 then eqV (.str s') (.str s) else eqV (.str t') (.str t)) (SqT.of hb) (SqT.of f) λj x y c d=>by
   match j,c,d with
   | 0,c,d=>cases c;cases d;show .flat rfl rfl
   | 1,c,d=>cases c;cases d;show .flat rfl rfl
  have g:((List.range (min [V.str s',V.str t'].length [V.str s,V.str t].length)).all (λj=>if j=0 then eqV (.str s') (.str s) else eqV (.str t') (.str t))&&[V.str s',V.str t'].length==[V.str s,V.str t].length)=decide ((s',t')=(s,t)):=by
   show((s'==s)&&((t'==t)&&true)&&true)=_;rw[Y9];simp
  rw[g] at z;show .deep z e
def qef(H:Hp)(z:V):Option (Str×Str):=match z with
 | .ref t=>(match H t with
  | some (.tup [.str a,.str b])=>some (a,b)
  | _=>none)
 | _=>none
theorem qcr{t:Addr}(h:H t=some (.tup [.str a,.str b])):qef H (.ref t)=some (a,b):=by
 unfold qef;dsimp only;rw[h]
theorem any_in(h:All2 (λt ab=>H t=some (.tup [.str ab.1,.str ab.2])) ts tps)(st:Str×Str):((ts.map V.ref).any λz=>decide (qef H z=some st))=decide (st∈tps):=by
 rw[Y9,xu,yR];constructor
 .rintro ⟨z,g,e⟩;obtain⟨t,f,rfl⟩:=yQ.mp g;obtain⟨ab,b,r⟩:=h.mem f;have e:=yk e;rw[qcr r] at e;cases e;show b
 .intro d;obtain⟨k,c,e⟩:=xn d;have a:k<ts.length:=by rw[h.len];show c
  have r:=h.at_ k ts[k] tps[k] (yb a) (yb c);show⟨.ref ts[k],yQ.mpr ⟨_,Xe a,rfl⟩,yA ?_⟩;rw[qcr r,e]
theorem qgo{a:Addr}{Q:VK}(h:PL H l ts tps)(d:H a=some (.tup [.str s,.str t]))(q:Q (.bl (decide ((s,t)∈tps))) H):qe0 K false (.ref a) (.ref l) H Q:=by
 show .inr (.inr ⟨l,ts.map V.ref,λz=>decide (qef H z=some (s,t)),1,rfl,SqL.of h.1,by decide,λz f=>?_,?_⟩)
 .obtain⟨b,hb,rfl⟩:=yQ.mp f;obtain⟨ab,_,r⟩:=h.2.mem hb;have e:=pair_eqD (K:=K) r d
  have c:decide (qef H (.ref b)=some (s,t))=decide ((ab.1,ab.2)=(s,t)):=by
   rw[qcr r];apply Ym.mpr;rw[Option.some.injEq]
  show EqD K H 1 (.ref b) (.ref a) (decide (qef H (.ref b)=some (s,t)));rw[c];show e
 .rw [any_in h.2];show q
theorem str_eq_list{y:V}(a:(ss.map V.str)[i]?=some y):∃ s,ss[i]?=some s/\y=.str s:=by
 rw[yd] at a
 cases h:ss[i]? with
 | none=>rw[h] at a;cases a
 | some s=>rw[h] at a;cases a;show⟨s,rfl,rfl⟩
def Adj(ss:LS)(ns:LN)(tps:LP):Prop:=∀ a b s t,ss[a]?=some s->ss[b]?=some t->((ns.getD a 0).testBit b=true↔((s,t)∈tps\/(t,s)∈tps))
theorem KF:FnScope ["web","thing","paired","tie"] wqF (qh zq):=fS
theorem uq:FnScope wX wX (qh jR):=fS
def qbl(seen:LS):List (Key×V):=seen.map λs=>(.inr s,.bl true)
theorem zO(y:Str):∀ seen:LS,(zv (qbl seen) (.inr y:Key)).isSome=decide (y∈seen)
 | []=>rfl
 | s::r=>by
  by_cases e:s=y
  .subst e;show(zv (((.inr s:Key),V.bl true)::qbl r) _).isSome=_;rw[yA (by simp)];simp[zv]
  .show(zv (((.inr s:Key),V.bl true)::qbl r) _).isSome=_;rw[q8 (p:=((.inr s:Key),V.bl true)) (λz=>e (xU z)),zO y r];apply Ym.mpr;simp[Yh e]
theorem qbt(h:y∉seen):zR (qbl seen) (.inr y:Key) (.bl true)=qbl (seen++[y]):=by
 have:zv (qbl seen) (.inr y:Key)=none:=by
  have:=zO y seen;rw[ym h] at this;show Option.isNone_iff_eq_none.mp (by rw[<- Option.not_isSome,this];rfl)
 rw[qbn _ this];unfold qbl;rw[yC];rfl
def qi(qs:LP):LS:=qs.flatMap λq=>[q.1,q.2]
def prK(qs:LP):List (Key×V):=qs.flatMap λq=>[(.inr q.1,.str q.2),(.inr q.2,.str q.1)]
def pt:LP->Str->Option Str
 | [],_=>none
 | q::r,s=>if q.1=s then some q.2 else if q.2=s then some q.1 else pt r s
theorem qai(s:Str):∀ qs,zv (prK qs) (.inr s:Key)=(pt qs s).map V.str
 | []=>rfl
 | q::r=>by
  show zv (((.inr q.1:Key),V.str q.2)::((.inr q.2:Key),V.str q.1)::prK r) _=(pt (q::r) s).map V.str;unfold pt;by_cases h1:q.1=s
  .rw [jl (p:=((.inr q.1:Key),V.str q.2)) (congrArg Sum.inr h1),yG h1];rfl
  .rw [q8 (p:=((.inr q.1:Key),V.str q.2)) (λz=>h1 (xU z)),yF h1];by_cases a:q.2=s
   .rw [jl (p:=((.inr q.2:Key),V.str q.1)) (congrArg Sum.inr a),yG a];rfl
   .rw [q8 (p:=((.inr q.2:Key),V.str q.1)) (λz=>a (xU z)),yF a,qai s r]
theorem pt_none:∀{qs:LP},pt qs s=none↔s∉qi qs
 | []=>by simp[pt,qi]
 | q::r=>by
  have e:qi (q::r)=q.1::q.2::qi r:=rfl;rw[e];unfold pt;by_cases h1:q.1=s
  .rw [yG h1];simp[h1]
  .rw [yF h1];by_cases a:q.2=s
   .rw [yG a];simp[a]
   .rw [yF a,pt_none];simp only[yv,Kr];show⟨λz=>⟨Yh h1,Yh a,z⟩,λz=>z.2.2⟩
structure PGo(ss:LS)(tps qs:LP):Prop where
 inn:∀ q∈qs,(q∈tps\/(q.2,q.1)∈tps)/\q.1∈ss/\q.2∈ss/\q.1≠q.2
 nd:(qi qs).Nodup
 few:qs.length<=30
theorem jW(qs:LP):(qi qs).length=2*qs.length:=by
 induction qs with
 | nil=>rfl
 | cons q r ih=>show(q.1::q.2::qi r).length=_;simp only[yB];lk
theorem zE(qs:LP)(q:Str×Str):qi (qs++[q])=qi qs++[q.1,q.2]:=by
 unfold qi;rw[xF];rfl
theorem PGo.new(g:PGo ss tps qs)(h:qs[i]?=some ab):qs.take (i+1)=qs.take i++[ab]/\(qi (qs.take i++[ab])).Nodup/\ab.1∉qi (qs.take i)/\ab.2∉qi (qs.take i):=by
 have b:qs.take (i+1)=qs.take i++[ab]:=by rw[yY,h];rfl
 have a:(qi (qs.take i++[ab])).Nodup:=by
  rw[<- b];have:qi qs=qi (qs.take (i+1))++qi (qs.drop (i+1)):=by unfold qi;rw[<- xF,kg]
  have e:=g.nd;rw[this] at e;show(Yg.mp e).1
 have c:=a;rw[zE] at c;have d:=(Yg.mp c).2.2;show⟨b,a,λz=>d _ z ab.1 (by simp) rfl,λz=>d _ z ab.2 (by simp) rfl⟩
inductive spHt(cw:Addr)(vs:List V)(H:Hp)(Q:VK)(E:XK):Prop|mk (x t:Addr) (ss:LS) (ns:LN) (tps:LP) (ab:Str×Str) (_:vs=[.ref x,.ref t]) (_:WebAt cw H x ss ns) (_:Adj ss ns tps) (_:H t=some (.tup [.str ab.1,.str ab.2])) (_:(ab∈tps\/(ab.2,ab.1)∈tps)) (_:ab.1∈ss) (_:ab.2∈ss) (_:ab.1≠ab.2) (_:∀ H',L2.Same H H'->Q (.bl true) H')
inductive spAp(cw:Addr)(vs:List V)(H:Hp)(Q:VK)(E:XK):Prop|mk (x l:Addr) (ss:LS) (ns:LN) (us:LX) (tps qs:LP) (_:vs=[.ref x,.ref l]) (_:WebAt cw H x ss ns) (_:Adj ss ns tps) (_:PL H l us qs) (_:PGo ss tps qs) (_:∀ H',L2.Same H H'->Q (.bl true) H')
theorem ok_ht(F:Fun K "has_tie" "Web.has_tie" jR f fd)(T:Txt K mg cc cw)(y:wqN 3 "are_two_places" wO spTwo)(D:wqO 6 cw "tied" wqd (spTied cw)):wqP 7 f fd wX (spHt cw):=by
 show F.ok uq λ_ _ _ _ H vs Q E g h=>?_
 .obtain⟨x,t,ss,ns,tps,ab,rfl,r,z,n,c,m1,l,e,q⟩:=h;have s:=ze g;obtain⟨u,m,ol,G,hb,d,B,A,hw⟩:=id r;show⟨_,(qe (qq (qbg (qx y (hmR g) qF (qa (qA (K:=K) rfl (pv 0) rfl) (qa (pv 1) qd))) (qbf (qH D (hmR g) (pv 0) (qa (qo (qp (K:=K) rfl s) (pv 1) qf (λ_ _=>rfl)) (qa (qo (qp (K:=K) rfl s) (pv 1) qf (λ_ _=>rfl)) qd))))))),?_⟩;apply .inl ⟨x,cw,u,_,.ref m,rfl,hb,T.wcl,T.wn,zj,?_⟩;apply⟨m,t,ss,ab.1,ab.2,rfl,d,n,hw.nm _ m1,hw.nm _ l,m1,l,e,λH1 b=>?_⟩;show⟨true,rfl,zd ?_⟩;have a:=b _ _ n;apply⟨x,u,_,rfl,b _ _ hb,qaz (by room),?_⟩;apply .inl (qaH a (v:=.str ab.1) (qk (j:=0) rfl) ?_);apply .inl (qaH a (v:=.str ab.2) (qk (j:=1) rfl) ?_);ext;obtain⟨j,p⟩:=yf m1;obtain⟨i,o⟩:=yf l;show⟨x,ss,ns,ab.1,ab.2,j,i,rfl,r.same b,p,o,λH2 C=>?_⟩;rw[(z j i ab.1 ab.2 p o).mpr c];show q H2 (b.trans C)
theorem ok_ap(F:Fun K "are_pairs" "are_pairs" zq f fd)(T:Txt K mg cc cw)(K5:wqO 7 cw "has_tie" wX (spHt cw)):wqP 8 f fd wqF (spAp cw):=by
 show F.ok KF λ_ _ _ _ H vs Q E W h=>?_
 .obtain⟨x,l,ss,ns,us,tps,qs,rfl,U,hA,⟨hl,r⟩,g,q⟩:=h;have e:=ze W;obtain⟨wx,dd,ol,nn,hb,_⟩:=id U;have few:=g.few;have M:=r.len;show⟨_,(qc (qI (qU (qT (qr (qad (K:=K) rfl) rfl T.b_isinstance YD (qa (pv 1) (qa (jK (v:=.ty "list") rfl T.b_list xz rfl) qd))))) (qe (qq jd)) qw)
 (qc (qm (i:=2) KF.nd rfl (yK rfl) jr)
 (qc (qX yT rfl (jh (K:=K) rfl (pv 1)) (qu (i:=3) KF.nd rfl (yK rfl))
 (qc (qI (PW.pt (zu (qU (qT (qH K5 (hmR W) (pv 0) (qa (pv 3) qd)))) (zu (qj (qaf (K:=K) rfl e) (qo (qp (K:=K) rfl e) (pv 3) qf (λ_ _=>rfl)) (pv 2) (by with_unfolding_all rfl)) (zk (qj (qaf (K:=K) rfl e) (qo (qp (K:=K) rfl e) (pv 3) qf (λ_ _=>rfl)) (pv 2) (by with_unfolding_all rfl)))))) (qe (qq jd)) qw)
 (qc (jN jd (jM (pv 2) (qo (qp (K:=K) rfl e) (pv 3) qf (λ_ _=>rfl)) (jQ e)))
 (qe (jN jd (jM (pv 2) (qo (qp (K:=K) rfl e) (pv 3) qf (λ_ _=>rfl)) (jQ e)))))))
 (qe (qq jd))))),?_⟩
  apply qa7 (.inl (.lst hl)) rfl (zc K "list" (by simp) "list" (by simp)) ?_;apply yr ?_;ext;intro d C;have N:=qz (Sr H) (o:=.dK []) C;have S:upd H d (.dK []) d=some (.dK (qbl [])):=qb;generalize upd H d (.dK [])=H1 at N S;apply .inl ⟨⟨_,.of (N _ _ hl)⟩,qP (xs:=us.map V.ref) (λi σ J=>L2.Same H J/\∃ O,σ=[some (.ref x),some (.ref l),some (.ref d),O]/\J d=some (.dK (qbl (qi (qs.take i))))) ⟨N,_,rfl,S⟩ (λi σ J _ u=>.of (u.1 _ _ hl)) (λi y σ J X u=>?_) fun σ J u=>?_⟩
  .obtain⟨n,O,rfl,c⟩:=u;rw[yd] at X;obtain⟨b,s,rfl⟩:=yo.mp X;have hi:i<us.length:=(yc.mp s).1;obtain⟨ab,m⟩:∃ ab,qs[i]?=some ab:=⟨_,yb (by rw[<- M];show hi)⟩;have B:=r.at_ i b ab s m;obtain⟨ht,m1,m2,t⟩:=g.inn ab (ye m);obtain⟨L,aa,Y,Z⟩:=g.new m;have ac:(qi (qs.take i)).length<=60:=by rw[jW,yU];lk
   have I:b≠d:=λz=>by rw[z,C] at B;cases B
   apply⟨x,wx,_,rfl,n _ _ hb,qaz (by room),?_⟩;apply⟨x,b,ss,ns,tps,ab,rfl,U.same n,hA,n _ _ B,ht,m1,m2,t,λG D=>?_⟩;have A:=n.trans D;have a:=A _ _ B;apply yr ?_;apply .inl (qaH a (v:=.str ab.1) (qk (j:=0) rfl) ?_);apply .inr (.inl ⟨d,_,rfl,DGet.k (k:=Sum.inr ab.1) (D _ _ c),?_⟩);rw[yF (by decide),zO,ym Y];apply yr ?_;apply .inl (qaH a (v:=.str ab.2) (qk (j:=1) rfl) ?_);apply .inr (.inl ⟨d,_,rfl,DGet.k (k:=Sum.inr ab.2) (D _ _ c),?_⟩);rw[yF (by decide),zO,ym Z];apply yr ?_;apply .inl (qaH a (v:=.str ab.1) (qk (j:=0) rfl) ?_);apply .inr ⟨d,_,rfl,DPut.k (k:=Sum.inr ab.1) (D _ _ c) (by unfold qbl;rw[ya,YT];lk),?_⟩;rw[qbt Y];have s3:=qa9 A (o:=.dK (qbl (qi (qs.take i)++[ab.1]))) C;have R:upd G d (.dK (qbl (qi (qs.take i)++[ab.1]))) d=some (.dK (qbl (qi (qs.take i)++[ab.1]))):=qb;have p:upd G d (.dK (qbl (qi (qs.take i)++[ab.1]))) b=some (.tup [.str ab.1,.str ab.2]):=by rw[qg I];show a
   generalize upd G d (.dK (qbl (qi (qs.take i)++[ab.1])))=J3 at s3 R p;apply .inl (qaH p (v:=.str ab.2) (qk (j:=1) rfl) ?_);apply .inr ⟨d,_,rfl,DPut.k (k:=Sum.inr ab.2) R (by unfold qbl;rw[ya,yu,YT];simp only[yB,Yk];lk),?_⟩;rw[qbt (λz=>by rcases yw.mp z with z | z;show Z z;show t (yx.mp z).symm)];show⟨qa9 s3 C,_,rfl,by rw[qb,L,zE,Yp];rfl⟩
  .obtain⟨n,O,rfl,c⟩:=u;apply q J n
theorem KB:FnScope ["web","pairs","partners","pair"] wqG (qh jS):=fS
theorem prK_len(qs:LP):(prK qs).length=2*qs.length:=by
 induction qs with
 | nil=>rfl
 | cons q r ih=>show(_::_::prK r).length=_;simp only[yB];rw[ih];lk
theorem prK_snoc(qs:LP)(q:Str×Str):prK (qs++[q])=prK qs++[(.inr q.1,.str q.2),(.inr q.2,.str q.1)]:=by
 unfold prK;rw[xF];rfl
theorem prK_put(h:(qi (qs++[q])).Nodup):zR (zR (prK qs) (.inr q.1:Key) (.str q.2)) (.inr q.2:Key) (.str q.1)=prK (qs++[q]):=by
 rw[zE] at h;obtain⟨h1,b,c⟩:=Yg.mp h;have e:q.1∉qi qs:=λz=>c _ z _ (by simp) rfl;have f:q.2∉qi qs:=λz=>c _ z q.2 (by simp) rfl;have g:q.1≠q.2:=by simp at b;show b
 have i:zv (prK qs) (.inr q.1:Key)=none:=by rw[qai,pt_none.mpr e];rfl
 rw[qbn _ i]
 have a:zv (prK qs++[((.inr q.1:Key),V.str q.2)]) (.inr q.2:Key)=none:=by
  have a:zv (prK qs) (.inr q.2:Key)=none:=by rw[qai,pt_none.mpr f];rfl
  unfold zv at a ⊢;rw[List.find?_append];have:(prK qs).find? (λd=>decide (d.1=(.inr q.2:Key)))=none:=by simpa using a
  rw[this];simp[g]
 rw[qbn _ a,prK_snoc];simp
inductive spPn(cw:Addr)(vs:List V)(H:Hp)(Q:VK)(E:XK):Prop|mk (x l:Addr) (ss:LS) (ns:LN) (us:LX) (tps qs:LP) (_:vs=[.ref x,.ref l]) (_:WebAt cw H x ss ns) (_:Adj ss ns tps) (_:PL H l us qs) (_:PGo ss tps qs) (_:∀(d:Addr) (H':Hp),L2.Same H H'->H d=none->H' d=some (.dK (prK qs))->Q (.ref d) H')
theorem ok_pn(F:Fun K "partners_in" "partners_in" jS f fd)(T:Txt K mg cc cw)(um:wqN 8 "are_pairs" wqF (spAp cw)):wqP 9 f fd wqG (spPn cw):=by
 show F.ok KB λ_ _ _ _ H vs Q E R h=>?_
 .obtain⟨x,l,ss,ns,us,tps,qs,rfl,Y,X,⟨hl,n⟩,g,q⟩:=h;have p:=ze R;have few:=g.few;have u:=n.len;show⟨_,(qc (qI (qU (qT (qx um (hmR R) qF (qa (pv 0) (qa (pv 1) qd))))) (qe jL) qw)
 (qc (qm (i:=2) KB.nd rfl (yK rfl) jr)
 (qc (qX yT rfl (jh (K:=K) rfl (pv 1)) (qu (i:=3) KB.nd rfl (yK rfl))
 (qc (jN (qo (qp (K:=K) rfl p) (pv 3) qf (λ_ _=>rfl)) (jM (pv 2) (qo (qp (K:=K) rfl p) (pv 3) qf (λ_ _=>rfl)) (jQ p)))
 (qe (jN (qo (qp (K:=K) rfl p) (pv 3) qf (λ_ _=>rfl)) (jM (pv 2) (qo (qp (K:=K) rfl p) (pv 3) qf (λ_ _=>rfl)) (jQ p))))))
 (qe (qq (pv 2)))))),?_⟩
  apply⟨x,l,ss,ns,us,tps,qs,rfl,Y,X,⟨hl,n⟩,g,λH1 U=>?_⟩;apply yr ?_;ext;intro d O;have c:=U.free O;have I:=qz U (o:=.dK []) O;have N:upd H1 d (.dK []) d=some (.dK (prK [])):=qb;generalize upd H1 d (.dK [])=H2 at I N;apply .inl ⟨⟨_,.of (I _ _ hl)⟩,qP (xs:=us.map V.ref) (λi σ J=>L2.Same H J/\∃ L,σ=[some (.ref x),some (.ref l),some (.ref d),L]/\J d=some (.dK (prK (qs.take i)))) ⟨I,_,rfl,N⟩ (λi σ J _ t=>.of (t.1 _ _ hl)) (λi y σ J S t=>?_) fun σ J t=>?_⟩
  .obtain⟨A,L,rfl,a⟩:=t;rw[yd] at S;obtain⟨b,s,rfl⟩:=yo.mp S;have Z:i<us.length:=(yc.mp s).1;obtain⟨ab,r⟩:∃ ab,qs[i]?=some ab:=⟨_,yb (by rw[<- u];show Z)⟩;have B:=n.at_ i b ab s r;obtain⟨G,D,n1,n2⟩:=g.new r;have C:b≠d:=λz=>by rw[z,c] at B;cases B
   have m:=A _ _ B;have aa:(prK (qs.take i)).length<=2000:=by rw[prK_len,yU];lk
   apply .inl (qaH m (v:=.str ab.2) (qk (j:=1) rfl) ?_);apply .inl (qaH m (v:=.str ab.1) (qk (j:=0) rfl) ?_);apply .inr ⟨d,_,rfl,DPut.k (k:=Sum.inr ab.1) a (by rw[YT];lk),?_⟩;have W:=qa9 A (o:=.dK (zR (prK (qs.take i)) (Sum.inr ab.1) (.str ab.2))) c;have M:upd J d (.dK (zR (prK (qs.take i)) (Sum.inr ab.1) (.str ab.2))) d=some (.dK (zR (prK (qs.take i)) (Sum.inr ab.1) (.str ab.2))):=qb;have e:upd J d (.dK (zR (prK (qs.take i)) (Sum.inr ab.1) (.str ab.2))) b=some (.tup [.str ab.1,.str ab.2]):=by rw[qg C];show m
   generalize upd J d (.dK (zR (prK (qs.take i)) (Sum.inr ab.1) (.str ab.2)))=J3 at W M e;apply .inl (qaH e (v:=.str ab.1) (qk (j:=0) rfl) ?_);apply .inl (qaH e (v:=.str ab.2) (qk (j:=1) rfl) ?_);apply .inr ⟨d,_,rfl,DPut.k (k:=Sum.inr ab.2) M ?_,?_⟩
   .have:=jV (prK (qs.take i)) (Sum.inr ab.1:Key) (.str ab.2);rw[YT];lk
   .show⟨qa9 W c,_,rfl,by rw[qb,prK_put D,G]⟩
  .obtain⟨A,L,rfl,a⟩:=t;rw[ya,u,Ye] at a;apply q d J A c a
structure Gr(A:Str->Str->Prop)(f:Str->Option Str):Prop where
 as:∀{a b},A a b->A b a
 ir:∀{a b},A a b->a≠b
 fs:∀{a b},f a=some b->f b=some a
 fa:∀{a b},f a=some b->A a b
structure FS where
 rows:Str->Option (LS)
 par:Str->Option Str
 bas:Str->Str
def Turns(A:Str->Str->Prop)(f:Str->Option Str)(r:LS):Prop:=∀(j:Nat) a b,r[j]?=some a->r[j+1]?=some b->A a b/\(f a=some b↔j % 2=1)
structure Alt(A:Str->Str->Prop)(f:Str->Option Str)(r:LS)(v:Str):Prop where
 nd:r.Nodup
 odd:r.length % 2=1
 hd:∀ s,r[0]?=some s->f s=none
 tl:∃ r0,r=r0++[v]
 st:Turns A f r
structure FI(A:Str->Str->Prop)(f:Str->Option Str)(S:FS):Prop where
 alt:∀ v r,S.rows v=some r->Alt A f r v
 bse:∀ v r,S.rows v=some r->∃ rb t,S.rows (S.bas v)=some rb/\r=rb++t/\∀ u∈t,S.bas u=S.bas v
 idm:∀ v r,S.rows v=some r->S.bas (S.bas v)=S.bas v
 dwn:∀ b r q,S.rows b=some r->S.bas b=b->f b=some q->S.rows q=none/\∃ z rz,S.par q=some z/\S.rows z=some rz/\r=rz++[q,b]
 mat:∀ v,S.bas v≠v->(∃ r,S.rows v=some r)/\∃ u,f v=some u/\S.bas u=S.bas v
 odd:∀ x z,S.par x=some z->A z x/\(∃ r,S.rows z=some r)/\∃ y r,f x=some y/\S.rows y=some r
section
variable{A:Str->Str->Prop}{f:Str->Option Str}{S:FS}
theorem FI.own(I:FI A f S){v:Str}(h:S.rows v=none):S.bas v=v:=Yn λz=>by
 obtain⟨⟨r,e⟩,_⟩:=I.mat v z;rw[h] at e;cases e
theorem FI.evb(I:FI A f S){v:Str}(h:S.rows v=some r):∃ a,S.rows (S.bas v)=some a:=(I.bse v r h).elim λa z=>⟨a,z.elim λ_ y=>y.1⟩
theorem FI.pair(I:FI A f S){v w:Str}{s:LS}(hv:S.rows v=some r)(hw:S.rows w=some s)(h:f v=some w):S.bas v=S.bas w:=by
 by_cases z:S.bas v=v
 .have:=(I.dwn v r w hv z h).1;rw[hw] at this;cases this
 .obtain⟨_,u,a,e⟩:=I.mat v z;rw[h] at a;cases a;show e.symm
inductive Ch(f:Str->Option Str)(S:FS):Str->LS->Prop
 | root {b:Str}:f b=none->Ch f S b [b]
 | step {b q z:Str} {l:LS}:f b=some q->S.par q=some z->Ch f S (S.bas z) l->Ch f S b (b::l)
theorem Ch.one{l:LS}(h:Ch f S b l):∀{m},Ch f S b m->m=l:=by
 induction h with
 | root e=>intro m g;cases g with
  | root _=>rfl
  | step e' _ _=>rw[e] at e';cases e'
 | step e p _ ih=>intro m g;cases g with
  | root e'=>rw[e] at e';cases e'
  | step e' p' g'=>rw[e] at e';cases e';rw[p] at p';cases p';rw[ih g']
theorem Ch.ne{l:LS}(h:Ch f S b l):∃ t,l=b::t:=by cases h<;>show⟨_,rfl⟩
theorem FI.chain(I:FI A f S):∀(n:Nat) {b:Str} {r:LS},r.length<=n->S.rows b=some r->S.bas b=b->∃ l,Ch f S b l
 | n,b,r,hn,hb,hbb=>by
  cases e:f b with
  | none=>show⟨_,.root e⟩
  | some q =>
   obtain⟨_,z,rz,p,a,d⟩:=I.dwn b r q hb hbb e;obtain⟨c,t,h1,h,_⟩:=I.bse z rz a;have hl:c.length<n:=by rw[d,h] at hn;simp at hn;lk
   match n,hl with
   | n+1,hl =>
    obtain⟨l,g⟩:=I.chain n (b:=S.bas z) (r:=c) (by lk) h1 (I.idm z rz a);show⟨_,.step e p g⟩
theorem FI.chainOf(I:FI A f S){v:Str}(h:S.rows v=some r):∃ l,Ch f S (S.bas v) l:=by
 obtain⟨a,e⟩:=I.evb h;show I.chain _ (yh _) e (I.idm v r h)
def Cov(f:Str->Option Str)(S:FS)(l:LS)(u:Str):Prop:=∃ d∈l,S.bas u=d\/f d=some u
theorem Cov.mono{l m:LS}(h:Cov f S l u)(a:∀ d∈l,d∈m):Cov f S m u:=h.elim λd z=>⟨d,a d z.1,z.2⟩
theorem Ch.up(I:FI A f S){l:LS}(h:Ch f S b l):∀{v:Str} {r:LS},S.rows v=some r->S.bas v=b->∀{l1 l2:LS} {c:Str},l=l1++c::l2->∃ o t,S.rows c=some o/\S.bas c=c/\Ch f S c (c::l2)/\r=o++t/\∀ u∈t,S.bas u=c\/Cov f S l1 u:=by
 induction h with
 | root e =>
  intro v r hv hb l1 l2 c j
  cases l1 with
  | cons x y=>show absurd (congrArg List.length j) (by simp)
  | nil =>
   cases j;obtain⟨n,t,h1,m,i⟩:=I.bse v r hv;rw[hb] at h1 i;show⟨n,t,h1,by rw[<- hb];show I.idm v r hv,.root e,m,λu hu=>.inl (i u hu)⟩
 | @step b q z l e p g ih =>
  intro v r hv hb l1 l2 c j;obtain⟨n,t,h1,m,i⟩:=I.bse v r hv;rw[hb] at h1 i;have a:S.bas b=b:=by rw[<- hb];show I.idm v r hv
  cases l1 with
  | nil =>
   cases j;show⟨n,t,h1,a,.step e p g,m,λu hu=>.inl (i u hu)⟩
  | cons x y =>
   cases j;obtain⟨J,K,rz,s,C,w⟩:=I.dwn b n q h1 a e;rw[p] at s;cases s;obtain⟨o,t',D,E,F,G,H⟩:=ih C rfl rfl;show⟨o,t'++[q,b]++t,D,E,F,by rw[m,w,G];simp,λu hu=>?_⟩;rcases yw.mp hu with hu | hu
   .rcases yw.mp hu with hu | hu
    .show(H u hu).imp id λz=>z.mono λd B=>yE _ B
    .simp only[yv,yJ,Yo] at hu;rcases hu with rfl | rfl
     .show .inr ⟨b,yL,.inr e⟩
     .show .inr ⟨_,yL,.inl a⟩
   .show .inr ⟨b,yL,.inl (i u hu)⟩
theorem Ch.bs0(I:FI A f S){v:Str}{l:LS}(hv:S.rows v=some r)(h:Ch f S (S.bas v) l){c:Str}(hc:c∈l):∃ a,S.rows c=some a/\S.bas c=c:=by
 obtain⟨l1,l2,e⟩:=Yr hc;obtain⟨a,_,h1,b,_⟩:=h.up I hv rfl e;show⟨a,h1,b⟩
theorem Ch.cov(G:Gr A f)(I:FI A f S){v:Str}{l:LS}(hv:S.rows v=some r)(h:Ch f S (S.bas v) l)(hu:u∈r):Cov f S l u:=by
 have hl:l≠[]:=by obtain⟨t,e⟩:=h.ne;rw[e];show kZ _ _
 obtain⟨o,t,h1,s,w,x,y⟩:=h.up I hv rfl (xA hl).symm;have b:l.getLast hl∈l:=List.getLast_mem hl;rw[x] at hu;rcases yw.mp hu with hu | hu
 .have C:f (l.getLast hl)=none:=by
   cases w with
   | root e=>show e
   | step _ _ g=>obtain⟨_,e⟩:=g.ne;cases e
  have c:=I.alt _ _ h1;obtain⟨q,i⟩:=c.tl
  have m:q=[]:=by
   cases j:q.length with
   | zero=>show List.eq_nil_of_length_eq_zero j
   | succ n =>
    exfalso;have p:o.length=n+2:=by rw[i];simp[j]
    obtain⟨a,B⟩:∃ a,o[n]?=some a:=⟨_,yb (by lk)⟩;have hb:o[n+1]?=some (l.getLast hl):=by rw[i,yH (by lk),j];simp
    have:=G.fs ((c.st n a _ B hb).2.mpr (by have:=c.odd;lk));rw[C] at this;cases this
  rw[i,m] at hu;have e:u=l.getLast hl:=by simpa using hu
  show⟨_,b,.inl (by rw[e];show s)⟩
 .rcases y u hu with z | ⟨d,hd,z⟩
  .show⟨_,b,.inl z⟩
  .show⟨d,List.dropLast_subset l hd,z⟩
theorem Cov.apart(G:Gr A f)(I:FI A f S){l m:LS}(hl:∀ d∈l,∃ r,S.rows d=some r/\S.bas d=d)(n:∀ d∈m,∃ r,S.rows d=some r/\S.bas d=d)(t:∀ d∈l,d∉m)(h1:Cov f S l u)(p:Cov f S m u):False:=by
 have i:∀{d e:Str},(∃ r,S.rows d=some r/\S.bas d=d)->(∃ r,S.rows e=some r/\S.bas e=e)->S.bas u=d->f e=some u->False:=λ⟨r,b,q⟩ ⟨s,g,j⟩ h h'=>by
  have o:=(I.dwn _ _ _ g j h').1;have:=I.own o;rw[h] at this;rw[this,o] at b;cases b
 obtain⟨d,b,z⟩:=h1;obtain⟨e,g,y⟩:=p;have c:d≠e:=λw=>t d b (by rw[w];show g);rcases z with z | z<;>rcases y with y | y
 .show c (z.symm.trans y)
 .show i (hl d b) (n e g) z y
 .show i (n e g) (hl d b) y z
 .have a:=G.fs z;rw[G.fs y] at a;show c (yn a).symm
theorem Turns.app{s:LS}(h:Turns A f r)(g:∀(j:Nat) a b,s[j]?=some a->s[j+1]?=some b->A a b/\(f a=some b↔(r.length+j) % 2=1))(w:∀ a b,r[r.length-1]?=some a->s[0]?=some b->0<r.length->A a b/\(f a=some b↔(r.length-1) % 2=1)):Turns A f (r++s):=λj a b c hb=>by
 by_cases h1:j+1<r.length
 .rw [yX (by lk)] at c;rw[yX h1] at hb;show h j a b c hb
 .by_cases d:j+1=r.length
  .rw [yX (by lk),show j=r.length-1 by lk] at c;rw[yH (by lk),show j+1-r.length=0 by lk] at hb;rw[show j=r.length-1 by lk];show w a b c hb (by lk)
  .rw [yH (by lk)] at c;rw[yH (by lk),show j+1-r.length=j-r.length+1 by lk] at hb;have:=g _ a b c hb
   rwa[show r.length+(j-r.length)=j by lk] at this
theorem Alt.back(G:Gr A f){s t:LS}{v w q c:Str}(hw:Alt A f s w)(hv:Alt A f r v)(i:r=rz++q::c::t)(I:rz.length % 2=1)(D:A w v)(E:f w≠some v)(ap:∀ u∈s,u∉q::c::t):Alt A f (s++(q::c::t).reverse) q:=by
 obtain⟨K,es⟩:=hw.tl;obtain⟨J,l⟩:=hv.tl;have o:0<s.length:=by rw[es];simp
 have F:=hv.odd;have n:r.length=rz.length+(t.length+2):=by rw[i];simp
 have at_:∀{j:Nat} {a:Str},(q::c::t).reverse[j]?=some a->j<t.length+2/\r[r.length-1-j]?=some a:=λ{j a} h=>by
  have hl:=(yc.mp h).1;rw[YH] at hl;simp only[yB] at hl;rw[List.getElem?_reverse (by simp only[yB];lk)] at h;simp only[yB] at h;show⟨by lk,?_⟩;rw[n]
  conv=>lhs;rw[i]
  rw[yH (by lk),show rz.length+(t.length+2)-1-j-rz.length=t.length+1+1-1-j by lk];show h
 show⟨Yg.mpr ⟨hw.nd,?_,λx H y g e=>ap x H (by rw[e];show k8.mp g)⟩,?_,λy g=>?_,⟨s++(c::t).reverse,by simp⟩,hw.st.app (λj a b h1 m=>?_) λa b h1 m _=>?_⟩
 .show(List.reverse_perm _).nodup_iff.mpr ((Yg.mp (i ▸ hv.nd)).2.1)
 .rw [yu,YH];simp only[yB];have:=hw.odd;lk
 .rw [yX o] at g;show hw.hd y g
 .obtain⟨l1,p⟩:=at_ h1;obtain⟨l2,d⟩:=at_ m;have:=hv.st (r.length-1-(j+1)) b a d (by rw[show r.length-1-(j+1)+1=r.length-1-j by lk];show p);show⟨G.as this.1,⟨λz=>?_,λz=>?_⟩⟩
  .have:=this.2.mp (G.fs z);have:=hw.odd;lk
  .show G.fs (this.2.mpr (by have:=hw.odd;lk))
 .have B:a=w:=by
   rw[es,yu,yH (by simp)] at h1;simpa using h1.symm
  have C:b=v:=by
   obtain⟨_,d⟩:=at_ m;rw[Kq,l,yu,yH (by simp)] at d;simpa using d.symm
  subst B;subst C;show⟨D,⟨λz=>absurd z E,λz=>by have:=hw.odd;lk⟩⟩
end
section
variable{A:Str->Str->Prop}{f:Str->Option Str}{S S':FS}
theorem Ch.nd(I:FI A f S){l:LS}(h:Ch f S b l):∀{v:Str} {r:LS},S.rows v=some r->S.bas v=b->l.Nodup:=by
 induction h with
 | root e=>intro _ _ _ _;simp
 | @step b q z l e p g ih =>
  intro v r hv hb;have a:S.bas b=b:=by rw[<- hb];show I.idm v r hv
  obtain⟨n,h1⟩:=I.evb hv;rw[hb] at h1;obtain⟨_,o,rz,i,d,_⟩:=I.dwn b n q h1 a e;rw[p] at i;cases i;show yp.mpr ⟨λj=>?_,ih d rfl⟩;obtain⟨x,y,c⟩:=Yr j;obtain⟨_,_,_,_,m,_⟩:=g.up I d rfl c;have:=m.one (.step e p g);rw[c] at this;have:=congrArg List.length this;simp at this;lk
theorem Ch.suf(I:FI A f S){v:Str}{l:LS}(hv:S.rows v=some r)(h:Ch f S (S.bas v) l){c q:Str}(e:l=l1++c::l2)(b:f c=some q):∃ rz t,r=rz++q::c::t/\rz.length % 2=1/\S.rows q=none/\∀ u∈q::c::t,Cov f S (l1++[c]) u:=by
 obtain⟨p,t,h1,a,_,g,i⟩:=h.up I hv rfl e;obtain⟨m,z,rz,_,n,o⟩:=I.dwn c p q h1 a b;show⟨rz,t,by rw[g,o];simp,(I.alt z rz n).odd,m,λu hu=>?_⟩;rcases yv.mp hu with rfl | hu
 .show⟨c,by simp,.inr b⟩
 .rcases yv.mp hu with rfl | hu
  .show⟨u,by simp,.inl a⟩
  .rcases i u hu with z | z
   .show⟨c,by simp,.inl z⟩
   .show z.mono λd j=>yP _ j
theorem Ch.meet(I:FI A f S){v w:Str}{s l:LS}(hv:S.rows v=some r)(hw:S.rows w=some s)(h:Ch f S (S.bas v) l)(h':Ch f S (S.bas w) l'){j:LS}{m:Str}(n:l=l1++m::l2)(i:l'=m1++m::j)(J:∀ d∈l1,d∉l'):j=l2/\∀ d∈m1,d∉l:=by
 obtain⟨_,_,_,_,k,_⟩:=h.up I hv rfl n;obtain⟨_,_,_,_,k',_⟩:=h'.up I hw rfl i;have E:j=l2:=(xI (k.one k')).2;show⟨E,λd K hl=>?_⟩;obtain⟨a,b,C⟩:=Yr K;obtain⟨x,y,ex⟩:=Yr hl;obtain⟨_,_,_,_,g,_⟩:=h.up I hv rfl ex;obtain⟨_,_,_,_,g',_⟩:=h'.up I hw rfl (l1:=a) (c:=d) (l2:=b++m::j) (by rw[i,C];simp);have u:y=b++m::j:=(xI (g'.one g)).2;have e:=h.nd I hv rfl;have o:d∈l':=by rw[i,C];simp
 have q:d∉l1:=λz=>J d z o;have p:d∈m::l2:=by rw[n] at hl;show(yw.mp hl).resolve_left q
 rcases yv.mp p with z | z
 .rw [z] at ex;rw[ex,u] at e;have:=(Yg.mp e).2.1;show(yp.mp this).1 (by simp)
 .have t:m∈x:=by
   obtain⟨L,D,F⟩:=Yr z;have B:l=(l1++m::L)++d::D:=by rw[n,F];simp
   obtain⟨_,_,_,_,H,_⟩:=h.up I hv rfl B;have G:D=y:=(xI (g.one H)).2;rw[B,G] at ex;rw[<- List.append_cancel_right ex];simp
  rw[ex,u] at e;show(Yg.mp e).2.2 m t m (by simp) rfl
def NewRow(S:FS)(v w u:Str)(r:LS):Prop:=∃ rv rw rz t,S.rows v=some rv/\S.rows w=some rw/\rv=rz++u::t/\r=rw++(u::t).reverse
def InR(f:Str->Option Str)(m:Str)(a:LS)(u:Str):Prop:=u=m\/∃ c∈a,u=c\/f c=some u
structure Mg(f:Str->Option Str)(S S':FS)(v w m:Str)(l1 m1:LS):Prop where
 par:S'.par=S.par
 old:∀ u r,S.rows u=some r->S'.rows u=some r
 new:∀ u r,S'.rows u=some r->S.rows u=some r\/(∃ c∈l1,f c=some u/\NewRow S v w u r)\/(∃ c∈m1,f c=some u/\NewRow S w v u r)
 all:∀ c∈l1++m1,∀ q,f c=some q->∃ r,S'.rows q=some r
 inn:∀ u,InR f m (l1++m1) (S.bas u)->S'.bas u=m
 out:∀ u,¬ InR f m (l1++m1) (S.bas u)->S'.bas u=S.bas u
theorem cut_one{a b c d:LS}{x:Str}(h:(a++x::b).Nodup)(e:a++x::b=c++x::d):a=c/\b=d:=by
 induction a generalizing c with
 | nil =>
  cases c with
  | nil=>show⟨rfl,(xI e).2⟩
  | cons y c =>
   obtain⟨f,g⟩:=xI e;show absurd (show x∈b by rw[g];simp) (yp.mp h).1
 | cons y a ih =>
  cases c with
  | nil =>
   obtain⟨f,g⟩:=xI e;show absurd (show y∈a++x::b by rw[f];simp) (yp.mp h).1
  | cons z c =>
   obtain⟨f,g⟩:=xI e;obtain⟨h1,i⟩:=ih (yp.mp h).2 g;show⟨by rw[f,h1],i⟩
theorem NewRow.ok(G:Gr A f)(I:FI A f S){v w c:Str}{l:LS}(hv:S.rows v=some rv)(hw:S.rows w=some rw)(h:Ch f S (S.bas v) l)(h':Ch f S (S.bas w) l')(o:l=l1++l2)(H:∀ d∈l1,d∉l')(F:A w v)(hb:S.bas w≠S.bas v)(hc:c∈l1)(K:f c=some u)(J:NewRow S v w u r) :
  Alt A f r u/\S.rows u=none/\∃ t,r=rw++t/\∀ x∈t,Cov f S l1 x:=by
 obtain⟨L,M,rz,t,p,q,s,y⟩:=J;rw[hv] at p;cases p;rw[hw] at q;cases q;obtain⟨a,b,n⟩:=Yr hc;obtain⟨N,t',j,B,C,m⟩:=h.suf I hv (l1:=a) (c:=c) (l2:=b++l2) (by rw[o,n];simp) K;have e:=(I.alt v rv hv).nd;obtain⟨D,E⟩:=cut_one (by rw[<- s];show e) (s.symm.trans j);subst D;subst E;have sub:∀ d∈a++[c],d∈l1:=λd z=>by rw[n];rcases yw.mp z with z | z;show yP _ z;rw[yx.mp z];simp
 have inl:∀ d∈l1,d∈l:=λd z=>by rw[o];show yP _ z
 show⟨?_,C,_,y,λx g=>(m x (k8.mp g)).mono sub⟩;rw[y];show Alt.back G (I.alt w rw hw) (I.alt v rv hv) j B F (λz=>hb (I.pair hw hv z)) λx g i=>?_;show Cov.apart G I (λd z=>h.bs0 I hv (inl d (sub d z))) (λd z=>h'.bs0 I hw z) (λd z=>H d (sub d z)) (m x i) (h'.cov G I hw g)
theorem FI.merge(G:Gr A f)(I:FI A f S){v w m:Str}(hv:S.rows v=some rv)(hw:S.rows w=some rw)(h:Ch f S (S.bas v) (l1++m::l2))(h':Ch f S (S.bas w) (m1++m::l2))(hd:∀ d∈l1,d∉m1++m::l2)(U:∀ d∈m1,d∉l1++m::l2)(ha:A v w)(hb:S.bas v≠S.bas w)(M:Mg f S S' v w m l1 m1):FI A f S':=by
 have hm:∃ r,S.rows m=some r/\S.bas m=m:=h.bs0 I hv (by simp);obtain⟨P,H,W⟩:=hm
 have B:∀ c∈l1++m1,(∃ r,S.rows c=some r/\S.bas c=c)/\c≠m/\∃ q,f c=some q/\S.rows q=none:=λc hc=>by
  rcases yw.mp hc with z | z
  .show⟨h.bs0 I hv (yP _ z),λe=>hd c z (by rw[e];simp),?_⟩;obtain⟨a,b,E⟩:=Yr z;obtain⟨rc,_,D,o,p,_⟩:=h.up I hv rfl (l1:=a) (c:=c) (l2:=b++m::l2) (by rw[E];simp);generalize l:b++m::l2=x at p
   cases p with
   | root _=>show absurd (congrArg List.length l) (by simp)
   | step e _ _=>show⟨_,e,(I.dwn _ _ _ D o e).1⟩
  .show⟨h'.bs0 I hw (yP _ z),λe=>U c z (by rw[e];simp),?_⟩;obtain⟨a,b,E⟩:=Yr z;obtain⟨rc,_,D,o,p,_⟩:=h'.up I hw rfl (l1:=a) (c:=c) (l2:=b++m::l2) (by rw[E];simp);generalize l:b++m::l2=x at p
   cases p with
   | root _=>show absurd (congrArg List.length l) (by simp)
   | step e _ _=>show⟨_,e,(I.dwn _ _ _ D o e).1⟩
 have cov:∀ u,Cov f S (l1++m1) u->S'.bas u=m:=λu ⟨d,hd,z⟩=>by
  show M.inn u ?_;rcases z with z | z
  .show .inr ⟨d,hd,.inl z⟩
  .have hn:=(B d hd).2.2;obtain⟨q,e,F⟩:=hn;rw[z] at e;cases e;rw[I.own F];show .inr ⟨d,hd,.inr z⟩
 have K:∀ u,Cov f S l1 u->S'.bas u=m:=λu z=>cov u (z.mono λd y=>yP _ y);have L:∀ u,Cov f S m1 u->S'.bas u=m:=λu z=>cov u (z.mono λd y=>yN _ y);have bm:∀ u,S.bas u=m->S'.bas u=m:=λu z=>M.inn u (.inl z);have m0:S'.bas m=m:=bm m W;have Z:=M.old m P H
 have J:∀{x:Str} {rx a b:LS},S.rows x=some rx->Ch f S (S.bas x) (a++m::b)->(∀ d∈a,d∈l1++m1)->∃ t,rx=P++t/\∀ u∈t,S'.bas u=m:=λ{x rx a b} l hc hs=>by
  obtain⟨rc,t,D,_,_,R,g5⟩:=hc.up I l rfl rfl;rw[H] at D;cases D;show⟨t,R,λu j=>(g5 u j).elim (bm u) λz=>cov u (z.mono hs)⟩
 have nw:∀ u r,(∃ c∈l1,f c=some u/\NewRow S v w u r)\/(∃ c∈m1,f c=some u/\NewRow S w v u r)->Alt A f r u/\S.rows u=none/\S'.bas u=m/\∃ t,r=P++t/\∀ x∈t,S'.bas x=m:=λu r z=>by
  rcases z with⟨c,hc,j,C⟩ | ⟨c,hc,j,C⟩
  .obtain⟨D,o,t,p,R⟩:=NewRow.ok G I hv hw h h' rfl hd (G.as ha) (Yh hb) hc j C;obtain⟨t0,p1,p2⟩:=J hw h' λd y=>yN _ y;show⟨D,o,K u ⟨c,hc,.inr j⟩,t0++t,by rw[p,p1];simp,λx l=>(yw.mp l).elim (p2 x) λy=>K x (R x y)⟩
  .obtain⟨D,o,t,p,R⟩:=NewRow.ok G I hw hv h' h rfl U ha hb hc j C;obtain⟨t0,p1,p2⟩:=J hv h λd y=>yP _ y;show⟨D,o,L u ⟨c,hc,.inr j⟩,t0++t,by rw[p,p1];simp,λx l=>(yw.mp l).elim (p2 x) λy=>L x (R x y)⟩
 have af:∀ u r,S.rows u=some r->InR f m (l1++m1) (S.bas u)->S.bas u=m\/S.bas u∈l1++m1:=λu r j z=>by
  rcases z with z | ⟨c,hc,z | z⟩
  .show .inl z
  .show .inr (by rw[z];show hc)
  .obtain⟨q,e,F⟩:=(B c hc).2.2;rw[z] at e;cases e;obtain⟨rb,n⟩:=I.evb j;rw[F] at n;cases n
 show⟨λu r j=>?_,λu r j=>?_,λu r j=>?_,λb r q aa O F=>?_,λu j=>?_,λx z l=>?_⟩
 .rcases M.new u r j with z | z
  .show I.alt u r z
  .show(nw u r z).1
 .rcases M.new u r j with z | z
  .by_cases i:InR f m (l1++m1) (S.bas u)
   .rw [M.inn u i];show⟨P,?_⟩
    have:∃ t,r=P++t/\∀ x∈t,S'.bas x=m:=by
     rcases af u r z i with y | y
     .obtain⟨rb,t,N,n,e3⟩:=I.bse u r z;rw[y,H] at N;cases N;show⟨t,n,λx l=>bm x ((e3 x l).trans y)⟩
     .rcases yw.mp y with y | y
      .obtain⟨a,b,E⟩:=Yr y;obtain⟨_,_,_,_,g,_⟩:=h.up I hv rfl (l1:=a) (c:=S.bas u) (l2:=b++m::l2) (by rw[E];simp);show J z (a:=S.bas u::b) (by simpa using g) λd hd=>by rw[E];rcases yv.mp hd with rfl | hd<;>simp[*]
      .obtain⟨a,b,E⟩:=Yr y;obtain⟨_,_,_,_,g,_⟩:=h'.up I hw rfl (l1:=a) (c:=S.bas u) (l2:=b++m::l2) (by rw[E];simp);show J z (a:=S.bas u::b) (by simpa using g) λd hd=>by rw[E];rcases yv.mp hd with rfl | hd<;>simp[*]
    obtain⟨t,N,n⟩:=this;show⟨t,Z,N,n⟩
   .rw [M.out u i];obtain⟨rb,t,N,n,e3⟩:=I.bse u r z;show⟨rb,t,M.old _ _ N,n,λx l=>by rw[M.out x (by rw[e3 x l];show i)];show e3 x l⟩
  .obtain⟨_,_,e,t,N,n⟩:=nw u r z;rw[e];show⟨P,t,Z,N,n⟩
 .by_cases i:InR f m (l1++m1) (S.bas u)
  .rw [M.inn u i];show m0
  .rw [M.out u i];rcases M.new u r j with z | z
   .have e:=I.idm u r z;rw[M.out _ (by rw[e];show i)];show e
   .obtain⟨_,o,_⟩:=nw u r z;have e:=I.own o;rw[e,M.out u (by rw[e] at i ⊢;show i)];show e
 .have ac:S.bas b=b/\(b=m\/¬ InR f m (l1++m1) (S.bas b)):=by
   by_cases i:InR f m (l1++m1) (S.bas b)
   .have:=M.inn b i;rw[O] at this;rw[this];show⟨W,.inl rfl⟩
   .have:=M.out b i;rw[O] at this;show⟨this.symm,.inr i⟩
  obtain⟨T,ad⟩:=ac
  have C:S.rows b=some r:=by
   rcases M.new b r aa with z | z
   .show z
   .exfalso;obtain⟨_,o,p,_⟩:=nw b r z;rw[O] at p;rw[p,H] at o;cases o
  obtain⟨k1,z,rz,k2,k3,k4⟩:=I.dwn b r q C T F;show⟨?_,z,rz,by rw[M.par];show k2,M.old _ _ k3,k4⟩
  cases e:S'.rows q with
  | none=>rfl
  | some s =>
   exfalso
   have Y:∀ c∈l1++m1,f c=some q->False:=λc hc ae=>by
    have:=G.fs ae;rw[G.fs F] at this;have n:=yn this;subst n;rcases ad with y | y
    .show(B b hc).2.1 y
    .show y (.inr ⟨b,hc,.inl T⟩)
   rcases M.new q s e with y | ⟨c,hc,y,_⟩ | ⟨c,hc,y,_⟩
   .rw [k1] at y;cases y
   .show Y c (yP _ hc) y
   .show Y c (yN _ hc) y
 .by_cases i:InR f m (l1++m1) (S.bas u)
  .rw [M.inn u i] at j ⊢;by_cases X:S.bas u=u
   .rw [X] at i;rcases i with z | ⟨c,hc,z | z⟩
    .show absurd z.symm j
    .subst z;obtain⟨⟨r,C,_⟩,_,q,F,_⟩:=B u hc;show⟨⟨r,M.old _ _ C⟩,q,F,cov q ⟨u,hc,.inr F⟩⟩
    .show⟨M.all c hc u z,c,G.fs z,cov c ⟨c,hc,.inl (B c hc).1.choose_spec.2⟩⟩
   .obtain⟨⟨r,C⟩,y,hy,e⟩:=I.mat u X;show⟨⟨r,M.old _ _ C⟩,y,hy,M.inn y (by rw[e];show i)⟩
  .rw [M.out u i] at j ⊢;obtain⟨⟨r,C⟩,y,hy,e⟩:=I.mat u j;show⟨⟨r,M.old _ _ C⟩,y,hy,by rw[M.out y (by rw[e];show i)];show e⟩
 .rw [M.par] at l;obtain⟨k1,⟨r,k2⟩,y,s,k3,k4⟩:=I.odd x z l;show⟨k1,⟨r,M.old _ _ k2⟩,y,s,k3,M.old _ _ k4⟩
end
structure Aug(A:Str->Str->Prop)(f:Str->Option Str)(r:LS):Prop where
 nd:r.Nodup
 two:2<=r.length
 ev:r.length % 2=0
 st:Turns A f r
 hd:∀ s,r[0]?=some s->f s=none
 tl:∀ s,r[r.length-1]?=some s->f s=none
section
variable{A:Str->Str->Prop}{f:Str->Option Str}{S S':FS}
theorem FI.aug(G:Gr A f)(I:FI A f S){v w:Str}{l:LS}(hv:S.rows v=some rv)(hw:S.rows w=some rw)(h:Ch f S (S.bas v) l)(h':Ch f S (S.bas w) l')(hl:l.getLast?≠l'.getLast?)(E:A v w):Aug A f (rv++rw.reverse):=by
 have n:∀ d∈l,d∉l':=λd F p=>by
  obtain⟨a,b,e⟩:=Yr F;obtain⟨x,y,q⟩:=Yr p;obtain⟨_,_,_,_,k,_⟩:=h.up I hv rfl e;obtain⟨_,_,_,_,k',_⟩:=h'.up I hw rfl q;have:=k.one k';show hl (by rw[e,q,this,Xu,Xu];rfl)
 have c:=I.alt v rv hv;have g:=I.alt w rw hw;obtain⟨O,r⟩:=c.tl;obtain⟨P,t⟩:=g.tl;have K:0<rv.length:=by rw[r];simp
 have L:0<rw.length:=by rw[t];simp
 have M:=c.odd;have N:=g.odd
 have H:f v≠some w:=λz=>by
  have e:=I.pair hv hw z;have:=h.one (e ▸ h');rw[this] at hl;show hl rfl
 have at_:∀{j:Nat} {a:Str},rw.reverse[j]?=some a->j<rw.length/\rw[rw.length-1-j]?=some a:=λ{j a} e=>by
  have hl:=(yc.mp e).1;rw[YH] at hl;rw[List.getElem?_reverse hl] at e;show⟨hl,e⟩
 show⟨Yg.mpr ⟨c.nd,(List.reverse_perm _).nodup_iff.mpr g.nd,λx J y u e=>?_⟩,by rw[yu,YH];lk,by rw[yu,YH];lk,c.st.app (λj a b h1 o=>?_) λa b h1 o _=>?_,λs i=>?_,λs i=>?_⟩
 .rw [<- e] at u;show Cov.apart G I (λd z=>h.bs0 I hv z) (λd z=>h'.bs0 I hw z) n (h.cov G I hv J) (h'.cov G I hw (k8.mp u))
 .obtain⟨l1,B⟩:=at_ h1;obtain⟨l2,m⟩:=at_ o;have:=g.st (rw.length-1-(j+1)) b a m (by rw[show rw.length-1-(j+1)+1=rw.length-1-j by lk];show B);show⟨G.as this.1,⟨λz=>?_,λz=>?_⟩⟩
  .have:=this.2.mp (G.fs z);lk
  .show G.fs (this.2.mpr (by lk))
 .have C:a=v:=by
   rw[r,yu,yH (by simp)] at h1;simpa using h1.symm
  have D:b=w:=by
   obtain⟨_,m⟩:=at_ o;rw[Kq,t,yu,yH (by simp)] at m;simpa using m.symm
  subst C;subst D;show⟨E,⟨λz=>absurd z H,λz=>by lk⟩⟩
 .rw [yX K] at i;show c.hd s i
 .rw [yu,YH,yH (by lk),show rv.length+rw.length-1-rv.length=rw.length-1 by lk] at i;obtain⟨_,e⟩:=at_ i;rw[kE] at e;show g.hd s e
structure Gw(S S':FS)(p u y:Str)(r:LS):Prop where
 ry:S'.rows y=some (r++[u,y])
 ro:∀ s,s≠y->S'.rows s=S.rows s
 pu:S'.par u=some p
 po:∀ s,s≠u->S'.par s=S.par s
 ba:S'.bas=S.bas
theorem FI.fresh(G:Gr A f)(I:FI A f S)(a:S.rows u=none)(g:S.par u=none)(c:f u=some y):S.rows y=none:=by
 cases e:S.rows y with
 | none=>rfl
 | some s =>
  exfalso;by_cases z:S.bas y=y
  .obtain⟨_,_,_,k,_⟩:=I.dwn y s u e z (G.fs c);rw[g] at k;cases k
  .obtain⟨_,x,b,k⟩:=I.mat y z;rw[G.fs c] at b;cases b;rw[I.own a] at k;obtain⟨h,d⟩:=I.evb e;rw[<- k,a] at d;cases d
theorem FI.grow(G:Gr A f)(I:FI A f S){p:Str}(o:S.rows p=some r)(N:A p u)(w:S.rows u=none)(J:S.par u=none)(n:f u=some y)(W:Gw S S' p u y r):FI A f S':=by
 have c:=I.fresh G w J n;have R:u≠y:=G.ir (G.fa n);have py:p≠y:=λz=>by rw[z,c] at o;cases o
 have g:∀ s t,S.rows s=some t->S'.rows s=some t:=λs t e=>by rw[W.ro s (λz=>by rw[z,c] at e;cases e)];show e
 have new:∀ s t,S'.rows s=some t->(s=y/\t=r++[u,y])\/(s≠y/\S.rows s=some t):=λs t e=>by
  by_cases z:s=y
  .subst z;rw[W.ry] at e;show .inl ⟨rfl,(yn e).symm⟩
  .rw [W.ro s z] at e;show .inr ⟨z,e⟩
 obtain⟨l,hl⟩:=I.chainOf o
 have B:∀ x∈r,x≠u/\x≠y:=λx C=>by
  obtain⟨d,U,z⟩:=hl.cov G I o C;obtain⟨rd,i,m⟩:=hl.bs0 I o U;show⟨λe=>?_,λe=>?_⟩
  .rw [e] at z;rcases z with z | z
   .rw [I.own w] at z;rw[z,i] at w;cases w
   .obtain⟨_,_,_,k,_⟩:=I.dwn d rd u i m z;rw[J] at k;cases k
  .rw [e] at z;rcases z with z | z
   .rw [I.own c] at z;rw[z,i] at c;cases c
   .have:=G.fs z;rw[G.fs n] at this;rw[yn this,i] at w;cases w
 have ap:=I.alt p r o;obtain⟨r0,M⟩:=ap.tl;have K:0<r.length:=by rw[M];simp
 show⟨λv t e=>?_,λv t e=>?_,λv t e=>?_,λb t q e hb E=>?_,λv e=>?_,λx z e=>?_⟩
 .rcases new v t e with⟨rfl,rfl⟩ | ⟨_,e⟩
  .show⟨Yg.mpr ⟨ap.nd,by simp[R],λx C z P D=>?_⟩,by rw[yu];have:=ap.odd;simp only[yB,Yk];lk,λs O=>?_,⟨r++[u],by simp⟩,ap.st.app (λj a b h1 H=>?_) λa b h1 H _=>?_⟩
   .obtain⟨Y,Z⟩:=B x C;simp only[yv,yJ,Yo] at P;rcases P with rfl | rfl
    .show Y D
    .show Z D
   .rw [yX K] at O;show ap.hd s O
   .have X:j=0:=by have:=(yc.mp H).1;simp at this;lk
    subst X;cases h1;cases H;show⟨G.fa n,⟨λ_=>by have:=ap.odd;lk,λ_=>n⟩⟩
   .cases H
    have T:a=p:=by
     rw[M,yu,yH (by simp)] at h1;simpa using h1.symm
    subst T;show⟨N,⟨λz=>?_,λz=>by have:=ap.odd;lk⟩⟩;have:=G.fs z;rw[n] at this;show absurd (yn this).symm py
  .show I.alt v t e
 .rw [W.ba];rcases new v t e with⟨rfl,rfl⟩ | ⟨_,e⟩
  .rw [I.own c];show⟨_,[],W.ry,by simp,(λx h=>by cases h)⟩
  .obtain⟨rb,s,i,m,F⟩:=I.bse v t e;show⟨rb,s,g _ _ i,m,F⟩
 .rw [W.ba];rcases new v t e with⟨rfl,rfl⟩ | ⟨_,e⟩
  .rw [I.own c,I.own c]
  .show I.idm v t e
 .rw [W.ba] at hb;rcases new b t e with⟨rfl,rfl⟩ | ⟨_,e⟩
  .rw [G.fs n] at E;cases E;show⟨by rw[W.ro u R];show w,p,r,W.pu,g _ _ o,rfl⟩
  .obtain⟨i,z,rz,m,F,L⟩:=I.dwn b t q e hb E;show⟨?_,z,rz,?_,g _ _ F,L⟩
   .rw [W.ro q λz=>?_]
    .show i
    .rw [z] at E;have:=G.fs E;rw[G.fs n] at this;rw[<- yn this,w] at e;cases e
   .rw [W.po q λz=>?_]
    .show m
    .rw [z,J] at m;cases m
 .rw [W.ba] at e ⊢;obtain⟨⟨t,i⟩,m⟩:=I.mat v e;show⟨⟨t,g _ _ i⟩,m⟩
 .by_cases C:x=u
  .subst C;rw[W.pu] at e;cases e;show⟨N,⟨r,g _ _ o⟩,y,_,n,W.ry⟩
  .rw [W.po x C] at e;obtain⟨i,⟨t,m⟩,y',s,F,L⟩:=I.odd x z e;show⟨i,⟨t,g _ _ m⟩,y',s,F,g _ _ L⟩
theorem FI.start(h1:∀ v r,S.rows v=some r->f v=none/\r=[v])(d:∀ x,S.par x=none)(c:∀ v,S.bas v=v):FI A f S:=by
 show⟨λv r e=>?_,λv r e=>?_,λv r e=>by rw[c,c],λb r q e _ g=>?_,λv e=>absurd (c v) e,λx z e=>by rw[d] at e;cases e⟩
 .obtain⟨k,rfl⟩:=h1 v r e;show⟨by simp,rfl,λs i=>by cases i;show k,⟨[],rfl⟩,λj a b h1 d=>?_⟩;simp at d
 .show⟨r,[],by rw[c];show e,by simp,(λx h=>by cases h)⟩
 .rw [(h1 b r e).1] at g;cases g
end
structure CI(A:Str->Str->Prop)(S:FS)(Pd:Str->Prop):Prop where
 cl:∀ v u,Pd v->A v u->S.bas u=S.bas v\/(S.par u≠none/\¬ Pd u)
 pe:∀ v,Pd v->S.rows v≠none
theorem CI.mono(h:CI A S Pd)(hb:∀ u v,S.bas u=S.bas v->S'.bas u=S'.bas v)(b:∀ u,S.par u≠none->S'.par u≠none)(c:∀ u,S.rows u≠none->S'.rows u≠none):CI A S' Pd:=
 ⟨λv u k a=>(h.cl v u k a).imp (hb u v) λz=>⟨b u z.1,z.2⟩,λv k=>c v (h.pe v k)⟩
theorem qc9:∀{l m:LS},l.Nodup->(∀ x∈l,x∈m)->l.length<=m.length
 | [],_,_,_=>Yy _
 | x::r,m,hn,hs=>by
  obtain⟨h1,c⟩:=yp.mp hn;have a:=hs x yL;have:=qc9 (l:=r) (m:=m.erase x) c λy b=>(Xs (λe=>h1 (by rw[<- e];show b))).mpr (hs y (yE _ b));rw[YN a] at this;have:0<m.length:=YF a;simp only[yB];lk
theorem qfQ:∀(n:Nat) {X:LS},X.length<=n->X.Nodup->(∀ x∈X,∃ y∈X,g x=some y/\y≠x/\g y=some x)->X.length % 2=0
 | _,[],_,_,_=>rfl
 | 0,x::r,h,_,_=>by simp at h
 | n+1,x::r,h,hn,hp=>by
  obtain⟨h1,d⟩:=yp.mp hn;obtain⟨y,p,j,i,l⟩:=hp x yL;have c:y∈r:=(yv.mp p).resolve_left i;have hl:=YN c;have v:0<r.length:=YF c
  have:=qfQ n (X:=r.erase y) (by simp at h;lk) (d.erase y) λz q=>by
   have a:=(d.mem_erase_iff.mp q);obtain⟨u,o,m,f,b⟩:=hp z (yE _ a.2);have s:u≠x:=λe=>by rw[e,j] at b;show a.1 (yn b).symm
   have t:u≠y:=λe=>by rw[e,l] at b;show h1 (by rw[yn b];show a.2)
   show⟨u,d.mem_erase_iff.mpr ⟨t,(yv.mp o).resolve_left s⟩,m,f,b⟩
  simp only[yB];lk
structure Fn(A:Str->Str->Prop)(f:Str->Option Str)(S:FS)(ss:LS):Prop where
 fi:FI A f S
 gr:Gr A f
 inn:∀ a b,A a b->a∈ss
 nd:ss.Nodup
 cl:∀ v u,S.rows v≠none->A v u->S.bas u=S.bas v\/(S.par u≠none/\S.rows u=none)
 sng:∀ z∈ss,f z=none->S.rows z≠none
 es:∀ v,S.rows v≠none->v∈ss
def qfc(S:FS)(ss:LS)(b:Str):LS:=ss.filter λu=>(S.rows u).isSome&&decide (S.bas u=b)
def qb4(S:FS)(ss:LS):LS:=ss.filter λu=>(S.rows u).isSome&&decide (S.bas u=u)
def qe2(S:FS)(ss:LS):LS:=ss.filter λu=>(S.par u).isSome&&!(S.rows u).isSome
def snL(g:Str->Option Str)(ss:LS):LS:=ss.filter λu=>!(g u).isSome
section
variable{A:Str->Str->Prop}{f g:Str->Option Str}{S:FS}{ss:LS}
theorem isS{o:Option α}:o.isSome=true↔o≠none:=by cases o<;>simp
theorem mem_cls:u∈qfc S ss b↔u∈ss/\S.rows u≠none/\S.bas u=b:=by
 unfold qfc;rw[yq,yO,isS,yR]
theorem mem_bas:u∈qb4 S ss↔u∈ss/\S.rows u≠none/\S.bas u=u:=by
 unfold qb4;rw[yq,yO,isS,yR]
theorem mem_bar:u∈qe2 S ss↔u∈ss/\S.par u≠none/\S.rows u=none:=by
 unfold qe2;rw[yq,yO,isS];cases S.rows u<;>simp
theorem mem_sn:u∈snL g ss↔u∈ss/\g u=none:=by
 unfold snL;rw[yq];cases g u<;>simp
theorem some_of{o:Option α}(h:o≠none):∃ r,o=some r:=by cases o with | none=>show absurd rfl h | some r=>show⟨r,rfl⟩
theorem FI.evE(I:FI A f S){v:Str}(hv:S.rows v≠none)(e:S.bas u=S.bas v):S.rows u≠none:=λa=>by
 obtain⟨r,b⟩:=some_of hv;obtain⟨c,hb⟩:=I.evb b;rw[I.own a] at e;rw[<- e,a] at hb;cases hb
theorem Fn.cls_odd(F:Fn A f S ss)(hb:b∈qb4 S ss):(qfc S ss b).length % 2=1:=by
 obtain⟨p,l,m⟩:=mem_bas.mp hb;have c:b∈qfc S ss b:=mem_cls.mpr ⟨p,l,m⟩;have a:(qfc S ss b).Nodup:=F.nd.filter _
 have:=qfQ (g:=f) _ (X:=(qfc S ss b).erase b) (yh _) (a.erase b) λz j=>by
  obtain⟨s,j⟩:=a.mem_erase_iff.mp j;obtain⟨t,n,o⟩:=mem_cls.mp j;obtain⟨_,u,d,h⟩:=F.fi.mat z (λe=>s (e.symm.trans o));have i:=F.fi.evE n h;show⟨u,a.mem_erase_iff.mpr ⟨λe=>?_,mem_cls.mpr ⟨F.es u i,i,h.trans o⟩⟩,d,Yh (F.gr.ir (F.gr.fa d)),F.gr.fs d⟩;obtain⟨r,q⟩:=some_of l;rw[e] at d;show n (F.fi.dwn b r z q m (F.gr.fs d)).1
 rw[YN c] at this;have:=YF c;lk
theorem Fn.count(F:Fn A f S ss):(qb4 S ss).length=(snL f ss).length+(qe2 S ss).length:=by
 have hb:(qb4 S ss).Nodup:=F.nd.filter _
 have e:(qb4 S ss).length=((qb4 S ss).filter λb=>!(f b).isSome).length+((qb4 S ss).filter λb=>(f b).isSome).length:=by
  generalize qb4 S ss=l
  induction l with
  | nil=>rfl
  | cons x r ih =>
   rw[Yc,Yc,yB,ih];cases (f x).isSome
   .rw [yG (show(!false)=true from rfl),yF Yq,yB];lk
   .rw [yF (show ¬ (!true)=true by decide),yG (show true=true from rfl),yB];lk
 rw[e];have C:((qb4 S ss).filter λb=>!(f b).isSome).length=(snL f ss).length:=xT
  (qc9 (hb.filter _) λx c=>by
   obtain⟨h1,d⟩:=yq.mp c;show mem_sn.mpr ⟨(mem_bas.mp h1).1,?_⟩
   cases e:f x with
   | none=>rfl
   | some y=>rw[e] at d;cases d)
  (qc9 (F.nd.filter _) λx c=>by
   obtain⟨h1,d⟩:=mem_sn.mp c;show yq.mpr ⟨mem_bas.mpr ⟨h1,F.sng x h1 d,Yn λz=>?_⟩,by rw[d];rfl⟩;obtain⟨_,u,i,_⟩:=F.fi.mat x z;rw[d] at i;cases i)
 have D:((qb4 S ss).filter λb=>(f b).isSome).length=(qe2 S ss).length:=by
  have inj:(((qb4 S ss).filter λb=>(f b).isSome).map λb=>(f b).getD "").Nodup:=by
   show Xq.mpr (xX (λ{a b} E g o e=>?_) (hb.filter _));obtain⟨x,c⟩:=Y7.mp (yq.mp E).2;obtain⟨y,v⟩:=Y7.mp (yq.mp g).2;rw[c,v] at e;have n:x=y:=e;have k:=F.gr.fs c;rw[n,F.gr.fs v] at k;show o (yn k).symm
  show xT ?_ ?_
  .have:=qc9 inj (m:=qe2 S ss) λq p=>?_
   rwa[ya] at this
   obtain⟨b,g,rfl⟩:=yQ.mp p;obtain⟨h1,d⟩:=yq.mp g;obtain⟨x,c⟩:=Y7.mp d;obtain⟨L,w,B⟩:=mem_bas.mp h1;obtain⟨r,G⟩:=some_of w;obtain⟨j,z,rz,t,_⟩:=F.fi.dwn b r x G B c;rw[c];have I:S.par x≠none:=by rw[t];show λe=>by cases e
   show x∈qe2 S ss;show mem_bar.mpr ⟨F.inn _ _ (F.gr.as (F.gr.fa c)),I,j⟩
  .have:(qe2 S ss).length<=(((qb4 S ss).filter λb=>(f b).isSome).map λb=>(f b).getD "").length:=qc9 (F.nd.filter _) λq p=>?_
   rwa[ya] at this
   obtain⟨M,J,K⟩:=mem_bar.mp p;obtain⟨z,H⟩:=some_of J;obtain⟨_,_,y,r,j,t⟩:=F.fi.odd q z H;have h:S.rows y≠none:=by rw[t];show λe=>by cases e
   show yQ.mpr ⟨y,yq.mpr ⟨mem_bas.mpr ⟨F.es y h,h,Yn λe=>?_⟩,by rw[F.gr.fs j];rfl⟩,by rw[F.gr.fs j];rfl⟩;obtain⟨_,u,i,s⟩:=F.fi.mat y e;rw[F.gr.fs j] at i;cases i;show F.fi.evE h s K
 rw[C,D]
theorem Fn.most(F:Fn A f S ss)(l:Gr A g):(snL f ss).length<=(ss.filter λu=>!(g u).isSome&&(S.rows u).isSome).length:=by
 have m:∀ b∈qb4 S ss,∃ v∈qfc S ss b,g v=none\/∃ w,g v=some w/\w∈qe2 S ss:=λb hb=>Yn λq=>by
  have C:=F.cls_odd hb
  have:=qfQ (g:=g) _ (X:=qfc S ss b) (yh _) (F.nd.filter _) λv hv=>by
   obtain⟨D,s,E⟩:=mem_cls.mp hv
   cases e:g v with
   | none=>show absurd ⟨v,hv,.inl e⟩ q
   | some w =>
    have hw:=l.as (l.fa e);rcases F.cl v w s (l.fa e) with z | ⟨z1,z2⟩
    .have r:=F.fi.evE s z;show⟨w,mem_cls.mpr ⟨F.es w r,r,z.trans E⟩,rfl,Yh (l.ir (l.fa e)),l.fs e⟩
    .show absurd ⟨v,hv,.inr ⟨w,e,mem_bar.mpr ⟨F.inn _ _ hw,z1,z2⟩⟩⟩ q
  lk
 obtain⟨j,i⟩:∃ j:Str->Str,∀ b∈qb4 S ss,j b∈qfc S ss b/\(g (j b)=none\/∃ w,g (j b)=some w/\w∈qe2 S ss):=
  ⟨λb=>@dite _ (b∈qb4 S ss) (Classical.propDecidable _) (λh=>(m b h).choose) λ_=>b,λb hb=>by
   dsimp only;rw[dif_pos hb];show⟨(m b hb).choose_spec.1,(m b hb).choose_spec.2⟩⟩
 have inj:∀ a∈qb4 S ss,∀ b∈qb4 S ss,j a=j b->a=b:=λa n b hb e=>by
  have h1:=(mem_cls.mp (i a n).1).2.2;have G:=(mem_cls.mp (i b hb).1).2.2;rw[<- h1,<- G,e]
 have hb:(qb4 S ss).Nodup:=F.nd.filter _
 have t:(qb4 S ss).length<=((ss.filter λu=>!(g u).isSome&&(S.rows u).isSome)++qe2 S ss).length:=by
  rw[<- ya (f:=λb=>(g (j b)).getD (j b))];show qc9 (Xq.mpr (xX (λ{a b} n d p e=>?_) hb)) λx H=>?_
  .have B:∀ c∈qb4 S ss,S.rows (j c)≠none:=λc hc=>(mem_cls.mp (i c hc).1).2.1;rcases(i a n).2 with z | ⟨w,z,hw⟩<;>rcases(i b d).2 with y | ⟨u,y,hu⟩
   .rw [z,y] at e;show p (inj a n b d e)
   .rw [z,y] at e;have o:j a=u:=e;show B a n (by rw[o];show(mem_bar.mp hu).2.2)
   .rw [z,y] at e;have o:w=j b:=e;show B b d (by rw[<- o];show(mem_bar.mp hw).2.2)
   .rw [z,y] at e;have o:w=u:=e;have k:=l.fs z;rw[o,l.fs y] at k;show p (inj a n b d (yn k).symm)
  .obtain⟨b,d,rfl⟩:=yQ.mp H;obtain⟨D,s,E⟩:=mem_cls.mp (i b d).1;rcases(i b d).2 with z | ⟨w,z,hw⟩
   .rw [z];show yP _ (yq.mpr ⟨D,by show(!(g (j b)).isSome&&(S.rows (j b)).isSome)=true;rw[z,isS.mpr s];rfl⟩)
   .rw [z];show yN _ hw
 rw[F.count,yu] at t;lk
end
theorem qdY:∀{qs:LP},pt qs s=some t->(s,t)∈qs\/(t,s)∈qs
 | [],h=>by cases h
 | q::r,h=>by
  unfold pt at h;split at h
  .rename_i e;cases h;show .inl (by rw[<- e];simp)
  .split at h
   .rename_i e;cases h;show .inr (by rw[<- e];simp)
   .rcases qdY h with z | z
    .show .inl (yE _ z)
    .show .inr (yE _ z)
theorem qfd:∀{qs:LP},(qi qs).Nodup->∀{a b:Str},(a,b)∈qs\/(b,a)∈qs->pt qs a=some b
 | [],_,a,b,m=>by rcases m with z | z<;>cases z
 | q::r,h,a,b,m=>by
  have d:(q.1::q.2::qi r).Nodup:=h;obtain⟨g,l⟩:=yp.mp d;obtain⟨n,o⟩:=yp.mp l;have inr:∀{x y:Str},(x,y)∈r->x∈qi r/\y∈qi r:=λc=>⟨Y4.mpr ⟨_,c,by simp⟩,Y4.mpr ⟨_,c,by simp⟩⟩;unfold pt
  have later:(a,b)∈r\/(b,a)∈r->(if q.1=a then some q.2 else if q.2=a then some q.1 else pt r a)=some b:=λj=>by
   have i:a∈qi r:=j.elim (λz=>(inr z).1) λz=>(inr z).2;rw[yF (λz=>g (by rw[z];show yE _ i)),yF (λz=>n (by rw[z];show i))];show qfd o j
  rcases m with z | z
  .rcases yv.mp z with z | z
   .subst z;rw[yG rfl]
   .show later (.inl z)
  .rcases yv.mp z with z | z
   .subst z;have f:b≠a:=λe=>g (by show b∈a::_;rw[e];show yL);rw[yF f,yG rfl]
   .show later (.inr z)
theorem qdZ(h:(qi qs).Nodup):pt qs a=some b↔(a,b)∈qs\/(b,a)∈qs:=⟨qdY,qfd h⟩
theorem qbk(h:(qi qs).Nodup):pt qs a=some b↔pt qs b=some a:=by
 rw[qdZ h,qdZ h,Or.comm]
theorem qeJ{x y:Option Str}(h:∀ b,x=some b↔y=some b):x=y:=by
 cases x with
 | none=>cases y with
  | none=>rfl
  | some b=>show absurd ((h b).mpr rfl) (λz=>by cases z)
 | some a=>show((h a).mp rfl).symm
theorem uL:FnScope wqf wqf (qh j5):=fS
structure Fo where
 x:Addr
 b:Addr
 dp:Addr
 dr:Addr
 da:Addr
 ds:Addr
 dg:Addr
 dw:Addr
 ex:LX
def Fo.six(a:Fo):LX:=[a.x,a.dr,a.da,a.ds,a.dg,a.dw]
def Fo.all(a:Fo):LX:=a.six++a.ex
def Fo.tab(a:Fo)(lo:V):List (Str×V):=[("board",.ref a.b),("partners",.ref a.dp),("rows",.ref a.dr),("parents",.ref a.da),("bases",.ref a.ds),("rings",.ref a.dg),("waiting",.ref a.dw),("longer",lo)]
def Bx(l:LX)(H H':Hp):Prop:=∀ c o,c∉l->H c=some o->H' c=some o
def RowV(H:Hp)(l:LX)(o:Option V):Option (LS)->Prop
 | none=>o=none
 | some r=>∃ t,o=some (.ref t)/\H t=some (.lst (r.map V.str))/\t∉l
def FoO(b:Addr)(H:Hp)(a:Fo)(lo:V):Prop:=∃ dx fs,H a.x=some (.ins b dx fs)/\fs.length<=9/\(lo=.non->fs.length<=8)/\(∀ f v,(f,v)∈a.tab lo->fs.lookup f=some v)/\∀ f,f∉fAtt->fs.lookup f=none
structure FoA(cf cw:Addr)(H0 H:Hp)(a:Fo)(ss:LS)(ns:LN)(qs:LP)(S:FS)(bs dn wt:LS)(lo:V):Prop where
 sm:L2.Same H0 H
 web:WebAt cw H0 a.b ss ns
 prt:H0 a.dp=some (.dK (prK qs))
 fr:∀ c∈a.six,H0 c=none
 nd:[a.dr,a.da,a.ds,a.dg,a.dw].Nodup
 exf:∀ c∈a.ex,H0 c=none/\c∉a.six/\∃ o,H c=some o
 obj:FoO cf H a lo
 row:∃ kvs,H a.dr=some (.dK kvs)/\kvs.length<=(dn++wt).length/\∀ s,RowV H a.all (zv kvs (.inr s:Key)) (S.rows s)
 par:∃ kvs,H a.da=some (.dK kvs)/\(∃ po:LS,kvs.length<=po.length/\po.Nodup/\∀ u∈po,u∈ss/\S.par u≠none)/\∀ s,zv kvs (.inr s:Key)=(S.par s).map V.str
 bas:∃ kvs,H a.ds=some (.dK kvs)/\kvs.length<=bs.length/\∀ s∈bs,zv kvs (.inr s:Key)=some (.str (S.bas s))
 rng:∃ xs,H a.dg=some (.lst xs)/\xs.length<=(dn++wt).length
 wai:H a.dw=some (.lst (wt.map V.str))
 evn:(dn++wt).Nodup
 evi:∀ v,v∈dn++wt↔S.rows v≠none
 evs:∀ v∈dn++wt,v∈ss
theorem RowV.mono{l:LX}{o:Option V}{r:Option (LS)}(h:RowV H l o r){m:LX}(k:Bx m H H')(d:∀ c∈m,c∈l):RowV H' l o r:=by
 cases r with
 | none=>show h
 | some r=>obtain⟨t,h1,b,a⟩:=h;show⟨t,h1,k _ _ (λz=>a (d _ z)) b,a⟩
theorem Fo.sub{a:Fo}:∀ c∈a.six,c∈a.all:=λc h=>yP _ h
theorem Bx.of{l:LX}(s:L2.Same H H'):Bx l H H':=λc o _ e=>s c o e
theorem Bx.trans{l:LX}{d:Hp}(a:Bx l H H')(b:Bx l H' d):Bx l H d:=λc o n e=>b c o n (a c o n e)
section
variable{cf cw:Addr}{H0 H H':Hp}{a:Fo}{ss:LS}{ns:LN}{qs:LP}{S S':FS}{bs dn wt:LS}{lo:V}
theorem FoA.same(h:FoA cf cw H0 H a ss ns qs S bs dn wt lo)(s:L2.Same H H'):FoA cf cw H0 H' a ss ns qs S bs dn wt lo:=by
 obtain⟨dx,fs,h1,i⟩:=h.obj;obtain⟨j,r,t,u⟩:=h.row;obtain⟨m,p,q⟩:=h.par;obtain⟨n,b,d⟩:=h.bas;obtain⟨xs,f,g⟩:=h.rng;show⟨h.sm.trans s,h.web,h.prt,h.fr,h.nd,λc hc=>⟨(h.exf c hc).1,(h.exf c hc).2.1,(h.exf c hc).2.2.elim λo e=>⟨o,s _ _ e⟩⟩,⟨dx,fs,s _ _ h1,i⟩,⟨j,s _ _ r,t,λz=>(u z).mono (Bx.of (l:=[]) s) (λc h=>by cases h)⟩,⟨m,s _ _ p,q⟩,⟨n,s _ _ b,d⟩,⟨xs,s _ _ f,g⟩,s _ _ h.wai,h.evn,h.evi,h.evs⟩
theorem FoA.six(h:FoA cf cw H0 H a ss ns qs S bs dn wt lo):∀ c∈a.six,∃ o,H c=some o:=λc hc=>by
 obtain⟨dx,fs,h1,_⟩:=h.obj;obtain⟨g,f,_⟩:=h.row;obtain⟨i,e,_⟩:=h.par;obtain⟨j,b,_⟩:=h.bas;obtain⟨xs,d,_⟩:=h.rng;simp only[Fo.six,yv,yJ,Yo] at hc;rcases hc with rfl | rfl | rfl | rfl | rfl | rfl
 .show⟨_,h1⟩
 .show⟨_,f⟩
 .show⟨_,e⟩
 .show⟨_,b⟩
 .show⟨_,d⟩
 .show⟨_,h.wai⟩
theorem FoA.new(h:FoA cf cw H0 H a ss ns qs S bs dn wt lo)(e:H c=none):c∉a.six:=λz=>by
 obtain⟨o,k⟩:=h.six c z;rw[e] at k;cases k
theorem FoA.sep(h:FoA cf cw H0 H a ss ns qs S bs dn wt lo):a.six.Nodup:=by
 obtain⟨dx,fs,h1,_⟩:=h.obj;obtain⟨f,e,_⟩:=h.row;obtain⟨g,d,_⟩:=h.par;obtain⟨i,b,_⟩:=h.bas;obtain⟨xs,c,_⟩:=h.rng;show yp.mpr ⟨λz=>?_,h.nd⟩;simp only[yv,yJ,Yo] at z;rcases z with z | z | z | z | z
 .rw [z,e] at h1;cases h1
 .rw [z,d] at h1;cases h1
 .rw [z,b] at h1;cases h1
 .rw [z,c] at h1;cases h1
 .rw [z,h.wai] at h1;cases h1
theorem FoO.eq(h:FoO cf H a lo)(e:H' a.x=H a.x):FoO cf H' a lo:=by
 obtain⟨dx,fs,h1,b⟩:=h;show⟨dx,fs,e.trans h1,b⟩
theorem Bx.upd{l:LX}(k:Bx l H H')(hc:c∈l):Bx l H (upd H' c o):=λd u n e=>by
 rw[qg (λz=>n (by rw[z];show hc))];show k d u n e
def Fo.add(a:Fo)(c:Addr):Fo:={ a with ex:=c::a.ex }
theorem FoA.add(h:FoA cf cw H0 H a ss ns qs S bs dn wt lo)(e:H c=none):FoA cf cw H0 (upd H c o) (a.add c) ss ns qs S bs dn wt lo:=by
 have g:=h.same (qz (Sr H) (o:=o) e);obtain⟨f,q,w,x⟩:=g.row;obtain⟨n,v,_,A⟩:=h.row
 have s:n=f:=by
  have:=qz (Sr H) (o:=o) e _ _ v;rw[q] at this;show(HO.dK.inj (yn this)).symm
 subst s;show⟨g.sm,g.web,g.prt,g.fr,g.nd,λd hd=>?_,g.obj,⟨n,q,w,λz=>?_⟩,g.par,g.bas,g.rng,g.wai,g.evn,g.evi,g.evs⟩
 .rcases yv.mp hd with rfl | hd
  .show⟨h.sm.free e,h.new e,_,qb⟩
  .show g.exf d hd
 .have b:=x z;have j:=A z
  cases i:S.rows z with
  | none=>rw[i] at b;show b
  | some r =>
   rw[i] at b j;obtain⟨t,f,u,p⟩:=b;obtain⟨t',l,m,_⟩:=j;rw[f] at l;cases l;show⟨t,f,u,λy=>?_⟩;rcases yw.mp y with y | y
   .show p (yP _ y)
   .rcases yv.mp y with y | y
    .rw [y,e] at m;cases m
    .show p (yN _ y)
theorem FoA.updE(h:FoA cf cw H0 H a ss ns qs S bs dn wt lo)(hc:c∈a.ex):FoA cf cw H0 (upd H c o) a ss ns qs S bs dn wt lo:=by
 obtain⟨l,p,_⟩:=h.exf c hc;have ne:∀{d:Addr},d∈a.six->upd H c o d=H d:=λb=>qg λz=>p (by rw[<- z];show b);obtain⟨q,w,x,A⟩:=h.row;obtain⟨r,t,v⟩:=h.par;obtain⟨s,f,g⟩:=h.bas;obtain⟨xs,i,j⟩:=h.rng;show⟨qa9 h.sm l,h.web,h.prt,h.fr,h.nd,λd b=>⟨(h.exf d b).1,(h.exf d b).2.1,by by_cases z:d=c;show⟨_,by rw[z,qb]⟩;rw[qg z];show(h.exf d b).2.2⟩,h.obj.eq (ne (by simp[Fo.six])),⟨q,(ne (by simp[Fo.six])).trans w,x,λz=>(A z).mono (m:=[c]) (λd u n e=>by rw[qg (λy=>n (by rw[y];simp))];show e) λd b=>by rw[yx.mp b];show yN _ hc⟩,⟨r,(ne (by simp[Fo.six])).trans t,v⟩,⟨s,(ne (by simp[Fo.six])).trans f,g⟩,⟨xs,(ne (by simp[Fo.six])).trans i,j⟩,(ne (by simp[Fo.six])).trans h.wai,h.evn,h.evi,h.evs⟩
theorem FoA.drop(h:FoA cf cw H0 H a ss ns qs S bs dn wt lo){l:LX}(f:∀ c∈l,c∈a.ex):FoA cf cw H0 H { a with ex:=l } ss ns qs S bs dn wt lo:=by
 obtain⟨d,j,m,n⟩:=h.row;show⟨h.sm,h.web,h.prt,h.fr,h.nd,λc hc=>h.exf c (f c hc),h.obj,⟨d,j,m,λz=>?_⟩,h.par,h.bas,h.rng,h.wai,h.evn,h.evi,h.evs⟩;have b:=n z
 cases e:S.rows z with
 | none=>rw[e] at b;show b
 | some r =>
  rw[e] at b;obtain⟨t,d,g,i⟩:=b;show⟨t,d,g,λy=>i ((yw.mp y).elim (λz=>yP _ z) λz=>yN _ (f _ z))⟩
theorem FoA.newA(h:FoA cf cw H0 H a ss ns qs S bs dn wt lo)(e:H c=none):c∉a.all:=λz=>by
 rcases yw.mp z with z | z
 .show h.new e z
 .obtain⟨o,k⟩:=(h.exf c z).2.2;rw[e] at k;cases k
theorem FoA.few(h:FoA cf cw H0 H a ss ns qs S bs dn wt lo):(dn++wt).length<=ss.length:=zN h.evn h.evs
end
def FS.setRow(S:FS)(p:Str)(r:LS):FS:=⟨λs=>if s=p then some r else S.rows s,S.par,S.bas⟩
inductive spRe(cc:Nat->Addr)(cw:Addr)(vs:List V)(H:Hp)(Q:VK)(E:XK):Prop|mk (H0:Hp) (a:Fo) (ss:LS) (ns:LN) (qs:LP) (S:FS) (bs dn wt:LS) (lo:V) (p:Str) (t:Addr) (r:LS) (_:vs=[.ref a.x,.str p,.ref t]) (_:FoA (cc 9) cw H0 H a ss ns qs S bs dn wt lo) (_:ss.length<=14) (_:H t=some (.lst (r.map V.str))) (_:t∉a.all) (_:p∈ss) (_:S.rows p=none) (_:∀ H',FoA (cc 9) cw H0 H' a ss ns qs (S.setRow p r) bs dn (wt++[p]) lo->Bx a.six H H'->(∀ o,H a.dg=some o->H' a.dg=some o)->Q .non H')
inductive spBd(cc:Nat->Addr)(cw:Addr)(vs:List V)(H:Hp)(Q:VK)(E:XK):Prop|mk (H0:Hp) (a:Fo) (ss:LS) (ns:LN) (qs:LP) (S:FS) (dn wt:LS) (lo:V) (p:Str) (r l:LS) (A:Str->Str->Prop) (_:vs=[.ref a.x,.str p]) (_:FoA (cc 9) cw H0 H a ss ns qs S ss dn wt lo) (_:ss.length<=14) (_:FI A (pt qs) S) (_:S.rows p=some r) (_:Ch (pt qs) S (S.bas p) l) (_:l.length<=14) (_:∀(t:Addr) (H':Hp),L2.Same H H'->H t=none->H' t=some (.lst (l.map V.str))->Q (.ref t) H')
section
variable{P:Program}{w:World}{K:W.Frag}{mg:Str->Option Value}{base:Heap}{cc:Nat->Addr}{cw:Addr}{H0 H:Hp}{a:Fo}{ss:LS}{ns:LN}{qs:LP}{S:FS}{bs dn wt:LS}{lo:V}
theorem FoO.rd{Q:VK}{f:Str}(h:FoO (cc 9) H a lo)(T:Txt K mg cc cw)(i:Nat)(e:(a.tab lo)[i]?=some (f,v))(q:Q v H):FldR K f (.ref a.x) H Q:=by
 obtain⟨dx,fs,h1,_,_,b,_⟩:=h;show⟨a.x,cc 9,dx,fs,v,rfl,h1,T.fcl,T.fa f ?_,b f v (ye e),q⟩;have:((a.tab lo).map Prod.fst)[i]?=some f:=by rw[yd,e];rfl
 show ye (l:=fAtt) (i:=i) this
theorem FoO.me{m:Str}{k:Prop}(h:FoO (cc 9) H a lo)(c:m∉fAtt)(q:k):MeR (cc 9) m (.ref a.x) H k:=by
 obtain⟨dx,fs,h1,_,_,_,b⟩:=h;show⟨a.x,dx,fs,rfl,h1,b m c,q⟩
theorem ok_re(F:Fun K "reach" "Forest.reach" j5 f fd)(T:Txt K mg cc cw):wqP 1 f fd wqf (spRe cc cw):=by
 show F.ok uL λ_ _ _ _ H vs Q E U h=>?_
 .obtain⟨H0,a,ss,ns,qs,S,bs,dn,wt,lo,p,t,r,rfl,h,R,W,d,s,m,q⟩:=h;have X:=ze U;have b:=h.few;have l:p∉dn++wt:=λz=>(h.evi p).mp z m;show⟨_,(qc (jN (pv 2) (jM (qA (K:=K) rfl (pv 0) rfl) (pv 1) (jQ X)))
 (qe (qE (qaX (K:=K) rfl yI yZ Yb qK (qA (K:=K) rfl (pv 0) rfl) (qa (pv 1) qd))))),?_⟩
  ext;obtain⟨⟨n1,n2,n3,n4,n5⟩,⟨n6,n7,C,D⟩,⟨aa,ac,A⟩,⟨ad,B⟩,g⟩:=(by simpa [Fo.six] using h.sep:(¬a.x=a.dr/\¬a.x=a.da/\¬a.x=a.ds/\¬a.x=a.dg/\¬a.x=a.dw)/\(¬a.dr=a.da/\¬a.dr=a.ds/\¬a.dr=a.dg/\¬a.dr=a.dw)/\(¬a.da=a.ds/\¬a.da=a.dg/\¬a.da=a.dw)/\(¬a.ds=a.dg/\¬a.ds=a.dw)/\¬a.dg=a.dw);obtain⟨j,r1,r2,r3⟩:=h.row;obtain⟨Z,p1,p2,p3⟩:=h.par;obtain⟨ks,J,L,M⟩:=h.bas;obtain⟨xs,N,O⟩:=h.rng;show .inl (h.obj.rd T 2 rfl ?_);apply .inr ⟨a.dr,_,rfl,DPut.k (k:=Sum.inr p) r1 (by rw[YT];lk),?_⟩;have G:FoO (cc 9) (upd H a.dr (.dK (zR j (Sum.inr p) (.ref t)))) a lo:=h.obj.eq (qg n1);have I:upd H a.dr (.dK (zR j (Sum.inr p) (.ref t))) a.dw=some (.lst (wt.map V.str)):=by rw[qg (Yh D)];show h.wai
  apply .inl (G.rd T 6 rfl ?_);show⟨.inl ⟨rfl,_,.of I⟩,?_⟩;apply⟨a.dw,_,_,rfl,rfl,I,by rw[ya];show qv (by rw[yu] at b;lk),?_⟩;have u:∀{c:Addr} {o o':HO},c∉a.six->upd (upd H a.dr o) a.dw o' c=H c:=λhc=>by rw[qg (λz=>hc (by rw[z];simp[Fo.six])),qg (λz=>hc (by rw[z];simp[Fo.six]))]
  have i:Bx a.six H (upd (upd H a.dr (.dK (zR j (Sum.inr p) (.ref t)))) a.dw (.lst (wt.map V.str++[.str p]))):=λc o n e=>by rw[u n];show e
  show q _ ⟨qa9 (qa9 h.sm (h.fr _ (by simp[Fo.six]))) (h.fr _ (by simp[Fo.six])),h.web,h.prt,h.fr,h.nd,λc hc=>⟨(h.exf c hc).1,(h.exf c hc).2.1,(h.exf c hc).2.2.elim λo e=>⟨o,i _ _ (h.exf c hc).2.1 e⟩⟩,G.eq (qg n5),⟨_,by rw[qg D,qb],?_,λz=>?_⟩,⟨Z,by rw[qg A,qg (Yh n6)];show p1,p2,p3⟩,⟨ks,by rw[qg B,qg (Yh n7)];show J,L,M⟩,⟨xs,by rw[qg g,qg (Yh C)];show N,?_⟩,by rw[qb,yC];rfl,?_,λv=>?_,λv hv=>?_⟩ i λo e=>by(rw[qg g,qg (Yh C)];show e)
  .have:=jV j (Sum.inr p:Key) (.ref t);rw[<- Yp,yu (bs:=[p])];show _<=_+1;lk
  .unfold FS.setRow;dsimp only;rw[qbm];by_cases e:z=p
   .subst e;rw[yG rfl,yG rfl];show⟨t,rfl,i _ _ (λy=>d (Fo.sub _ y)) W,d⟩
   .rw [yF (λy=>e (xU y)),yF e];show(r3 z).mono i Fo.sub
  .rw [<- Yp,yu (bs:=[p])];show kO O
  .rw [<- Yp];show Yg.mpr ⟨h.evn,XS _ _,λx u y Y e=>l (by rw[<- yx.mp Y,<- e];show u)⟩
  .rw [<- Yp,yw,yx,h.evi];unfold FS.setRow;dsimp only;by_cases e:v=p
   .subst e;rw[yG rfl];show⟨(λ_ z=>by cases z),λ_=>.inr rfl⟩
   .rw [yF e];show⟨λz=>z.resolve_right e,.inl⟩
  .rw [<- Yp] at hv;rcases yw.mp hv with z | z
   .show h.evs v z
   .rw [yx.mp z];show s
end
theorem Kz:FnScope ["self","place","bases","below"] wy (qh qO):=fS
theorem atI_last{xs:LS}{c:Str}:atI ((xs++[c]).map V.str) (-1)=some (.str c):=by
 have e:ixN ((xs++[c]).map V.str).length (-1)=some xs.length:=by
  unfold ixN;rw[yF (by lk),yG (by rw[ya,yu];simp;lk)]
  congr 1
  rw[ya,yu];simp only[yB,Yk];lk
 unfold atI;rw[e];show((xs++[c]).map V.str)[xs.length]?=_;rw[yd,yH (yh _),kE];rfl
theorem Ch.cases'{f:Str->Option Str}{t:LS}(h:Ch f S b (b::t)):(f b=none/\t=[])\/∃ q z,f b=some q/\S.par q=some z/\Ch f S (S.bas z) t:=by
 generalize e:b::t=l at h
 cases h with
 | root h=>cases e;show .inl ⟨h,rfl⟩
 | step h1 h2 h3=>cases e;show .inr ⟨_,_,h1,h2,h3⟩
theorem in_prK{d:Addr}{Q:VK}(a:H d=some (.dK (prK qs)))(q:Q (.bl (pt qs s).isSome) H):qe0 K false (.str s) (.ref d) H Q:=by
 show .inr (.inl ⟨d,_,rfl,DGet.k (k:=Sum.inr s) a,?_⟩);rw[qai,yF (by decide),Xp];show q
theorem qe3{d:Addr}{Q:VK}(a:H d=some (.dK kvs))(e:zv kvs (.inr s:Key)=some v)(q:Q v H):qfV K (.ref d) (.str s) H Q:=.inr ⟨d,v,rfl,by rw[<- e];show DGet.k (k:=Sum.inr s) a,q⟩
theorem ok_bd(F:Fun K "bases_down_from" "Forest.bases_down_from" qO f fd)(T:Txt K mg cc cw):wqP 1 f fd wy (spBd cc cw):=by
 show F.ok Kz λ_ _ _ _ H vs Q E hr h=>?_
 .obtain⟨H0,a,ss,ns,qs,S,dn,wt,lo,p,r,l,B,rfl,h,ad,I,hp,u,aa,q⟩:=h;have n:=ze hr;show⟨_,(qc (qm (i:=2) Kz.nd rfl (yK rfl) (qB (qa (qo (qp (K:=K) rfl n) (qA (K:=K) rfl (pv 0) rfl) (pv 1) (λ_ _=>rfl)) qd)))
 (qc (qck yT (qj (qaf (K:=K) rfl n) (qo (qp (K:=K) rfl n) (pv 2) (qa0 qbI qf) (λ_ _=>rfl)) (qA (K:=K) rfl (pv 0) rfl) (by with_unfolding_all rfl))
 (qc (qm (i:=3) Kz.nd rfl (yK rfl) (qo (qp (K:=K) rfl n) (qA (K:=K) rfl (pv 0) rfl) (qo (qp (K:=K) rfl n) (qA (K:=K) rfl (pv 0) rfl) (qo (qp (K:=K) rfl n) (pv 2) (qa0 qbI qf) (λ_ _=>rfl)) (λ_ _=>rfl)) (λ_ _=>rfl)))
 (qe (qE (qaX (K:=K) rfl yI yZ Yb qK (pv 2) (qa (qo (qp (K:=K) rfl n) (qA (K:=K) rfl (pv 0) rfl) (pv 3) (λ_ _=>rfl)) qd))))))
 (qe (qq (pv 2))))),?_⟩
  have evS:∀{v:Str} {r:LS},S.rows v=some r->v∈ss:=λe=>h.evs _ ((h.evi _).mpr (by rw[e];show λz=>by cases z));obtain⟨ks,b1,b2,b3⟩:=h.bas;apply .inl (h.obj.rd T 4 rfl ?_);apply qe3 b1 (b3 p (evS hp)) ?_;apply⟨wqR,λbl j=>?_⟩;have s1:=qz (Sr H) (o:=.lst [.str (S.bas p)]) j;have e1:upd H bl (.lst [.str (S.bas p)]) bl=some (.lst (([]++[S.bas p]).map V.str)):=qb;generalize upd H bl (.lst [.str (S.bas p)])=H1 at s1 e1;ext;obtain⟨W,g⟩:∃ W:Nat->L2.St->Hp->Prop,W=λm σ J=>∃(l1 l2:LS) (c:Str) (y3:Option V),l=l1++c::l2/\σ=[some (.ref a.x),some (.str p),some (.ref bl),y3]/\L2.Same H J/\J bl=some (.lst ((l1++[c]).map V.str))/\m=l2.length:=⟨_,rfl⟩;obtain⟨t0,O⟩:=u.ne;show⟨W,⟨t0.length,by rw[g];show⟨[],t0,_,_,O,rfl,s1,e1,rfl⟩⟩,λm σ J hW=>?_⟩;rw[g] at hW;obtain⟨l1,l2,c,y3,L,rfl,Z,s,hm⟩:=hW;obtain⟨rc,_,X,R,y,_⟩:=u.up I hp rfl L;have d:=h.same Z;have C:=d.sm _ _ h.prt;apply⟨1,rfl,?_⟩;show .inl (j9 s (v:=.str c) atI_last ?_);apply .inl (d.obj.rd T 1 rfl ?_);show in_prK C ?_;rcases y.cases' with⟨A,rfl⟩ | ⟨q',z,A,D,U⟩
  .rw [A];show⟨_,rfl,qL (λh=>by cases h) λ_=>?_⟩;apply q bl J Z j (by rw[L];show s)
  .rw [A];show⟨_,rfl,zd ⟨λG H'=>∃ m',m'<m/\W m' G H',λG H' z=>z,?_⟩⟩;obtain⟨_,z',rz,b,Y,_⟩:=I.dwn c rc q' X R A;rw[D] at b;cases b;obtain⟨ka,p1,p2,p3⟩:=d.par;obtain⟨ae,M,ac,N⟩:=d.bas;apply .inl (d.obj.rd T 3 rfl ?_);apply .inl (d.obj.rd T 1 rfl ?_);apply⟨1,rfl,?_⟩;show .inl (j9 s (v:=.str c) atI_last ?_);show qe3 C (by rw[qai,A];rfl) ?_;show qe3 p1 (by rw[p3,D];rfl) ?_;apply⟨.inl ⟨rfl,_,.of s⟩,?_⟩;apply .inl (d.obj.rd T 4 rfl ?_);apply qe3 M (N z (evS Y)) ?_;apply⟨bl,_,_,rfl,rfl,s,by rw[ya];show qv (by have:=congrArg List.length L;rw[yu,yB] at this;rw[yu];simp only[yB,Yk];lk),?_⟩;obtain⟨t1,t⟩:=U.ne;rw[g];show⟨t1.length,by rw[hm,t];simp,l1++[c],t1,S.bas z,_,by rw[L,t];simp,rfl,qa9 Z j,by rw[qb,yC (l₁:=l1++[c])];rfl,rfl⟩
theorem Kv:FnScope ["self","one","other","bases","side","base","place","row"] wqy (qh q9):=fS
structure RR(f:Str->Option Str)(S S':FS)(v w:Str)(cs:LS):Prop where
 par:S'.par=S.par
 bas:S'.bas=S.bas
 old:∀ u r,S.rows u=some r->S'.rows u=some r
 new:∀ u r,S'.rows u=some r->S.rows u=some r\/∃ c∈cs,f c=some u/\NewRow S v w u r
 all:∀ c∈cs,∀ q,f c=some q->∃ r,S'.rows q=some r
inductive spRr(cc:Nat->Addr)(cw:Addr)(vs:List V)(H:Hp)(Q:VK)(E:XK):Prop|mk (H0:Hp) (a:Fo) (ss:LS) (ns:LN) (qs:LP) (S:FS) (dn wt:LS) (lo:V) (v w:Str) (lb:Addr) (cs rv rw:LS) (_:vs=[.ref a.x,.str v,.str w,.ref lb]) (_:FoA (cc 9) cw H0 H a ss ns qs S ss dn wt lo) (_:ss.length<=14) (_:H lb=some (.lst (cs.map V.str))) (_:lb∉a.six) (_:S.rows v=some rv) (_:S.rows w=some rw) (_:rv.length<=14) (_:rw.length<=14) (_:rv.Nodup) (_:cs.Nodup) (_:cs.length<=14) (_:(qi qs).Nodup) (_:(∀ c∈cs,∃ q rz t,pt qs c=some q/\S.rows q=none/\q∈ss/\rv=rz++q::t)) (_:∀(t:Addr) (sd more:LS) (H':Hp) (S':FS),FoA (cc 9) cw H0 H' (a.add t) ss ns qs S' ss dn (wt++more) lo->Bx a.six H H'->H t=none->H' t=some (.lst (sd.map V.str))->(∀ u,u∈sd↔∃ c∈cs,u=c\/pt qs c=some u)->sd.length=2*cs.length->more.length=cs.length->RR (pt qs) S S' v w cs->(∀ o,H a.dg=some o->H' a.dg=some o)->Q (.ref t) H')
theorem qdk{t:LS}{q:Str}(a:(rz++q::t).Nodup):(rz++q::t).idxOf q=rz.length:=by
 show qeG a (by rw[yH (yh _),kE];rfl)
theorem qfe{a b:Addr}{Q:VK}(c:G a=some (.lst xs))(d:G b=some (.lst ys))(hl:xs.length+ys.length<=1000)(q:∀ p,G p=none->Q (.ref p) (upd G p (.lst (xs++ys)))):qdd K (.ref a) (.ref b) G Q:=.inl ⟨a,b,_,_,rfl,rfl,c,d,yi hl (by decide),q⟩
theorem ok_rr(F:Fun K "reach_round" "Forest.reach_round" q9 f fd)(T:Txt K mg cc cw)(KG:wqO 1 (cc 9) "reach" wqf (spRe cc cw)):wqP 2 f fd wqy (spRr cc cw):=by
 show F.ok Kv λ_ _ _ _ H vs Q E hr h=>?_
 .obtain⟨H0,a,ss,ns,qs,S,dn,wt,lo,v,w,lb,U,rv,g,rfl,h,ar,I,bb,hv,hw,bd,bm,al,ay,bh,ak,az,q⟩:=h;have hu:=ze hr;show⟨_,(qc (qm (i:=4) Kv.nd rfl (yK rfl) (qB qd))
 (qc (qX yT rfl (jh (K:=K) rfl (pv 3)) (qu (i:=5) Kv.nd rfl (yK rfl))
 (qc (qm (i:=6) Kv.nd rfl (yK rfl) (qo (qp (K:=K) rfl hu) (qA (K:=K) rfl (pv 0) rfl) (pv 5) (λ_ _=>rfl)))
 (qc (qm (i:=7) Kv.nd rfl (yK rfl) (qo (qp (K:=K) rfl hu) (qA (K:=K) rfl (pv 0) rfl) (pv 1) (λ_ _=>rfl)))
 (qc (qE (qH KG (hmR hr) (pv 0) (qa (pv 6) (qa (qt (je (K:=K) rfl) (qo (qp (K:=K) rfl hu) (qA (K:=K) rfl (pv 0) rfl) (pv 2) (λ_ _=>rfl)) (qfv (K:=K) rfl (qZ (qc8 (K:=K) rfl) (pv 7) (jk (qaX (K:=K) rfl yI YI YS (qaE (K:=K) rfl) (pv 7) (qa (pv 6) qd))) jw) (jk (qa0 qbI qf)))) qd))))
 (qe (qE (qaX (K:=K) rfl yI XF XG qa6 (pv 4) (qa (qB (qa (pv 5) (qa (pv 6) qd))) qd))))))))
 (qe (qq (pv 4))))),?_⟩
  apply⟨wqQ,λl s=>?_⟩;have s1:=qz (Sr H) (o:=.lst []) s;have h1:=h.add (o:=.lst []) s;have e1:upd H l (.lst []) l=some (.lst (([]:LS).map V.str)):=qb;have bn:lb≠l:=λz=>by rw[z,s] at I;cases I
  generalize upd H l (.lst [])=H1 at s1 h1 e1;ext;obtain⟨LI,B⟩:∃ LI:Nat->L2.St->Hp->Prop,LI=λi σ J=>∃(S':FS) (b G:LS) (y5 y6 y7:Option V),σ=[some (.ref a.x),some (.str v),some (.str w),some (.ref lb),some (.ref l),y5,y6,y7]/\FoA (cc 9) cw H0 J (a.add l) ss ns qs S' ss dn (wt++b) lo/\Bx a.six H J/\J l=some (.lst (G.map V.str))/\(∀ u,u∈G↔∃ c∈U.take i,u=c\/pt qs c=some u)/\G.length=2*i/\b.length=i/\RR (pt qs) S S' v w (U.take i)/\∀ o,H a.dg=some o->J a.dg=some o:=⟨_,rfl⟩;show .inl ⟨⟨_,.of (s1 _ _ I)⟩,qP (xs:=U.map V.str) LI (by rw[B];show⟨S,[],[],_,_,_,rfl,by rw[Ys];show h1,Bx.of s1,e1,λu=>by simp,rfl,rfl,⟨rfl,rfl,λ_ _ e=>e,λ_ _ e=>.inl e,λc hc=>by simp at hc⟩,λo e=>s1 _ _ e⟩) (λi σ J _ R=>?_) (λi y σ J hy R=>?_) fun σ J R=>?_⟩
  .rw [B] at R;obtain⟨S',b,G,y5,y6,y7,rfl,A,Y,_⟩:=R;show .of (Y _ _ bb I)
  .rw [B] at R;obtain⟨S',b,G,y5,y6,y7,rfl,A,Y,eJ,M,m,L,D,W⟩:=R;rw[yd] at hy;obtain⟨c,hc,rfl⟩:=yo.mp hy;have ax:=ye hc;obtain⟨z,rz,t,X,am,bg,p⟩:=az c ax;have bi:i<U.length:=(yc.mp hc).1;have N:U.take (i+1)=U.take i++[c]:=by rw[yY,hc];rfl
   have bc:=A.sm _ _ h.prt;obtain⟨kr,r1,r2,r3⟩:=A.row
   have rowOf:∀{u:Str} {r:LS},S.rows u=some r->∃ t,zv kr (.inr u:Key)=some (.ref t)/\J t=some (.lst (r.map V.str)):=λ{u r} e=>by
    have:=r3 u;rw[D.old u r e] at this;obtain⟨t,k1,k2,_⟩:=this;show⟨t,k1,k2⟩
   obtain⟨tv,kv,ev⟩:=rowOf hv;obtain⟨tw,kw,ew⟩:=rowOf hw;apply .inl (A.obj.rd T 1 rfl ?_);apply qe3 bc (by rw[qai,X];rfl) ?_;apply .inl (A.obj.rd T 2 rfl ?_);apply qe3 r1 kv ?_;ext;obtain⟨dx,fs,be,_,_,_,bf⟩:=id A.obj;show⟨a.x,dx,fs,rfl,be,bf _ (by room),?_⟩;apply .inl (A.obj.rd T 2 rfl ?_);apply qe3 r1 kw ?_;apply qg7 ?_;apply⟨.inl ⟨rfl,_,.of ev⟩,?_⟩;apply⟨tv,rv,z,rfl,rfl,.of ev,by rw[p];simp,_,rfl,?_⟩;rw[p] at al;have aq:rv.idxOf z=rz.length:=by rw[p];show qdk al
   rw[aq];apply .inl ⟨tv,_,rfl,.of ev,λc1 au=>?_⟩;have ag:qb9 (rv.map V.str) (some ((rz.length:Nat):Int)) none=(z::t).map V.str:=by rw[qbU,p,yC,List.drop_left' (by simp)]
   rw[ag];have t1:=qz (Sr J) (o:=.lst ((z::t).map V.str)) au;have ac:upd J c1 (.lst ((z::t).map V.str)) c1=some (.lst ((z::t).map V.str)):=qb;generalize upd J c1 (.lst ((z::t).map V.str))=J1 at t1 ac;apply⟨1,rfl,?_⟩;show⟨_,rfl,rfl,c1,_,rfl,.of ac,λc2 av=>?_⟩;have t2:=qz t1 (o:=.lst ((z::t).map V.str).reverse) av;have ad:upd J1 c2 (.lst ((z::t).map V.str).reverse) c2=some (.lst ((z::t).reverse.map V.str)):=by rw[qb,List.map_reverse]
   generalize upd J1 c2 (.lst ((z::t).map V.str).reverse)=J2 at t2 ad;have bj:(z::t).length<=14:=by rw[p,yu] at bd;lk
   show qfe (t2 _ _ ew) ad (by rw[ya,ya,YH];lk) λc3 ah=>?_;have as:=A.same t2;have n3:=as.newA ah;have t3:=qz t2 (o:=.lst (g.map V.str++(z::t).reverse.map V.str)) ah;have ae:upd J2 c3 (.lst (g.map V.str++(z::t).reverse.map V.str)) c3=some (.lst ((g++(z::t).reverse).map V.str)):=by rw[qb,yC]
   generalize upd J2 c3 (.lst (g.map V.str++(z::t).reverse.map V.str))=J3 at t3 ae
   have ai:c∉U.take i:=λy=>by
    obtain⟨j,hj⟩:=yf y;have ba:=(yc.mp hj).1;rw[yU] at ba;rw[List.getElem?_take,yG (by lk)] at hj;have:=qC ay hj hc;lk
   have an:S'.rows z=none:=by
    cases e:S'.rows z with
    | none=>rfl
    | some r =>
     exfalso;rcases D.new z r e with y | ⟨O,C,y,_⟩
     .rw [am] at y;cases y
     .have e1:=(qbk ak).mp y;rw[(qbk ak).mp X] at e1;rw[<- yn e1] at C;show ai C
   apply⟨H0,a.add l,ss,ns,qs,S',ss,dn,wt++b,lo,z,c3,g++(z::t).reverse,rfl,A.same t3,ar,ae,n3,bg,an,λJ4 h4 Z aj=>?_⟩;have ao:l∉a.six:=h.new s;have aa:J4 l=some (.lst (G.map V.str)):=Z _ _ ao (t3 _ _ eJ);apply⟨.inl ⟨rfl,_,.of aa⟩,?_⟩;apply⟨wqS,λc5 aw=>?_⟩;have t5:=qz (Sr J4) (o:=.lst [.str c,.str z]) aw;have af:upd J4 c5 (.lst [.str c,.str z]) c5=some (.lst [.str c,.str z]):=qb;generalize upd J4 c5 (.lst [.str c,.str z])=J5 at t5 af;have h5:=h4.same t5;apply⟨l,c5,_,_,rfl,rfl,t5 _ _ aa,af,by rw[ya,YT];show _+2<=_;lk,?_⟩;have h6:=h5.updE (c:=l) (o:=.lst (G.map V.str++[.str c,.str z])) yL;rw[B];show⟨S'.setRow z (g++(z::t).reverse),b++[z],G++[c,z],_,_,_,rfl,by rw[<- Yp wt];show h6,?_,by rw[qb,yC];rfl,λu=>?_,by rw[yu,m];show _+2=_;lk,by rw[yu,L];rfl,⟨D.par,D.bas,λu r e=>?_,λu r e=>?_,λO C q' e=>?_⟩,λo e=>?_⟩
   .show λd o n e=>by
     have ne:d≠l:=λy=>by rw[y,s] at e;cases e
     rw[qg ne];show t5 _ _ (Z _ _ n (t3 _ _ (Y _ _ n e)))
   .rw [N,yw,M];simp only[yw,yv,yJ,Yo];constructor
    .rintro (⟨O,h1,h2⟩ | rfl | rfl)
     .show⟨O,.inl h1,h2⟩
     .show⟨u,.inr rfl,.inl rfl⟩
     .show⟨c,.inr rfl,.inr X⟩
    .rintro ⟨O,h1 | rfl,h2⟩
     .show .inl ⟨O,h1,h2⟩
     .rcases h2 with h2 | h2
      .show .inr (.inl h2)
      .rw [X] at h2;show .inr (.inr (yn h2).symm)
   .show(if u=z then _ else S'.rows u)=_;rw[yF (λy=>by rw[y,am] at e;cases e)];show D.old u r e
   .have e':(if u=z then some (g++(z::t).reverse) else S'.rows u)=some r:=e;by_cases y:u=z
    .subst y;rw[yG rfl] at e';show .inr ⟨c,by rw[N];simp,X,rv,g,rz,t,hv,hw,p,(yn e').symm⟩
    .rw [yF y] at e';rcases D.new u r e' with x | ⟨O,h1,h2⟩
     .show .inl x
     .show .inr ⟨O,by rw[N];show yP _ h1,h2⟩
   .show ∃ r,(if q'=z then some (g++(z::t).reverse) else S'.rows q')=some r;by_cases y:q'=z
    .rw [yG y];show⟨_,rfl⟩
    .rw [yF y];rw[N] at C;rcases yw.mp C with x | x
     .show D.all O x q' e
     .rw [yx.mp x,X] at e;show absurd (yn e).symm y
   .have ne:a.dg≠l:=λy=>ao (by rw[<- y];simp[Fo.six]);rw[qg ne];show t5 _ _ (aj o (t3 _ _ (W o e)))
  .rw [B] at R;obtain⟨S',b,G,y5,y6,y7,rfl,A,Y,eJ,M,m,L,D,W⟩:=R;rw[ya] at m L;rw[ya,Ye] at M D;apply q l G b J S' A Y s eJ M m L D W
theorem K0:FnScope wqB wqH (qh jT):=fS
def FS.setBas(S:FS)(l:LS)(m:Str):FS:=⟨S.rows,S.par,λu=>if u∈l then m else S.bas u⟩
def wnL(S:FS)(ss a:LS)(m:Str):LS:=ss.filter λu=>decide (S.bas u∈a++[m])
inductive spFd(cc:Nat->Addr)(cw:Addr)(vs:List V)(H:Hp)(Q:VK)(E:XK):Prop|mk (H0:Hp) (a:Fo) (ss:LS) (ns:LN) (qs:LP) (S:FS) (dn wt:LS) (lo:V) (lr:Addr) (rg:LS) (m:Str) (xs:List V) (_:vs=[.ref a.x,.ref lr,.str m]) (_:FoA (cc 9) cw H0 H a ss ns qs S ss dn wt lo) (_:ss.length<=14) (_:H lr=some (.lst (rg.map V.str))) (_:lr∉a.six) (_:rg.length<=100) (_:H a.dg=some (.lst xs)) (_:xs.length<(dn++wt).length) (_:∀ H',FoA (cc 9) cw H0 H' a ss ns qs (S.setBas (wnL S ss rg m) m) ss dn wt lo->Bx a.six H H'->Q .non H')
theorem put_len{k:Key}{u:V}(h:zv kvs k=some u):(zR kvs k v).length=kvs.length:=by
 unfold zR;rw[qar,h];show ya _
theorem qcs{n:Addr}{Q:VK}(a:H n=some (.lst (ss.map V.str)))(q:Q (.bl (decide (z∈ss))) H):qe0 K false (.str z) (.ref n) H Q:=
 .inl ⟨n,_,rfl,.inl (.of a),rfl,YY.mpr λx b=>by(obtain⟨s,_,rfl⟩:=yQ.mp b;rfl),by rw[yF (by decide),qeH];show q⟩
theorem FoA.setB{a:Fo}{ks:List (Key×V)}{l:LS}{m:Str}(h:FoA (cc 9) cw H0 H a ss ns qs (S.setBas l m) ss dn wt lo)(t:H a.ds=some (.dK ks))(w:z∈ss):FoA (cc 9) cw H0 (upd H a.ds (.dK (zR ks (Sum.inr z) (.str m)))) a ss ns qs (S.setBas (l++[z]) m) ss dn wt lo/\ks.length<=ss.length:=by
 obtain⟨B,L,M,N⟩:=h.row;obtain⟨A,I,J,K⟩:=h.par;obtain⟨k,g,i,j⟩:=h.bas;obtain⟨xs,r,s⟩:=h.rng;rw[t] at g;cases g;obtain⟨⟨O,P,F,R,T⟩,⟨U,G,W,X⟩,⟨b,C,D⟩,⟨d,f⟩,E⟩:=(by simpa [Fo.six] using h.sep:(¬a.x=a.dr/\¬a.x=a.da/\¬a.x=a.ds/\¬a.x=a.dg/\¬a.x=a.dw)/\(¬a.dr=a.da/\¬a.dr=a.ds/\¬a.dr=a.dg/\¬a.dr=a.dw)/\(¬a.da=a.ds/\¬a.da=a.dg/\¬a.da=a.dw)/\(¬a.ds=a.dg/\¬a.ds=a.dw)/\¬a.dg=a.dw);have p:Bx a.six H (upd H a.ds (.dK (zR ks (Sum.inr z) (.str m)))):=λc o n e=>by rw[qg (λy=>n (by rw[y];simp[Fo.six]))];show e
 show⟨⟨qa9 h.sm (h.fr _ (by simp[Fo.six])),h.web,h.prt,h.fr,h.nd,λc hc=>⟨(h.exf c hc).1,(h.exf c hc).2.1,(h.exf c hc).2.2.elim λo e=>⟨o,p _ _ (h.exf c hc).2.1 e⟩⟩,h.obj.eq (qg F),⟨B,by rw[qg G];show L,M,λy=>(N y).mono p Fo.sub⟩,⟨A,by rw[qg b];show I,J,K⟩,⟨_,qb,by rw[put_len (j z w)];show i,λu v=>?_⟩,⟨xs,by rw[qg (Yh d)];show r,s⟩,by rw[qg (Yh f)];show h.wai,h.evn,h.evi,h.evs⟩,i⟩;rw[qbm,j u v];show(if _ then _ else _)=some (V.str (if u∈l++[z] then m else S.bas u));have q:(S.setBas l m).bas u=if u∈l then m else S.bas u:=rfl;rw[q];by_cases e:u=z
 .subst e;rw[yG rfl,yG (by simp)]
 .rw [yF (λx=>e (xU x))];by_cases y:u∈l
  .rw [yG y,yG (yP _ y)]
  .rw [yF y,yF (λx=>(yw.mp x).elim y λx=>e (yx.mp x))]
theorem FoA.updG{a:Fo}{bs:LS}(h:FoA (cc 9) cw H0 H a ss ns qs S bs dn wt lo)(m:xs.length<=(dn++wt).length):FoA (cc 9) cw H0 (upd H a.dg (.lst xs)) a ss ns qs S bs dn wt lo:=by
 obtain⟨p,A,B,C⟩:=h.row;obtain⟨n,v,w,z⟩:=h.par;obtain⟨k,i,j,l⟩:=h.bas;obtain⟨⟨D,E,F,t,G⟩,⟨I,J,u,K⟩,⟨q,b,r⟩,⟨d,s⟩,f⟩:=(by simpa [Fo.six] using h.sep:(¬a.x=a.dr/\¬a.x=a.da/\¬a.x=a.ds/\¬a.x=a.dg/\¬a.x=a.dw)/\(¬a.dr=a.da/\¬a.dr=a.ds/\¬a.dr=a.dg/\¬a.dr=a.dw)/\(¬a.da=a.ds/\¬a.da=a.dg/\¬a.da=a.dw)/\(¬a.ds=a.dg/\¬a.ds=a.dw)/\¬a.dg=a.dw);have g:Bx a.six H (upd H a.dg (.lst xs)):=(Bx.of (Sr H)).upd (by simp[Fo.six]);show⟨qa9 h.sm (h.fr _ (by simp[Fo.six])),h.web,h.prt,h.fr,h.nd,λc hc=>⟨(h.exf c hc).1,(h.exf c hc).2.1,(h.exf c hc).2.2.elim λo e=>⟨o,g _ _ (h.exf c hc).2.1 e⟩⟩,h.obj.eq (qg t),⟨p,by rw[qg u];show A,B,λy=>(C y).mono g Fo.sub⟩,⟨n,by rw[qg b];show v,w,z⟩,⟨k,by rw[qg d];show i,j,l⟩,⟨xs,qb,m⟩,by rw[qg (Yh f)];show h.wai,h.evn,h.evi,h.evs⟩
theorem ok_fdF(F:Fun K "fold" "Forest.fold" jT f fd)(T:Txt K mg cc cw)(uc:wqO 1 cw "places" wql (spPls cw)):wqP 2 f fd wqH (spFd cc cw):=by
 show F.ok K0 λ_ _ _ _ H vs Q E hr h=>?_
 .obtain⟨H0,a,ss,ns,qs,S,dn,wt,lo,lr,d,m,xs,rfl,h,an,af,ar,as,ad,au,q⟩:=h;have C:=ze hr;show⟨_,(qc (qbQ (sc:=qh jT) (XN:=wqB) wqK 1 [1,0,2] rfl rfl rfl (by room) rfl (by room) (i:=3) K0.nd rfl rfl
  (jh (K:=K) rfl (zK uc (hmR hr) (qA (K:=K) rfl (pv 0) rfl))) (λ_ _ _ _=>(qu (i:=0) (show(wqK:LS).Nodup by room) rfl (yK rfl))) jF
  (λ_ _ _ _=>(zf (qj (qaf (K:=K) rfl C) (qo (qp (K:=K) rfl C) (qA (K:=K) rfl (pv 2) rfl) (pv 0) (λ_ _=>rfl)) (qt (je (K:=K) rfl) (pv 1) (qB (qa (pv 3) qd))) (by with_unfolding_all rfl))))
  (λ_ _ _ _=>(pv 0)))
 (qc (qX yT rfl (jh (K:=K) rfl (pv 3)) (qu (i:=4) K0.nd rfl (yK rfl))
 (qe (jN (pv 2) (jM (qA (K:=K) rfl (pv 0) rfl) (pv 4) (jQ C)))))
 (qe (qE (qaX (K:=K) rfl yI yZ Yb qK (qA (K:=K) rfl (pv 0) rfl) (qa (pv 3) qd)))))),?_⟩
  have al:=h.few;have B:=h.web.same h.sm;obtain⟨wx,dd,ol,nn,hb,_⟩:=id B;apply .inl (h.obj.rd T 0 rfl ?_);show⟨a.b,wx,_,rfl,hb,qaz (by room),?_⟩;apply⟨a.b,ss,ns,rfl,B,λpl ag=>?_⟩;have s1:=qz (Sr H) (o:=.lst (ss.map V.str)) ag;have Y:upd H pl (.lst (ss.map V.str)) pl=some (.lst (ss.map V.str)):=qb;generalize upd H pl (.lst (ss.map V.str))=H1 at s1 Y;show .inl ⟨⟨_,.of Y⟩,jg (xs:=ss.map V.str) (λi ys J=>L2.Same H1 J/\ys=((ss.take i).filter λu=>decide (S.bas u∈d++[m])).map V.str) ⟨L2.Same.refl H1,rfl⟩ (λi ys J _ g=>.of (g.1 _ _ Y)) (λi y ys J I g=>?_) λys J g=>?_⟩
  .obtain⟨L,rfl⟩:=g;rw[yd] at I;obtain⟨z,s,rfl⟩:=yo.mp I;have j:=s1.trans L;have l:=h.same j;obtain⟨ks,O,b2,b3⟩:=l.bas;have ao:=(yc.mp s).1
   have r:(ss.take (i+1)).filter (λu=>decide (S.bas u∈d++[m]))=(ss.take i).filter (λu=>decide (S.bas u∈d++[m]))++(if S.bas z∈d++[m] then [z] else []):=by
    rw[yY,s,xv];show _++[z].filter _=_;rw[Yc];simp only[kP,xS]
   apply .inl (l.obj.rd T 4 rfl ?_);apply qe3 O (b3 z (ye s)) ?_;apply⟨wqR,λW aa=>?_⟩;have t1:=qz (Sr J) (o:=.lst [.str m]) aa;have t:upd J W (.lst [.str m]) W=some (.lst [.str m]):=qb;generalize upd J W (.lst [.str m])=J1 at t1 t;show qfe ((j.trans t1) _ _ af) t (by rw[ya];show _+1<=_;lk) λX ac=>?_;have t2:=qz t1 (o:=.lst (d.map V.str++[.str m])) ac;have v:upd J1 X (.lst (d.map V.str++[.str m])) X=some (.lst ((d++[m]).map V.str)):=by rw[qb,yC];rfl
   generalize upd J1 X (.lst (d.map V.str++[.str m]))=J2 at t2 v;show qcs v ⟨_,rfl,?_⟩;rw[r];by_cases p:S.bas z∈d++[m]
   .rw [yA p,yG p];show zd ?_;ext;have ae:=Yv (λu=>decide (S.bas u∈d++[m])) (ss.take i);rw[yU] at ae;show⟨by rw[ya];show qv (by lk),L.trans t2,by rw[yC];rfl⟩
   .rw [ym p,yF p,Ys];show yr ?_;show⟨L.trans t2,rfl⟩
  .obtain⟨L,rfl⟩:=g;rw[show(ss.map V.str).length=ss.length from ya _,Ye];have j:=s1.trans L;have ai:(ss.filter λu=>decide (S.bas u∈d++[m])).length<=ss.length:=Yv _ _;show⟨by rw[ya];show yS (qv (by lk)),λN D=>?_⟩;have R:=qz j (o:=.lst ((wnL S ss d m).map V.str)) D;have Z:upd J N (.lst ((wnL S ss d m).map V.str)) N=some (.lst ((wnL S ss d m).map V.str)):=qb;have am:(wnL S ss d m).length<=ss.length:=ai;have aj:∀ u∈wnL S ss d m,u∈ss:=λu C=>(yq.mp C).1;show qgC _ _ _ _ (upd J N (.lst ((wnL S ss d m).map V.str)));generalize wnL S ss d m=M at *;have G:=(h.same j).new D;generalize upd J N (.lst (M.map V.str))=H2 at R Z;have h2:=h.same R;apply .inl ⟨⟨_,.of Z⟩,qP (xs:=M.map V.str) (λi σ J=>Bx a.six H2 J/\(∀ o,H2 a.dg=some o->J a.dg=some o)/\FoA (cc 9) cw H0 J a ss ns qs (S.setBas (M.take i) m) ss dn wt lo/\∃ y4,σ=[some (.ref a.x),some (.ref lr),some (.str m),some (.ref N),y4]) ⟨λc o _ e=>e,λ_ e=>e,?_,_,rfl⟩ (λi σ J _ g=>.of (g.1 _ _ G Z)) (λi y σ J I g=>?_) fun σ J g=>?_⟩
   .have:S.setBas ([]:LS) m=S:=by unfold FS.setBas;simp
    rw[List.take_zero,this];show h2
   .obtain⟨U,hg,l,y4,rfl⟩:=g;rw[yd] at I;obtain⟨z,s,rfl⟩:=yo.mp I;obtain⟨ks,O,b2,b3⟩:=l.bas;have ah:M.take (i+1)=M.take i++[z]:=by rw[yY,s];rfl
    obtain⟨h3,aq⟩:=l.setB O (aj z (ye s));apply .inl (l.obj.rd T 4 rfl ?_);apply .inr ⟨a.ds,_,rfl,DPut.k (k:=Sum.inr z) O (by rw[YT];lk),?_⟩;have ak:a.dg≠a.ds:=λe=>by have:=h.nd;rw[e] at this;simp at this
    show⟨λc o n e=>by rw[qg (λy=>n (by rw[y];simp[Fo.six]))];show U c o n e,λo e=>by rw[qg ak];show hg o e,by rw[ah];show h3,_,rfl⟩
   .obtain⟨U,hg,l,y4,rfl⟩:=g;rw[ya,Ye] at l;have A:=hg _ (R _ _ ad);apply .inl (l.obj.rd T 5 rfl ?_);show⟨.inl ⟨rfl,_,.of A⟩,?_⟩;apply⟨a.dg,_,_,rfl,rfl,A,qv (by lk),?_⟩;show q _ (l.updG (by rw[yu];simp only[yB,Yk];lk)) ((Bx.of R).trans U |>.upd (by simp[Fo.six]))
theorem Kt:FnScope wqn wqd (qh qJ):=fS
structure Mono(S S':FS):Prop where
 ba:∀ u v,S.bas u=S.bas v->S'.bas u=S'.bas v
 pa:∀ u,S.par u≠none->S'.par u≠none
 ro:∀ u r,S.rows u=some r->S'.rows u=some r
theorem Mono.refl(S:FS):Mono S S:=⟨λ_ _ e=>e,λ_ e=>e,λ_ _ e=>e⟩
theorem Mono.trans{c:FS}(a:Mono S S')(b:Mono S' c):Mono S c:=⟨λu v e=>b.ba u v (a.ba u v e),λu e=>b.pa u (a.pa u e),λu r e=>b.ro u r (a.ro u r e)⟩
structure Wb(A:Str->Str->Prop)(ss:LS)(qs:LP):Prop where
 gr:Gr A (pt qs)
 inn:∀ a b,A a b->a∈ss
 qn:(qi qs).Nodup
 few:ss.length<=14
 nd:ss.Nodup
theorem Alt.inn(W:Wb A ss qs){v:Str}(h:Alt A (pt qs) r v)(hv:v∈ss):r.length<=14/\∀ u∈r,u∈ss:=by
 have a:∀ u∈r,u∈ss:=λu f=>by
  obtain⟨j,d⟩:=yf f;obtain⟨g,e⟩:=h.tl;by_cases hl:j+1<r.length
  .obtain⟨b,hb⟩:∃ b,r[j+1]?=some b:=⟨_,yb hl⟩;show W.inn _ _ (h.st j u b d hb).1
  .have c:=(yc.mp d).1;have:j=g.length:=by rw[e,yu] at c hl;simp at c hl;lk
   rw[e,this,yH (yh _),kE] at d;rw[<- yn d];show hv
 show⟨yi (zN h.nd a) W.few,a⟩
theorem qd0(l':LS):∀{l:LS},(∃ d∈l,d∈l')->∃ l1 m l2,l=l1++m::l2/\m∈l'/\(∀ d∈l1,d∉l')/\∃ t,l.filter (λd=>decide (d∈l'))=m::t
 | [],⟨_,h,_⟩=>by cases h
 | x::r,h=>by
  by_cases b:x∈l'
  .show⟨[],x,r,rfl,b,(λ_ h=>by cases h),_,by rw[Yc,yG (yA b)]⟩
  .obtain⟨d,i,a⟩:=h;obtain⟨l1,m,l2,c,e,f,t,g⟩:=qd0 l' (l:=r) ⟨d,(yv.mp i).resolve_left (λz=>b (by rw[<- z];show a)),a⟩;show⟨x::l1,m,l2,by rw[c];rfl,e,λy hy=>?_,t,by rw[Yc,yF (by simpa using b)];show g⟩;rcases yv.mp hy with rfl | hy
   .show b
   .show f y hy
inductive spBt(cc:Nat->Addr)(cw:Addr)(vs:List V)(H:Hp)(Q:VK)(E:XK):Prop|mk (H0:Hp) (a:Fo) (ss:LS) (ns:LN) (qs:LP) (S:FS) (dn wt:LS) (v w:Str) (rv rw:LS) (A:Str->Str->Prop) (_:vs=[.ref a.x,.str v,.str w]) (_:FoA (cc 9) cw H0 H a ss ns qs S ss dn wt .non) (_:Wb A ss qs) (_:FI A (pt qs) S) (_:S.rows v=some rv) (_:S.rows w=some rw) (_:A v w) (_:(∀(H':Hp) (S':FS) (more:LS),FoA (cc 9) cw H0 H' a ss ns qs S' ss dn (wt++more) .non->Bx a.six H H'->FI A (pt qs) S'->S'.bas v=S'.bas w->Mono S S'->Q .non H')) (_:∀(H':Hp) (t:Addr) (r:LS),FoA (cc 9) cw H0 H' a ss ns qs S ss dn wt (.ref t)->Bx a.six H H'->H' t=some (.lst (r.map V.str))->t∉a.all->Aug A (pt qs) r->r.length<=28->Q .non H')
theorem qfz{c d:Str}{Q:VK}(q:Q (.bl (!decide (c=d))) H):qeh K true (.str c) (.str d) H Q:=by
 show .inl ⟨rfl,rfl,?_⟩;rw[yG rfl]
 have e:eqV (.str c) (.str d)=decide (c=d):=by
  by_cases h:c=d
  .subst h;simp[eqV]
  .simp [eqV,h]
 rw[e];show q
theorem FoA.setL{a:Fo}{bs:LS}{fs:List (Str×V)}(h:FoA (cc 9) cw H0 H a ss ns qs S bs dn wt .non)(s:H a.x=some (.ins (cc 9) dx fs))(hv:v≠.non):fs.length<1000/\FoA (cc 9) cw H0 (upd H a.x (.ins (cc 9) dx (qG "longer" v fs))) a ss ns qs S bs dn wt v:=by
 obtain⟨m,n,g,K,G,I,J⟩:=h.obj;rw[s] at g;cases g;have hl:=G rfl;obtain⟨w,D,E,F⟩:=h.row;obtain⟨t,A,B,C⟩:=h.par;obtain⟨k,i,j,l⟩:=h.bas;obtain⟨xs,p,q⟩:=h.rng;have r:=h.sep;have nx:∀{c:Addr},c∈[a.dr,a.da,a.ds,a.dg,a.dw]->c≠a.x:=λhc e=>(yp.mp r).1 (by rw[<- e];show hc);have d:Bx a.six H (upd H a.x (.ins (cc 9) dx (qG "longer" v fs))):=(Bx.of (Sr H)).upd (by simp[Fo.six]);show⟨by lk,qa9 h.sm (h.fr _ (by simp[Fo.six])),h.web,h.prt,h.fr,h.nd,λc hc=>⟨(h.exf c hc).1,(h.exf c hc).2.1,(h.exf c hc).2.2.elim λo e=>⟨o,d _ _ (h.exf c hc).2.1 e⟩⟩,⟨dx,_,qb,yi (jE _ _ _) (by lk),λe=>absurd e hv,λf u b=>?_,λf b=>?_⟩,⟨w,by rw[qg (nx (by simp))];show D,E,λy=>(F y).mono d Fo.sub⟩,⟨t,by rw[qg (nx (by simp))];show A,B,C⟩,⟨k,by rw[qg (nx (by simp))];show i,j,l⟩,⟨xs,by rw[qg (nx (by simp))];show p,q⟩,by rw[qg (nx (by simp))];show h.wai,h.evn,h.evi,h.evs⟩
 .rw [qD];by_cases e:f="longer"
  .rw [yG e];subst e;have:(Str.ofString "longer",u)∈a.tab v:=b;simp only[Fo.tab,yv,XE,yJ,Yo] at this;rcases this with⟨z,_⟩ | ⟨z,_⟩ | ⟨z,_⟩ | ⟨z,_⟩ | ⟨z,_⟩ | ⟨z,_⟩ | ⟨z,_⟩ | ⟨_,z⟩<;>first | show absurd z (by room) | show congrArg some z.symm
  .rw [yF e];show I f u ?_;have:(f,u)∈a.tab v:=b;simp only[Fo.tab,yv,XE,yJ,Yo] at this ⊢;rcases this with z | z | z | z | z | z | z | ⟨z,_⟩
   all_goals first | show absurd z e | simp[z]
 .rw [qD,yF (λe=>b (by rw[e];room))];show J f b
theorem FoA.rowAt{a:Fo}{bs:LS}(h:FoA (cc 9) cw H0 H a ss ns qs S bs dn wt lo)(e:S.rows u=some r){Q:VK}(q:∀ t,H t=some (.lst (r.map V.str))->Q (.ref t) H):qfV K (.ref a.dr) (.str u) H Q:=by
 obtain⟨g,d,_,f⟩:=h.row;have:=f u;rw[e] at this;obtain⟨t,b,c,_⟩:=this;show qe3 d b (q t c)
theorem ok_bt(F:Fun K "bring_together" "Forest.bring_together" qJ f fd)(T:Txt K mg cc cw)(KM:wqO 1 (cc 9) "bases_down_from" wy (spBd cc cw))(KU:wqO 2 (cc 9) "reach_round" wqy (spRr cc cw))(uR:wqO 2 (cc 9) "fold" wqH (spFd cc cw)):wqP 3 f fd wqd (spBt cc cw):=by
 show F.ok Kt λ_ _ _ _ H vs Q E hr h=>?_
 .obtain⟨H0,a,ss,ns,qs,S,dn,wt,v,w,rv,g,B,rfl,h,b,I,hv,hw,cf,q1,q2⟩:=h;have M:=ze hr;have evS:∀{v:Str} {r:LS},S.rows v=some r->v∈ss:=λe=>h.evs _ ((h.evi _).mpr (by rw[e];show λz=>by cases z));obtain⟨l,hl⟩:=I.chainOf hv;obtain⟨l',D⟩:=I.chainOf hw;have ah:=hl.nd I hv rfl;have C:=D.nd I hw rfl;have Y:l.length<=14:=yi (zN ah λc hc=>(hl.bs0 I hv hc).elim λr z=>evS z.1) b.few;have L:l'.length<=14:=yi (zN C λc hc=>(D.bs0 I hw hc).elim λr z=>evS z.1) b.few;obtain⟨au,du⟩:=(I.alt v rv hv).inn b (evS hv);obtain⟨ak,dv⟩:=(I.alt w g hw).inn b (evS hw);obtain⟨lx,c,ax⟩:∃ lx c,l=lx++[c]:=by obtain⟨t,e⟩:=hl.ne;show⟨_,_,(xA (by rw[e];show kZ _ _)).symm⟩
  obtain⟨ly,d,ay⟩:∃ ly d,l'=ly++[d]:=by obtain⟨t,e⟩:=D.ne;show⟨_,_,(xA (by rw[e];show kZ _ _)).symm⟩
  show⟨_,(qc (qm (i:=3) Kt.nd rfl (yK rfl) (qH KM (hmR hr) (pv 0) (qa (pv 1) qd)))
 (qc (qm (i:=4) Kt.nd rfl (XC rfl) (qH KM (hmR hr) (pv 0) (qa (pv 2) qd)))
 (qe (qI (qj (qae (K:=K) rfl M) (qo (qp (K:=K) rfl M) (pv 3) (qa0 qbI qf) (λ_ _=>rfl)) (qo (qp (K:=K) rfl M) (pv 4) (qa0 qbI qf) (λ_ _=>rfl)) (qy _)) (qe (qS (K:=K) rfl (pv 0) (qt (je (K:=K) rfl) (qo (qp (K:=K) rfl M) (qA (K:=K) rfl (pv 0) rfl) (pv 1) (λ_ _=>rfl)) (qfv (K:=K) rfl (qo (qp (K:=K) rfl M) (qA (K:=K) rfl (pv 0) rfl) (pv 2) (λ_ _=>rfl)) (jk (qa0 qbI qf)))) rfl)) (qe (qI (qj (qae (K:=K) rfl M) (qo (qp (K:=K) rfl M) (pv 3) qf (λ_ _=>rfl)) (qo (qp (K:=K) rfl M) (pv 4) qf (λ_ _=>rfl)) (qy _)) (qc (qm (i:=5) Kt.nd rfl (yK rfl) (qo (qp (K:=K) rfl M) (jG (sc:=qh qJ) (XN:=wqn) ["base","others"] 1 [4] rfl rfl rfl (by room) rfl (by room)
  (jh (K:=K) rfl (pv 3)) (λ_ _ _ _=>(qu (i:=0) (show(["base","others"]:LS).Nodup by room) rfl (yK rfl))) jF
  (λ_ _ _ _=>(zf (qj (qaf (K:=K) rfl M) (pv 0) (pv 1) (by with_unfolding_all rfl))))
  (λ_ _ _ _=>(pv 0))) qf (λ_ _=>rfl)))
 (qc (qm (i:=6) Kt.nd rfl (yK rfl) (qH KU (hmR hr) (pv 0) (qa (pv 1) (qa (pv 2) (qa (qZ (qc8 (K:=K) rfl) (pv 3) jw (jk (qaX (K:=K) rfl yI YI YS (qaE (K:=K) rfl) (pv 3) (qa (pv 5) qd)))) qd)))))
 (qc (qE (qaX (K:=K) rfl yI XF XG qa6 (pv 6) (qa (qH KU (hmR hr) (pv 0) (qa (pv 2) (qa (pv 1) (qa (qZ (qc8 (K:=K) rfl) (pv 4) jw (jk (qaX (K:=K) rfl yI YI YS (qaE (K:=K) rfl) (pv 4) (qa (pv 5) qd)))) qd)))) qd)))
 (qe (qE (qH uR (hmR hr) (pv 0) (qa (pv 6) (qa (pv 5) qd)))))))) qw)))))),?_⟩
  ext;obtain⟨dx,fs,aj,_,_,_,ba⟩:=id h.obj;show⟨a.x,dx,fs,rfl,aj,ba _ (by room),?_⟩;apply⟨H0,a,ss,ns,qs,S,dn,wt,.non,v,rv,l,B,rfl,h,b.few,I,hv,hl,Y,λo1 H1 s1 dk cu=>?_⟩;apply⟨a.x,dx,fs,rfl,s1 _ _ aj,ba _ (by room),?_⟩;apply⟨H0,a,ss,ns,qs,S,dn,wt,.non,w,g,l',B,rfl,h.same s1,b.few,I,hw,D,L,λo2 H2 s2 dl al=>?_⟩;have aq:=s1.trans s2;have h2:=h.same aq;have R:=s2 _ _ cu;have ds:=h.newA dk;have dt:=(h.same s1).newA dl;apply⟨1,rfl,?_⟩;show .inl (j9 R (v:=.str c) (by rw[ax];show atI_last) ?_);apply⟨1,rfl,?_⟩;show .inl (j9 al (v:=.str d) (by rw[ay];show atI_last) ?_);show qfz ⟨_,rfl,?_⟩;by_cases am:c=d
  .rw [yA am];show yr ?_;obtain⟨t0,X⟩:=hl.ne;obtain⟨ef,A⟩:=D.ne;apply .inl (j9 R (v:=.str (S.bas v)) (qk (j:=0) (by rw[X];rfl)) ?_);apply .inl (j9 al (v:=.str (S.bas w)) (qk (j:=0) (by rw[A];rfl)) ?_);show qfz ⟨_,rfl,?_⟩;by_cases af:S.bas v=S.bas w
   .rw [yA af];show yr ?_;show q1 H2 S [] (by rw[Ys];show h2) (Bx.of aq) I af (Mono.refl S)
   .rw [ym af];show zd ?_;obtain⟨l1,m,l2,U,ai,an,tf,bq⟩:=qd0 l' (l:=l) ⟨c,by rw[ax];simp,by rw[ay,am];simp⟩;obtain⟨m1,m2,O⟩:=Yr ai;obtain⟨ct,de⟩:=hl.meet I hv hw D U O an;rw[ct] at O;have dy:m∉m1:=λz=>by rw[O] at C;show(Yg.mp C).2.2 m z m (by simp) rfl
    have dw:m∉l1:=λz=>an m z ai;apply .inl ⟨⟨_,.of R⟩,jg (xs:=l.map V.str) (λi ys J=>J=H2/\ys=((l.take i).filter λd=>decide (d∈l')).map V.str) ⟨rfl,rfl⟩ (λi ys J _ hp=>by rw[hp.1];show .of R) (λi y ys J hy hp=>?_) λys J hp=>?_⟩
    .obtain⟨rfl,rfl⟩:=hp;rw[yd] at hy;obtain⟨z,hz,rfl⟩:=yo.mp hy
     have az:(l.take (i+1)).filter (λd=>decide (d∈l'))=(l.take i).filter (λd=>decide (d∈l'))++(if z∈l' then [z] else []):=by
      rw[yY,hz,xv];show _++[z].filter _=_;rw[Yc];simp only[kP,xS]
     have ec:=(yc.mp hz).1;have dh:=Yv (λd=>decide (d∈l')) (l.take i);rw[yU] at dh;apply qcs al ⟨_,rfl,?_⟩;rw[az];by_cases G:z∈l'
     .rw [yA G,yG G];show zd ?_;apply⟨by rw[ya];show qv (by lk),rfl,by rw[yC];rfl⟩
     .rw [ym G,yF G,Ys];show yr ?_;show⟨rfl,rfl⟩
    .obtain⟨rfl,rfl⟩:=hp;rw[show(l.map V.str).length=l.length from ya _,Ye,bq];have dp:=Yv (λd=>decide (d∈l')) l;rw[bq] at dp;show⟨by rw[ya];show yS (qv (by lk)),λcl bt=>?_⟩;have s3:=qz aq (o:=.lst ((m::tf).map V.str)) bt;have bc:=qz (Sr J) (o:=.lst ((m::tf).map V.str)) bt;have bh:upd J cl (.lst ((m::tf).map V.str)) cl=some (.lst ((m::tf).map V.str)):=qb;generalize upd J cl (.lst ((m::tf).map V.str))=H3 at s3 bc bh;apply .inl (j9 bh (v:=.str m) (qk (j:=0) rfl) ?_);have h3:=h.same s3;have ad:=bc _ _ R;have bm:=bc _ _ al;apply⟨a.x,dx,fs,rfl,s3 _ _ aj,ba _ (by room),?_⟩;apply⟨.inl ⟨rfl,_,.of ad⟩,?_⟩;apply⟨o1,l,m,rfl,rfl,.of ad,by rw[U];simp,_,rfl,?_⟩;rw[show l.idxOf m=l1.length by rw[U] at ah ⊢;show qdk ah];apply .inl ⟨o1,_,rfl,.of ad,λc1 Z=>?_⟩;have bi:qb9 (l.map V.str) none (some ((l1.length:Nat):Int))=l1.map V.str:=by rw[qag,U,yC,List.take_left' (by simp)]
     rw[bi];have s4:=qz s3 (o:=.lst (l1.map V.str)) Z;have co:=qz (Sr H3) (o:=.lst (l1.map V.str)) Z;have aa:upd H3 c1 (.lst (l1.map V.str)) c1=some (.lst (l1.map V.str)):=qb;have n1:=h3.new Z;generalize upd H3 c1 (.lst (l1.map V.str))=H4 at s4 co aa;have h4:=h.same s4
     have av:∀{x y:Str} {rx k W:LS},S.rows x=some rx->(∀ u∈rx,u∈ss)->Ch (pt qs) S (S.bas x) k->k=W++m::l2->∀ c∈W,∃ q rz t,pt qs c=some q/\S.rows q=none/\q∈ss/\rx=rz++q::t:=λ{x y rx k W} hx hs hk ek c hc=>by
      obtain⟨a',b',ea⟩:=Yr hc;have bj:k=a'++c::(b'++m::l2):=by rw[ek,ea];simp
      obtain⟨_,_,_,_,g3,_⟩:=hk.up I hx rfl bj;rcases g3.cases' with⟨_,z⟩ | ⟨q,_,hq,_⟩
      .simp at z
      .obtain⟨rz,t,W,_,k3,_⟩:=hk.suf I hx bj hq;show⟨q,rz,_,hq,k3,hs q (by rw[W];simp),W⟩
     apply⟨H0,a,ss,ns,qs,S,dn,wt,.non,v,w,c1,l1,rv,g,rfl,h4,b.few,aa,n1,hv,hw,au,ak,(I.alt v rv hv).nd,?_,?_,b.qn,av (y:=v) hv du hl U,λN p ao H5 S1 h5 be ce bn bz cb bw R1 di=>?_⟩
     .rw [U] at ah;show(Yg.mp ah).1
     .rw [U,yu] at Y;lk
     have eb:o1∉a.six:=λz=>ds (Fo.sub _ z);have cn:o2∉a.six:=λz=>dt (Fo.sub _ z);have ae:=be _ _ cn (co _ _ bm);apply⟨.inl ⟨rfl,_,.of bn⟩,?_⟩;ext;obtain⟨cr,cz,ch,_,_,_,cj⟩:=id h5.obj;show⟨a.x,cr,cz,rfl,ch,cj _ (by room),?_⟩;apply⟨.inl ⟨rfl,_,.of ae⟩,?_⟩;apply⟨o2,l',m,rfl,rfl,.of ae,ai,_,rfl,?_⟩;rw[show l'.idxOf m=m1.length by rw[O] at C ⊢;show qdk C];apply .inl ⟨o2,_,rfl,.of ae,λc2 ag=>?_⟩;have aw:qb9 (l'.map V.str) none (some ((m1.length:Nat):Int))=m1.map V.str:=by rw[qag,O,yC,List.take_left' (by simp)]
     rw[aw];have s6:=qz (Sr H5) (o:=.lst (m1.map V.str)) ag;have ac:upd H5 c2 (.lst (m1.map V.str)) c2=some (.lst (m1.map V.str)):=qb;have n2:=h5.new ag;generalize upd H5 c2 (.lst (m1.map V.str))=H6 at s6 ac;have h6:=h5.same s6
     have cm:∀ c∈m1,∀ q,pt qs c=some q->S.rows q=none->S1.rows q=none:=λc hc q hq hn=>by
      cases e:S1.rows q with
      | none=>rfl
      | some r =>
       exfalso;rcases R1.new q r e with z | ⟨c',hc',z,_⟩
       .rw [hn] at z;cases z
       .have e1:=b.gr.fs z;rw[b.gr.fs hq] at e1;rw[<- yn e1] at hc';show an c hc' (by rw[O];show yP _ hc)
     apply⟨H0,a.add N,ss,ns,qs,S1,dn,wt++ao,.non,w,v,c2,m1,g,rv,rfl,h6,b.few,ac,n2,R1.old _ _ hw,R1.old _ _ hv,ak,au,(I.alt w g hw).nd,?_,?_,b.qn,λc hc=>?_,λt2 s bb H7 S2 h7 bf ed cv ca cd bx R2 dj=>?_⟩
     .rw [O] at C;show(Yg.mp C).1
     .rw [O,yu] at L;lk
     .obtain⟨q,rz,t,W,k2,k3,k4⟩:=av (y:=v) hw dv D O c hc;show⟨q,rz,t,W,cm c hc q W k2,k3,k4⟩
     have bd:N∉a.six:=h4.new ce;have bo:H7 N=some (.lst (p.map V.str)):=bf _ _ bd (s6 _ _ bn);apply⟨N,t2,_,_,rfl,rfl,bo,cv,by rw[ya,ya,YT];rw[U,yu] at Y;rw[O,yu] at L;lk,?_⟩;have h8:=h7.updE (c:=N) (o:=.lst (p.map V.str++s.map V.str)) (by simp[Fo.add]);obtain⟨xs,df,ee⟩:=h.rng;have bu:=dj _ (s6 _ _ (di _ (s4 _ _ df)));have dr:a.dg≠N:=λz=>bd (by rw[<- z];simp[Fo.six]);have bp:upd H7 N (.lst (p.map V.str++s.map V.str)) N=some (.lst ((p++s).map V.str)):=by rw[qb,yC]
     have ar:upd H7 N (.lst (p.map V.str++s.map V.str)) a.dg=some (.lst xs):=by rw[qg dr];show bu
     have bg:Bx a.six H (upd H7 N (.lst (p.map V.str++s.map V.str))):=λe o n k=>by
      have ne:e≠N:=λz=>by rw[z,s4.free ce] at k;cases k
      rw[qg ne];show bf _ _ n (s6 _ _ (be _ _ n (s4 _ _ k)))
     generalize upd H7 N (.lst (p.map V.str++s.map V.str))=H8 at h8 bp ar bg
     have dz:0<ao.length+bb.length:=by
      rw[bw,bx];rcases l1 with _ | ⟨x,r⟩
      .rcases m1 with _ | ⟨x,r⟩
       .rw [U] at X;rw[O] at A;show absurd ((xI X).1.symm.trans (xI A).1) af
       .simp
      .simp;lk
     ext;obtain⟨cs,da,ci,_,_,_,ck⟩:=id h8.obj;show⟨a.x,cs,da,rfl,ci,ck _ (by room),?_⟩;apply⟨H0,(a.add N).add t2,ss,ns,qs,S2,dn,wt++ao++bb,.non,N,p++s,m,xs,rfl,h8,b.few,bp,bd,?_,ar,?_,λH9 h9 cq=>?_⟩
     .rw [yu,cb,cd];rw[U,yu] at Y;rw[O,yu] at L;lk
     .rw [<- Yp,<- Yp,yu,yu (as:=dn++wt)];lk
     have dm:∀ u,u∈p++s++[m]↔InR (pt qs) m (l1++m1) u:=λu=>by
      rw[yw,yw,bz,ca,yx];unfold InR;constructor
      .rintro ((⟨c,hc,z⟩ | ⟨c,hc,z⟩) | z)
       .show .inr ⟨c,yP _ hc,z⟩
       .show .inr ⟨c,yN _ hc,z⟩
       .show .inl z
      .rintro (z | ⟨c,hc,z⟩)
       .show .inr z
       .rcases yw.mp hc with y | y
        .show .inl (.inl ⟨c,y,z⟩)
        .show .inl (.inr ⟨c,y,z⟩)
     have br:S2.bas=S.bas:=by rw[R2.bas,R1.bas]
     have bv:∀ u,InR (pt qs) m (l1++m1) (S.bas u)->u∈ss:=λu M=>by
      cases e:S.rows u with
      | some r=>show evS e
      | none =>
       rw[I.own e] at M;rcases M with z | ⟨c,hc,z⟩
       .obtain⟨r,k,_⟩:=hl.bs0 I hv (c:=m) (by rw[U];simp);rw[z];show evS k
       .have dd:∃ r,S.rows c=some r:=by
         rcases yw.mp hc with y | y
         .show(hl.bs0 I hv (by rw[U];show yP _ y)).elim λr k=>⟨r,k.1⟩
         .show(D.bs0 I hw (by rw[O];show yP _ y)).elim λr k=>⟨r,k.1⟩
        obtain⟨r,k⟩:=dd;rcases z with z | z
        .rw [z];show evS k
        .show b.inn _ _ (b.gr.as (b.gr.fa z))
     have hM:Mg (pt qs) S (S2.setBas (wnL S2 ss (p++s) m) m) v w m l1 m1:=by
      have cg:∀ u,u∈wnL S2 ss (p++s) m↔u∈ss/\InR (pt qs) m (l1++m1) (S.bas u):=λu=>by
       unfold wnL;rw[yq,yR,dm,br]
      have nr:∀{u:Str} {r:LS},NewRow S1 w v u r->NewRow S w v u r:=λ⟨a1,a2,a3,a4,W,k2,k3⟩=>by
       rw[R1.old _ _ hw] at W;rw[R1.old _ _ hv] at k2;cases W;cases k2;show⟨_,_,a3,a4,hw,hv,k3⟩
      show⟨by show S2.par=S.par;rw[R2.par,R1.par],λu r e=>R2.old _ _ (R1.old _ _ e),λu r e=>?_,λc hc q hq=>?_,λu M=>?_,λu M=>?_⟩
      .rcases R2.new u r e with z | ⟨c,hc,W,k2⟩
       .rcases R1.new u r z with z | z
        .show .inl z
        .show .inr (.inl z)
       .show .inr (.inr ⟨c,hc,W,nr k2⟩)
      .rcases yw.mp hc with y | y
       .obtain⟨r,k⟩:=R1.all c y q hq;show⟨r,R2.old _ _ k⟩
       .show R2.all c y q hq
      .show(if u∈wnL S2 ss (p++s) m then m else S2.bas u)=m;rw[yG ((cg u).mpr ⟨bv u M,M⟩)]
      .show(if u∈wnL S2 ss (p++s) m then m else S2.bas u)=S.bas u;rw[yF (λz=>M ((cg u).mp z).2),br]
     have hI:=I.merge b.gr hv hw (U ▸ hl) (O ▸ D) (O ▸ an) (U ▸ de) cf af hM
     have db:InR (pt qs) m (l1++m1) (S.bas v):=by
      rcases l1 with _ | ⟨x,r⟩
      .rw [U] at X;cases X;show .inl rfl
      .rw [U] at X;cases X;show .inr ⟨_,by simp,.inl rfl⟩
     have dc:InR (pt qs) m (l1++m1) (S.bas w):=by
      rcases m1 with _ | ⟨x,r⟩
      .rw [O] at A;cases A;show .inl rfl
      .rw [O] at A;cases A;show .inr ⟨_,by simp,.inl rfl⟩
     show q1 H9 _ (ao++bb) ?_ (bg.trans cq) hI ((hM.inn v db).trans (hM.inn w dc).symm) ⟨λu z e=>?_,λu e=>by rw[hM.par];show e,hM.old⟩
     .rw [<- Yp];show h9.drop (l:=a.ex) λc hc=>by simp[Fo.add,hc]
     .by_cases G:InR (pt qs) m (l1++m1) (S.bas u)
      .rw [hM.inn u G,hM.inn z (by rw[<- e];show G)]
      .rw [hM.out u G,hM.out z (by rw[<- e];show G),e]
  .rw [ym am];show zd ?_;apply .inl (h2.obj.rd T 2 rfl ?_);apply h2.rowAt hv λtv cx=>?_;apply qg7 ?_;apply .inl (h2.obj.rd T 2 rfl ?_);apply h2.rowAt hw λtw cy=>?_;apply⟨1,rfl,?_⟩;show⟨_,rfl,rfl,tw,_,rfl,.of cy,λc1 Z=>?_⟩;have N:=qz aq (o:=.lst (g.map V.str).reverse) Z;have cp:=qz (Sr H2) (o:=.lst (g.map V.str).reverse) Z;have aa:upd H2 c1 (.lst (g.map V.str).reverse) c1=some (.lst (g.reverse.map V.str)):=by rw[qb,List.map_reverse]
   generalize upd H2 c1 (.lst (g.map V.str).reverse)=H3 at N cp aa;show qfe (cp _ _ cx) aa (by rw[ya,ya,YH];lk) λc2 ag=>?_;have n2:=(h.same N).newA ag;have t2:=qz N (o:=.lst (rv.map V.str++g.reverse.map V.str)) ag;have ac:upd H3 c2 (.lst (rv.map V.str++g.reverse.map V.str)) c2=some (.lst ((rv++g.reverse).map V.str)):=by rw[qb,yC]
   generalize upd H3 c2 (.lst (rv.map V.str++g.reverse.map V.str))=H4 at t2 ac;obtain⟨W,k2⟩:=(h.same t2).setL (v:=.ref c2) (t2 _ _ aj) (λe=>by cases e);apply .inl ⟨a.x,cc 9,dx,fs,rfl,t2 _ _ aj,T.fcl,T.fa _ (by room),W,?_⟩;have dq:c2≠a.x:=λz=>n2 (Fo.sub _ (by rw[z];simp[Fo.six]));show q2 _ c2 _ k2 ((Bx.of t2).upd (by simp[Fo.six])) (by rw[qg dq];show ac) n2 (I.aug b.gr hv hw hl D (by rw[ax,ay];simpa using am) cf) (by rw[yu,YH];lk)
theorem KH:FnScope ["self","place","other","partner"] wy (qh jc):=fS
def FS.setPar(S:FS)(u p:Str):FS:=⟨S.rows,λs=>if s=u then some p else S.par s,S.bas⟩
inductive spLa(cc:Nat->Addr)(cw:Addr)(vs:List V)(H:Hp)(Q:VK)(E:XK):Prop|mk (H0:Hp) (a:Fo) (ss:LS) (ns:LN) (qs:LP) (S:FS) (dn wt:LS) (v:Str) (A:Str->Str->Prop) (_:vs=[.ref a.x,.str v]) (_:FoA (cc 9) cw H0 H a ss ns qs S ss (dn++[v]) wt .non) (_:Wb A ss qs) (_:(∀ s∈ss,jf s=true)) (_:(∀(j:Nat) z u,ss[j]?=some z->(u∈inB ss 0 (ns.getD j 0)↔A z u))) (_:(∀ z∈ss,pt qs z=none->S.rows z≠none)) (_:FI A (pt qs) S) (_:CI A S (λu=>u∈dn)) (_:(∀(H':Hp) (S':FS) (more:LS),FoA (cc 9) cw H0 H' a ss ns qs S' ss (dn++[v]) (wt++more) .non->Bx a.six H H'->FI A (pt qs) S'->CI A S' (λu=>u∈dn++[v])->Mono S S'->Q .non H')) (_:∀(H':Hp) (S':FS) (more:LS) (t:Addr) (r:LS),FoA (cc 9) cw H0 H' a ss ns qs S' ss (dn++[v]) (wt++more) (.ref t)->Bx a.six H H'->H' t=some (.lst (r.map V.str))->t∉a.all->Aug A (pt qs) r->r.length<=28->Q .non H')
theorem CI.on(h:CI A S Pd)(m:Mono S S'):CI A S' Pd:=h.mono m.ba m.pa λu a=>by
 cases e:S.rows u with
 | none=>show absurd e a
 | some r=>rw[m.ro u r e];show λz=>by cases z
theorem FoA.setP{a:Fo}{bs:LS}{d:List (Key×V)}{p:Str}(h:FoA (cc 9) cw H0 H a ss ns qs S bs dn wt lo)(C:H a.da=some (.dK d))(g:u∈ss)(f:S.par u=none):FoA (cc 9) cw H0 (upd H a.da (.dK (zR d (Sum.inr u) (.str p)))) a ss ns qs (S.setPar u p) bs dn wt lo/\d.length<=ss.length:=by
 obtain⟨E,P,R,T⟩:=h.row;obtain⟨k',r,M,N⟩:=h.par;obtain⟨k,t,v,w⟩:=h.bas;obtain⟨xs,A,B⟩:=h.rng;rw[C] at r;cases r;obtain⟨⟨U,J,W,X,Y⟩,⟨K,Z,n8,n9⟩,⟨i,j,l⟩,⟨F,G⟩,I⟩:=(by simpa [Fo.six] using h.sep:(¬a.x=a.dr/\¬a.x=a.da/\¬a.x=a.ds/\¬a.x=a.dg/\¬a.x=a.dw)/\(¬a.dr=a.da/\¬a.dr=a.ds/\¬a.dr=a.dg/\¬a.dr=a.dw)/\(¬a.da=a.ds/\¬a.da=a.dg/\¬a.da=a.dw)/\(¬a.ds=a.dg/\¬a.ds=a.dw)/\¬a.dg=a.dw);have n:Bx a.six H (upd H a.da (.dK (zR d (Sum.inr u) (.str p)))):=(Bx.of (Sr H)).upd (by simp[Fo.six]);obtain⟨O,L,q,m⟩:=M;show⟨⟨qa9 h.sm (h.fr _ (by simp[Fo.six])),h.web,h.prt,h.fr,h.nd,λc hc=>⟨(h.exf c hc).1,(h.exf c hc).2.1,(h.exf c hc).2.2.elim λo e=>⟨o,n _ _ (h.exf c hc).2.1 e⟩⟩,h.obj.eq (qg J),⟨E,by rw[qg K];show P,R,λy=>(T y).mono n Fo.sub⟩,⟨_,qb,⟨O++[u],by have:=jV d (Sum.inr u:Key) (.str p);rw[yu];show _<=_+1;lk,Yg.mpr ⟨q,XS _ _,λx b y D e=>(m u (by rw[<- yx.mp D,<- e];show b)).2 f⟩,λx b=>?_⟩,λs=>?_⟩,⟨k,by rw[qg (Yh i)];show t,v,w⟩,⟨xs,by rw[qg (Yh j)];show A,B⟩,by rw[qg (Yh l)];show h.wai,h.evn,h.evi,h.evs⟩,yi L (zN q λx b=>(m x b).1)⟩
 .show x∈ss/\(if x=u then some p else S.par x)≠none;by_cases e:x=u
  .rw [yG e,e];show⟨g,λz=>by cases z⟩
  .rw [yF e];show m x ((yw.mp b).resolve_right λz=>e (yx.mp z))
 .rw [qbm,N];show _=(if s=u then some p else S.par s).map V.str;by_cases e:s=u
  .subst e;rw[yG rfl,yG rfl];rfl
  .rw [yF (λx=>e (xU x)),yF e]
theorem ok_la(F:Fun K "look_around" "Forest.look_around" jc f fd)(T:Txt K mg cc cw)(uU:wqO 6 cw "beside" wy (spBs cw))(ug:wqO 3 (cc 9) "bring_together" wqd (spBt cc cw))(KG:wqO 1 (cc 9) "reach" wqf (spRe cc cw)):wqP 7 f fd wy (spLa cc cw):=by
 show F.ok KH λ_ _ _ s H vs Q E hr h=>?_
 .obtain⟨H0,a,ss,ns,qs,S,dn,wt,v,B,rfl,h,d,bh,aw,bc,I,hC,q1,q2⟩:=h;have R:=ze hr;show⟨_,(qe (qX yT rfl (jh (K:=K) rfl (qH uU (hmR hr) (qA (K:=K) rfl (pv 0) rfl) (qa (pv 1) qd))) (qu (i:=2) KH.nd rfl (yK rfl))
 (qc (qI (qj (qaf (K:=K) rfl R) (pv 2) (qA (K:=K) rfl (pv 0) rfl) (by with_unfolding_all rfl)) (qe (qE (qH ug (hmR hr) (pv 0) (qa (pv 1) (qa (pv 2) qd))))) (qe (qI (qj (j0 (K:=K) rfl R) (pv 2) (qA (K:=K) rfl (pv 0) rfl) (by with_unfolding_all rfl)) (qc (qm (i:=3) KH.nd rfl (yK rfl) (qo (qp (K:=K) rfl R) (qA (K:=K) rfl (pv 0) rfl) (pv 2) (λ_ _=>rfl)))
 (qc (jN (pv 1) (jM (qA (K:=K) rfl (pv 0) rfl) (pv 2) (jQ R)))
 (qe (qE (qH KG (hmR hr) (pv 0) (qa (pv 3) (qa (qt (je (K:=K) rfl) (qo (qp (K:=K) rfl R) (qA (K:=K) rfl (pv 0) rfl) (pv 1) (λ_ _=>rfl)) (qB (qa (pv 2) (qa (pv 3) qd)))) qd))))))) qw)))
 (qe (qI (qj qa1 (qA (K:=K) rfl (pv 0) rfl) j6 (qy _)) (qe ps_retN) qw))))),?_⟩
  have am:v∈ss:=h.evs v (by simp)
  obtain⟨rv,bb⟩:∃ r,S.rows v=some r:=by
   cases e:S.rows v with
   | none=>show absurd e ((h.evi v).mp (by simp))
   | some r=>show⟨r,rfl⟩
  obtain⟨j,hj⟩:=yf am;have ae:=h.web.same h.sm;obtain⟨wx,dd,ol,nn,hb,_⟩:=id ae;apply .inl (h.obj.rd T 0 rfl ?_);show⟨a.b,wx,_,rfl,hb,qaz (by room),?_⟩;apply⟨a.b,ss,ns,v,j,rfl,ae,hj,λH1 s1 bl af=>?_⟩;have l:=λu=>aw j v u hj;have N:(inB ss 0 (ns.getD j 0)).length<=14:=yi (qcq _ _ _) d.few;generalize inB ss 0 (ns.getD j 0)=bes at l N ⊢;have bf:=(h.same s1).new af;have s2:=qz s1 (o:=.lst (bes.map V.str)) af;have eb:upd H1 bl (.lst (bes.map V.str)) bl=some (.lst (bes.map V.str)):=qb;generalize upd H1 bl (.lst (bes.map V.str))=H2 at s2 eb;have h2:=h.same s2;show .inl ⟨⟨_,.of eb⟩,qP (xs:=bes.map V.str) (λi σ J=>∃(S':FS) (c:LS) (y2 y3:Option V),σ=[some (.ref a.x),some (.str v),y2,y3]/\FoA (cc 9) cw H0 J a ss ns qs S' ss (dn++[v]) (wt++c) .non/\Bx a.six H2 J/\FI B (pt qs) S'/\Mono S S'/\∀ u∈bes.take i,S'.bas u=S'.bas v\/(S'.par u≠none/\u∉dn++[v])) ⟨S,[],_,_,rfl,by rw[Ys];show h2,λ_ _ _ e=>e,I,Mono.refl S,(λu R=>by simp at R)⟩ (λi σ J _ hp=>?_) (λi y σ J hy hp=>?_) fun σ J hp=>?_⟩
  .obtain⟨S',c,y2,y3,rfl,_,A,_⟩:=hp;show .of (A _ _ bf eb)
  .obtain⟨S',c,y2,y3,rfl,g,A,G,D,M⟩:=hp;rw[yd] at hy;obtain⟨u,ai,rfl⟩:=yo.mp hy;have U:B v u:=(l u).mp (ye ai);have ak:u∈ss:=d.inn _ _ (d.gr.as U);have m:=D.ro v rv bb;have O:bes.take (i+1)=bes.take i++[u]:=by rw[yY,ai];rfl
   obtain⟨kr,r1,r2,r3⟩:=g.row;have q:=r3 u;apply .inl (g.obj.rd T 2 rfl ?_);show .inr (.inl ⟨a.dr,_,rfl,DGet.k (k:=Sum.inr u) r1,?_⟩)
   cases C:S'.rows u with
   | some ru =>
    rw[C] at q;obtain⟨tu,k1,k2,_⟩:=q;rw[k1];show⟨_,rfl,zd ?_⟩;ext;obtain⟨dx,fs,X,_,_,_,Y⟩:=id g.obj;show⟨a.x,dx,fs,rfl,X,Y _ (by room),?_⟩;apply⟨H0,a,ss,ns,qs,S',dn++[v],wt++c,v,u,rv,ru,B,rfl,g,d,G,m,C,U,λH5 S5 be h5 L I5 av m5=>?_,λH5 t5 r5 h5 L e5 n5 ar ay=>?_⟩
    .ext;show .inl (h5.obj.rd T 7 rfl ?_);apply⟨rfl,_,rfl,qL (λh=>by simp at h) λ_=>?_⟩;show⟨S5,c++be,_,_,rfl,by rw[<- Yp wt];show h5,A.trans L,I5,D.trans m5,λz hz=>?_⟩;rw[O] at hz;rcases yw.mp hz with hz | hz
     .show(M z hz).imp (m5.ba z v) λy=>⟨m5.pa z y.1,y.2⟩
     .rw [yx.mp hz];show .inl av.symm
    .ext;show .inl (h5.obj.rd T 7 rfl ?_);apply⟨rfl,_,rfl,zd ?_⟩;show q2 H5 S' c t5 r5 h5 (((Bx.of s2).trans A).trans L) e5 n5 ar ay
   | none =>
    rw[C] at q;have ah:zv kr (.inr u:Key)=none:=q;rw[ah];have aj:u∉dn++[v]:=λz=>(g.evi u).mp (yP _ z) C;show⟨_,rfl,qL (λh=>by cases h) λ_=>?_⟩;obtain⟨ka,p1,p2,p3⟩:=g.par;apply .inl (g.obj.rd T 3 rfl ?_);show .inr (.inl ⟨a.da,_,rfl,DGet.k (k:=Sum.inr u) p1,?_⟩);rw[p3]
    cases ep:S'.par u with
    | some z =>
     show⟨_,rfl,qL (λh=>by cases h) λ_=>?_⟩;apply .inl (g.obj.rd T 7 rfl ?_);apply⟨rfl,_,rfl,qL (λh=>by simp at h) λ_=>?_⟩;show⟨S',c,_,_,rfl,g,A,G,D,λz hz=>?_⟩;rw[O] at hz;rcases yw.mp hz with hz | hz
     .show M z hz
     .rw [yx.mp hz];show .inr ⟨by rw[ep];show(λy=>by cases y),aj⟩
    | none =>
     show⟨_,rfl,zd ?_⟩
     obtain⟨y,t⟩:∃ y,pt qs u=some y:=by
      cases e:pt qs u with
      | some y=>show⟨y,rfl⟩
      | none =>
       exfalso;have k:=bc u ak e
       cases e2:S.rows u with
       | none=>show k e2
       | some r=>rw[D.ro u r e2] at C;cases C
     have bd:y∈ss:=d.inn _ _ (d.gr.as (d.gr.fa t));have an:=G.fresh d.gr C ep t;have az:=g.sm _ _ h.prt;obtain⟨Z,bg⟩:=g.setP (p:=v) p1 ak ep;have bj:=d.few;apply .inl (g.obj.rd T 1 rfl ?_);apply qe3 az (by rw[qai,t];rfl) ?_;apply .inl (g.obj.rd T 3 rfl ?_);apply .inr ⟨a.da,_,rfl,DPut.k (k:=Sum.inr u) p1 (by rw[YT];lk),?_⟩;have aa:Bx a.six H2 (upd J a.da (.dK (zR ka (Sum.inr u) (.str v)))):=A.upd (by simp[Fo.six]);generalize upd J a.da (.dK (zR ka (Sum.inr u) (.str v)))=J3 at Z aa;ext;obtain⟨dx,fs,X,_,_,_,Y⟩:=id Z.obj;show⟨a.x,dx,fs,rfl,X,Y _ (by room),?_⟩;apply .inl (Z.obj.rd T 2 rfl ?_);apply Z.rowAt (S:=S'.setPar u v) m λtv aq=>?_;apply⟨wqS,λc1 ax=>?_⟩;have t1:=qz (Sr J3) (o:=.lst [.str u,.str y]) ax;have ac:upd J3 c1 (.lst [.str u,.str y]) c1=some (.lst [.str u,.str y]):=qb;generalize upd J3 c1 (.lst [.str u,.str y])=J4 at t1 ac;have bi:=((G.alt v rv m).inn d am).1;show qfe (t1 _ _ aq) ac (by rw[ya];show _+2<=_;lk) λc2 ag=>?_;have n2:=(Z.same t1).newA ag;have t2:=qz t1 (o:=.lst (rv.map V.str++[.str u,.str y])) ag;have ad:upd J4 c2 (.lst (rv.map V.str++[.str u,.str y])) c2=some (.lst ((rv++[u,y]).map V.str)):=by rw[qb,yC];rfl
     generalize upd J4 c2 (.lst (rv.map V.str++[.str u,.str y]))=J5 at t2 ad;apply⟨H0,a,ss,ns,qs,S'.setPar u v,ss,dn++[v],wt++c,.non,y,c2,rv++[u,y],rfl,Z.same t2,d.few,ad,n2,bd,an,λH6 h6 ao _=>?_⟩;have W:Gw S' ((S'.setPar u v).setRow y (rv++[u,y])) v u y rv:=⟨yG rfl,λs hs=>yF hs,yG rfl,λs hs=>yF hs,rfl⟩;have I6:=G.grow d.gr m U C ep t W
     have m6:Mono S' ((S'.setPar u v).setRow y (rv++[u,y])):=⟨λ_ _ e=>e,λz hz=>by
      show(if z=u then some v else S'.par z)≠none;split
      .show λx=>by cases x
      .show hz,λz r e=>by rw[W.ro z (λx=>by rw[x,an] at e;cases e)];show e⟩
     apply .inl (h6.obj.rd T 7 rfl ?_);apply⟨rfl,_,rfl,qL (λh=>by simp at h) λ_=>?_⟩;show⟨_,c++[y],_,_,rfl,by rw[<- Yp wt];show h6,(aa.trans (Bx.of t2)).trans ao,I6,D.trans m6,λz hz=>?_⟩;rw[O] at hz;rcases yw.mp hz with hz | hz
     .show(M z hz).imp (m6.ba z v) λy=>⟨m6.pa z y.1,y.2⟩
     .rw [yx.mp hz];show .inr ⟨by rw[W.pu];show(λx=>by cases x),aj⟩
  .obtain⟨S',c,y2,y3,rfl,g,A,G,D,M⟩:=hp;rw[ya,Ye] at M;show q1 J S' c g ((Bx.of s2).trans A) G ?_ D;have au:=hC.on D;show⟨λz u hz n=>?_,λz hz=>?_⟩
   .rcases yw.mp hz with hz1 | hz1
    .by_cases al:u=v
     .rw [al] at n ⊢;rcases M z ((l z).mpr (d.gr.as n)) with y | y
      .show .inl y.symm
      .show absurd (yP _ hz1) y.2
     .rcases au.cl z u hz1 n with y | ⟨y1,y2⟩
      .show .inl y
      .show .inr ⟨y1,λx=>(yw.mp x).elim y2 λx=>al (yx.mp x)⟩
    .rw [yx.mp hz1] at n ⊢;show M u ((l u).mpr n)
   .show(g.evi z).mp (yP _ hz)
theorem ur:FnScope wy wql (qh zh):=fS
structure FoD(cf cw:Addr)(H0 H:Hp)(a:Fo)(ss:LS)(ns:LN)(qs:LP)(S:FS)(dn wt:LS)(lo:V)(A:Str->Str->Prop):Prop where
 fo:FoA cf cw H0 H a ss ns qs S ss dn wt lo
 en:(lo=.non/\wt=[]/\FI A (pt qs) S/\CI A S (λu=>u∈dn)/\∀ z∈ss,pt qs z=none->S.rows z≠none)\/∃ t r,lo=.ref t/\H t=some (.lst (r.map V.str))/\t∉a.all/\Aug A (pt qs) r/\r.length<=28
def S0:FS:=⟨λ_=>none,λ_=>none,λs=>s⟩
def SI(qs:LP)(l:LS):FS:=⟨λs=>if s∈l/\pt qs s=none then some [s] else none,λ_=>none,λs=>s⟩
theorem SI_nil(qs:LP):SI qs []=S0:=by unfold SI S0;simp
theorem SI_on{l:LS}(h:pt qs z=none):SI qs (l++[z])=(SI qs l).setRow z [z]:=by
 unfold SI FS.setRow
 congr 1
 funext s;dsimp only;by_cases e:s=z
 .subst e;rw[yG ⟨by simp,h⟩,yG rfl]
 .rw [yF e];have:s∈l++[z]↔s∈l:=by simp[e]
  simp only[this]
theorem SI_off{l:LS}(h:pt qs z≠none):SI qs (l++[z])=SI qs l:=by
 unfold SI
 congr 1
 funext s;by_cases e:s=z
 .subst e;rw[yF (λk=>h k.2),yF (λk=>h k.2)]
 .have:s∈l++[z]↔s∈l:=by simp[e]
  simp only[this]
inductive spGw(cc:Nat->Addr)(cw:Addr)(vs:List V)(H:Hp)(Q:VK)(E:XK):Prop|mk (H0:Hp) (a:Fo) (ss:LS) (ns:LN) (qs:LP) (A:Str->Str->Prop) (_:vs=[.ref a.x]) (_:FoA (cc 9) cw H0 H a ss ns qs S0 [] [] [] .non) (_:Wb A ss qs) (_:(∀ s∈ss,jf s=true)) (_:(∀(j:Nat) z u,ss[j]?=some z->(u∈inB ss 0 (ns.getD j 0)↔A z u))) (_:∀(H':Hp) (S:FS) (dn wt:LS) (lo:V),FoD (cc 9) cw H0 H' a ss ns qs S dn wt lo A->Bx a.six H H'->Q .non H')
theorem ix_natF{k:Nat}(h:k<n):seqIndex? (k:Int) n=some k:=by
 unfold seqIndex?;simp;lk
theorem nin_prF{d:Addr}{Q:VK}(a:H d=some (.dK (prK qs)))(q:Q (.bl (!(pt qs s).isSome)) H):qe0 K true (.str s) (.ref d) H Q:=by
 show .inr (.inl ⟨d,_,rfl,DGet.k (k:=Sum.inr s) a,?_⟩);rw[qai,yG rfl,Xp];show q
theorem FoA.ne{a:Fo}{bs:LS}(h:FoA (cc 9) cw H0 H a ss ns qs S bs dn wt lo):(¬a.x=a.dr/\¬a.x=a.da/\¬a.x=a.ds/\¬a.x=a.dg/\¬a.x=a.dw)/\(¬a.dr=a.da/\¬a.dr=a.ds/\¬a.dr=a.dg/\¬a.dr=a.dw)/\(¬a.da=a.ds/\¬a.da=a.dg/\¬a.da=a.dw)/\(¬a.ds=a.dg/\¬a.ds=a.dw)/\¬a.dg=a.dw:=by simpa [Fo.six] using h.sep
theorem FoA.setN{a:Fo}{bs:LS}{ks:List (Key×V)}(h:FoA (cc 9) cw H0 H a ss ns qs S bs dn wt lo)(p:H a.ds=some (.dK ks))(r:S.bas z=z):FoA (cc 9) cw H0 (upd H a.ds (.dK (zR ks (Sum.inr z) (.str z)))) a ss ns qs S (bs++[z]) dn wt lo/\ks.length<=bs.length:=by
 obtain⟨t,G,I,J⟩:=h.row;obtain⟨s,D,E,F⟩:=h.par;obtain⟨k,g,j,l⟩:=h.bas;obtain⟨xs,m,n⟩:=h.rng;rw[p] at g;cases g;obtain⟨⟨K,L,B,M,N⟩,⟨O,C,P,R⟩,⟨b,v,w⟩,⟨d,f⟩,A⟩:=h.ne;have i:Bx a.six H (upd H a.ds (.dK (zR ks (Sum.inr z) (.str z)))):=(Bx.of (Sr H)).upd (by simp[Fo.six]);show⟨⟨qa9 h.sm (h.fr _ (by simp[Fo.six])),h.web,h.prt,h.fr,h.nd,λc hc=>⟨(h.exf c hc).1,(h.exf c hc).2.1,(h.exf c hc).2.2.elim λo e=>⟨o,i _ _ (h.exf c hc).2.1 e⟩⟩,h.obj.eq (qg B),⟨t,by rw[qg C];show G,I,λy=>(J y).mono i Fo.sub⟩,⟨s,by rw[qg b];show D,E,F⟩,⟨_,qb,by have:=jV ks (Sum.inr z:Key) (.str z);rw[yu];show _<=_+1;lk,λu q=>?_⟩,⟨xs,by rw[qg (Yh d)];show m,n⟩,by rw[qg (Yh f)];show h.wai,h.evn,h.evi,h.evs⟩,j⟩;rw[qbm];by_cases e:u=z
 .subst e;rw[yG rfl,r]
 .rw [yF (λx=>e (xU x))];show l u ((yw.mp q).resolve_right λy=>e (yx.mp y))
theorem FoA.pop{a:Fo}{bs:LS}{v:Str}(h:FoA (cc 9) cw H0 H a ss ns qs S bs dn (v::wt) lo):FoA (cc 9) cw H0 (upd H a.dw (.lst (wt.map V.str))) a ss ns qs S bs (dn++[v]) wt lo:=by
 obtain⟨r,C,D,E⟩:=h.row;obtain⟨q,z,A,B⟩:=h.par;obtain⟨k,j,l,m⟩:=h.bas;obtain⟨xs,n,p⟩:=h.rng;obtain⟨⟨F,G,I,J,w⟩,⟨K,L,M,x⟩,⟨s,t,d⟩,⟨u,f⟩,g⟩:=h.ne;have b:dn++[v]++wt=dn++v::wt:=by simp
 have i:Bx a.six H (upd H a.dw (.lst (wt.map V.str))):=(Bx.of (Sr H)).upd (by simp[Fo.six]);show⟨qa9 h.sm (h.fr _ (by simp[Fo.six])),h.web,h.prt,h.fr,h.nd,λc hc=>⟨(h.exf c hc).1,(h.exf c hc).2.1,(h.exf c hc).2.2.elim λo e=>⟨o,i _ _ (h.exf c hc).2.1 e⟩⟩,h.obj.eq (qg w),⟨r,by rw[qg x];show C,by rw[b];show D,λy=>(E y).mono i Fo.sub⟩,⟨q,by rw[qg d];show z,A,B⟩,⟨k,by rw[qg f];show j,l,m⟩,⟨xs,by rw[qg g];show n,by rw[b];show p⟩,qb,by rw[b];show h.evn,by rw[b];show h.evi,by rw[b];show h.evs⟩
theorem ok_gw(F:Fun K "grow" "Forest.grow" zh f fd)(T:Txt K mg cc cw)(uc:wqO 1 cw "places" wql (spPls cw))(KG:wqO 1 (cc 9) "reach" wqf (spRe cc cw))(uw:wqO 7 (cc 9) "look_around" wy (spLa cc cw)):wqP 8 f fd wql (spGw cc cw):=by
 show F.ok ur λ_ _ _ _ H vs Q E hr h=>?_
 .obtain⟨H0,a,ss,ns,qs,B,rfl,h,L,an,aj,q⟩:=h;have hu:=ze hr;have aq:=L.few;show⟨_,(qc (qX yT rfl (jh (K:=K) rfl (zK uc (hmR hr) (qA (K:=K) rfl (pv 0) rfl))) (qu (i:=1) ur.nd rfl (yK rfl))
 (qc (jN (pv 1) (jM (qA (K:=K) rfl (pv 0) rfl) (pv 1) (jQ hu)))
 (qe (qI (qj (j0 (K:=K) rfl hu) (pv 1) (qA (K:=K) rfl (pv 0) rfl) (by with_unfolding_all rfl)) (qe (qE (qH KG (hmR hr) (pv 0) (qa (pv 1) (qa (qB (qa (pv 1) qd)) qd))))) qw))))
 (qe (qck yT (PW.pt (qb5 (qj qej (qr (zg (K:=K) rfl) rfl T.b_len YQ (qa (qA (K:=K) rfl (pv 0) rfl) qd)) qf (qy _)) (qcj (qj qg1 (qA (K:=K) rfl (pv 0) rfl) j6 (qy _)))))
 (qe (qE (qH uw (hmR hr) (pv 0) (qa (qaX (K:=K) rfl yI PySem.F.slot_list_pop PySem.F.type_list_pop mtR_popAt (qA (K:=K) rfl (pv 0) rfl) (qa qf qd)) qd))))))),?_⟩
  have ac:=h.web.same h.sm;obtain⟨wx,dd,ol,nn,hb,_⟩:=id ac;apply .inl (h.obj.rd T 0 rfl ?_);show⟨a.b,wx,_,rfl,hb,qaz (by room),?_⟩;apply⟨a.b,ss,ns,rfl,ac,λpl ae=>?_⟩;have au:=h.new ae;have s1:=qz (Sr H) (o:=.lst (ss.map V.str)) ae;have e1:upd H pl (.lst (ss.map V.str)) pl=some (.lst (ss.map V.str)):=qb;generalize upd H pl (.lst (ss.map V.str))=H1 at s1 e1;show .inl ⟨⟨_,.of e1⟩,qP (xs:=ss.map V.str) (λi σ J=>∃(s:LS) (Y:Option V),σ=[some (.ref a.x),Y]/\FoA (cc 9) cw H0 J a ss ns qs (SI qs (ss.take i)) (ss.take i) [] s .non/\Bx a.six H1 J) ⟨[],_,rfl,by rw[List.take_zero,SI_nil];show h.same s1,λ_ _ _ e=>e⟩ (λi σ J _ n=>?_) (λi y σ J hy n=>?_) fun σ J n=>?_⟩
  .obtain⟨s,Y,rfl,_,Z⟩:=n;show .of (Z _ _ au e1)
  .obtain⟨s,Y,rfl,X,Z⟩:=n;rw[yd] at hy;obtain⟨z,p,rfl⟩:=yo.mp hy;have ax:=(yc.mp p).1;have as:=ye p;have af:ss.take (i+1)=ss.take i++[z]:=by rw[yY,p];rfl
   obtain⟨ks,b1,b2,b3⟩:=X.bas;rw[yU] at b2;obtain⟨G,_⟩:=X.setN (z:=z) b1 rfl;apply .inl (X.obj.rd T 4 rfl ?_);apply .inr ⟨a.ds,_,rfl,DPut.k (k:=Sum.inr z) b1 (by rw[YT];lk),?_⟩;have A:Bx a.six H1 (upd J a.ds (.dK (zR ks (Sum.inr z) (.str z)))):=Z.upd (by simp[Fo.six]);generalize upd J a.ds (.dK (zR ks (Sum.inr z) (.str z)))=J2 at G A;have ao:=G.sm _ _ h.prt;apply .inl (G.obj.rd T 1 rfl ?_);show nin_prF ao ⟨_,rfl,?_⟩
   cases ez:pt qs z with
   | some y =>
    show yr ?_;show⟨s,_,rfl,by rw[af,SI_off (by rw[ez];show λk=>nomatch k)];show G,A⟩
   | none =>
    show zd ?_;ext;obtain⟨dx,fs,O,_,_,_,R⟩:=id G.obj;show⟨a.x,dx,fs,rfl,O,R _ (by room),?_⟩;apply⟨wqR,λc1 ad=>?_⟩;have n1:=G.newA ad;have t1:=qz (Sr J2) (o:=.lst [.str z]) ad;have aa:upd J2 c1 (.lst [.str z]) c1=some (.lst ([z].map V.str)):=qb;generalize upd J2 c1 (.lst [.str z])=J3 at t1 aa
    have ar:z∉ss.take i:=λy=>by
     obtain⟨j,hj⟩:=yf y;have ak:=(yc.mp hj).1;rw[yU] at ak;rw[List.getElem?_take,yG (by lk)] at hj;have:=qC L.nd hj p;lk
    apply⟨H0,a,ss,ns,qs,SI qs (ss.take i),ss.take i++[z],[],s,.non,z,c1,[z],rfl,G.same t1,aq,aa,n1,as,yF (λk=>ar k.1),λH6 h6 ah _=>?_⟩;show⟨s++[z],_,rfl,by rw[af,SI_on ez];show h6,(A.trans (Bx.of t1)).trans ah⟩
  .obtain⟨s,Y,rfl,X,Z⟩:=n;rw[ya,Ye] at X;have ag:Bx a.six H J:=(Bx.of s1).trans Z
   have IJ:FI B (pt qs) (SI qs ss):=FI.start (λv r e=>by
    have e':(if v∈ss/\pt qs v=none then some [v] else none)=some r:=e;split at e'
    .rename_i k;show⟨k.2,(yn e').symm⟩
    .cases e') (λ_=>rfl) λ_=>rfl
   ext;obtain⟨W,g⟩:∃ W:Nat->L2.St->Hp->Prop,W=λm σ J=>∃(S:FS) (dn wt:LS) (lo:V) (Y:Option V),σ=[some (.ref a.x),Y]/\Bx a.six H J/\((lo=.non/\m=15-dn.length/\FoA (cc 9) cw H0 J a ss ns qs S ss dn wt .non/\FI B (pt qs) S/\CI B S (λu=>u∈dn)/\∀ z∈ss,pt qs z=none->S.rows z≠none)\/(lo≠.non/\m=0/\FoD (cc 9) cw H0 J a ss ns qs S dn wt lo B)):=⟨_,rfl⟩;show⟨W,⟨15,by rw[g];show⟨SI qs ss,[],s,.non,_,rfl,ag,.inl ⟨rfl,rfl,X,IJ,⟨(λv u k=>by cases k),(λv k=>by cases k)⟩,λz p e=>by show(if _ then _ else _)≠none;rw[yG ⟨p,e⟩];show λk=>by cases k⟩⟩⟩,λm σ J hW=>?_⟩;rw[g] at hW;obtain⟨S,dn,wt,lo,ay,rfl,d,M⟩:=hW;rcases M with⟨rfl,hm,l,I,hC,N⟩ | ⟨am,hm,U⟩
   .have c:=l.wai;apply .inl (l.obj.rd T 6 rfl ?_);apply qac c ?_;rw[ya];ext
    cases wt with
    | nil =>
     show qL (λh=>by simp at h) λ_=>qL (λh=>by cases h) λ_=>?_;show q J S dn [] .non ⟨l,.inl ⟨rfl,rfl,I,hC,N⟩⟩ d
    | cons v wt =>
     show qL (λ_=>?_) λh=>absurd (yA (by simp)) h;apply .inl (l.obj.rd T 7 rfl ?_);apply⟨_,rfl,zd ⟨λav H'=>∃ m',m'<m/\W m' av H',λ_ _ z=>z,?_⟩⟩;have aw:dn.length+1<=14:=by have:=l.few;rw[yu,yB] at this;lk
     ext;obtain⟨dx,fs,O,_,_,_,R⟩:=id l.obj;show⟨a.x,dx,fs,rfl,O,R _ (by room),?_⟩;apply .inl (l.obj.rd T 6 rfl ?_);show⟨.inl ⟨rfl,_,.of c⟩,?_⟩;apply⟨a.dw,_,0,0,.str v,rfl,rfl,c,by decide,by decide,by rw[ya];show ix_natF (by simp),rfl,?_⟩;have n:=l.pop;have D:Bx a.six H (upd J a.dw (.lst (wt.map V.str))):=d.upd (by simp[Fo.six]);ext;show spLa cc cw _ (upd J a.dw (.lst (wt.map V.str))) _ _;generalize upd J a.dw (.lst (wt.map V.str))=J2 at n D;show⟨H0,a,ss,ns,qs,S,dn,wt,v,B,rfl,n,L,an,aj,N,I,hC,λH5 S5 mo h5 C I5 C5 m5=>?_,λH5 S5 mo t5 r5 h5 C e5 n5 ai al=>?_⟩
     .show⟨15-(dn++[v]).length,by rw[hm,yu];show _-(_+1)<_;lk,?_⟩;rw[g]
      show⟨S5,dn++[v],wt++mo,.non,_,rfl,D.trans C,.inl ⟨rfl,rfl,h5,I5,C5,λz p e=>(by
       have k:=N z p e
       cases e2:S.rows z with
       | none=>show absurd e2 k
       | some r=>rw[m5.ro z r e2];show λx=>by cases x)⟩⟩
     .show⟨0,by lk,?_⟩;rw[g];show⟨S5,dn++[v],wt++mo,.ref t5,_,rfl,D.trans C,.inr ⟨(λe=>by cases e),rfl,⟨h5,.inr ⟨t5,r5,rfl,e5,n5,ai,al⟩⟩⟩⟩
   .have c:=U.fo.wai;rcases U.en with k | ⟨t,r,rfl,_⟩
    .show absurd k.1 am
    apply .inl (U.fo.obj.rd T 6 rfl ?_);apply qac c ?_;apply qL (λ_=>?_) (λ_=>qL (λh=>by cases h) λ_=>q J S dn wt _ U d);apply .inl (U.fo.obj.rd T 7 rfl ?_);apply⟨_,rfl,qL (λh=>by cases h) λ_=>?_⟩;show q J S dn wt _ U d
theorem uu:FnScope wqa wqa (qh jU):=fS
theorem uS:FnScope wql wql (qh zF):=fS
def qfR(p:Addr)(H:Hp):Hp:=λb=>if b=p then none else H b
theorem zX{b:Addr}(h:b≠p):qfR p H b=H b:=yF h
theorem lkn{f g:Str}{fs:List (Str×V)}(h:f≠g)(k:fs.lookup f=none):(qG g v fs).lookup f=none:=by rw[qD,yF h];show k
inductive spFi(cc:Nat->Addr)(cw:Addr)(vs:List V)(H:Hp)(Q:VK)(E:XK):Prop|mk (x dx b r:Addr) (ss:LS) (ns:LN) (us:LX) (tps qs:LP) (A:Str->Str->Prop) (_:vs=[.ref x,.ref b,.ref r]) (_:H x=some (.ins (cc 9) dx [])) (_:WebAt cw H b ss ns) (_:Adj ss ns tps) (_:Wb A ss qs) (_:(∀ s∈ss,jf s=true)) (_:(∀(j:Nat) z u,ss[j]?=some z->(u∈inB ss 0 (ns.getD j 0)↔A z u))) (_:PL H r us qs) (_:qs.length<=30) (_:(∀ q∈qs,(q∈tps\/(q.2,q.1)∈tps)/\q.1∈ss/\q.2∈ss/\q.1≠q.2)) (_:∀(H0 H':Hp) (a:Fo) (S:FS) (dn wt:LS) (lo:V),a.x=x->a.b=b->FoD (cc 9) cw H0 H' a ss ns qs S dn wt lo A->L2.Same (qfR x H) H0->Q .non H')
theorem WebAt.out{b:Addr}{fs:List (Str×V)}(h:WebAt cw H b ss ns)(a:H x=some (.ins (cc 9) dx fs))(hb:b≠x):WebAt cw (qfR x H) b ss ns:=by
 obtain⟨i,d,ol,n,h1,c,e,f,g⟩:=h;show⟨i,d,ol,n,(zX hb).trans h1,(zX ?_).trans c,(zX ?_).trans e,(zX ?_).trans f,g⟩
 .show qaZ c a (λz=>by cases z)
 .show qaZ e a (λz=>by cases z)
 .show qaZ f a (λz=>by cases z)
theorem qgp(F:Fun K "__init__" "Forest.__init__" jU f fd)(T:Txt K mg cc cw)(K6:wqN 9 "partners_in" wqG (spPn cw))(K7:wqO 8 (cc 9) "grow" wql (spGw cc cw)):wqP 10 f fd wqa (spFi cc cw):=by
 show F.ok uu λ_ _ _ s H vs Q E hr h=>?_
 .obtain⟨x,dx,b,r,ss,ns,us,tps,qs,B,rfl,hx,hW,hA,bu,ch,cf,hP,ci,cj,q⟩:=h;have hu:=ze hr;show⟨_,(qc (qS (K:=K) rfl (pv 0) (pv 1) rfl)
 (qc (qS (K:=K) rfl (pv 0) (qx K6 (hmR hr) qF (qa (pv 1) (qa (pv 2) qd))) rfl)
 (qc (qS (K:=K) rfl (pv 0) jr rfl)
 (qc (qS (K:=K) rfl (pv 0) jr rfl)
 (qc (qS (K:=K) rfl (pv 0) jr rfl)
 (qc (qS (K:=K) rfl (pv 0) (qB qd) rfl)
 (qc (qS (K:=K) rfl (pv 0) (qB qd) rfl)
 (qc (qS (K:=K) rfl (pv 0) j6 rfl)
 (qe (qE (zK K7 (hmR hr) (pv 0)))))))))))),?_⟩
  have ca:b≠x:=λe=>by
   obtain⟨wx,d,ol,n,hb,_⟩:=id hW;subst e;rw[hx] at hb;injection hb with hb;injection hb with _ _ hb;cases hb
  have cq:r≠x:=qaZ hP.1 hx (λz=>by cases z)
  have cr:∀ u∈us,u≠x:=λu hu=>by
   obtain⟨q,_,eu⟩:=hP.2.mem hu;show qaZ eu hx (λz=>by cases z)
  have fa:∀ i,(h:i<8)->NoAttr K (cc 9) (fAtt.getD i ""):=λi h=>T.fa _ (by have:i<fAtt.length:=h;rw[Yu,yb this];show Xe this);apply .inl ⟨x,cc 9,dx,[],rfl,hx,T.fcl,fa 0 (by decide),by decide,?_⟩;have b1:=(But.refl x H).put (o:=.ins (cc 9) dx (qG "board" (.ref b) []));have bq:upd H x (.ins (cc 9) dx (qG "board" (.ref b) [])) x=some (.ins (cc 9) dx (qG "board" (.ref b) [])):=qb;generalize upd H x (.ins (cc 9) dx (qG "board" (.ref b) []))=H1 at b1 bq ⊢
  have keepW:∀{J:Hp},But x H J->WebAt cw J b ss ns:=λk=>by
   obtain⟨wx,d,ol,n,h1,h2,h3,h4,h5⟩:=hW;show⟨wx,d,ol,n,k _ _ ca h1,k _ _ (qaZ h2 hx (λz=>by cases z)) h2,k _ _ (qaZ h3 hx (λz=>by cases z)) h3,k _ _ (qaZ h4 hx (λz=>by cases z)) h4,h5⟩
  have cd:PL H1 r us qs:=⟨b1 _ _ cq hP.1,hP.2.len,λk t ab ht ce=>b1 _ _ (cr t (ye ht)) (hP.2.at_ k t ab ht ce)⟩;apply⟨b,r,ss,ns,us,tps,qs,rfl,keepW b1,hA,cd,⟨cj,bu.qn,ci⟩,λdp H2 s2 bh cg=>?_⟩;have bw:=s2 _ _ bq;have b2:=b1.same s2;have cp:dp≠x:=λe=>by rw[e,bq] at bh;cases bh
  have hl:∀{f:Str} {v:V} {fs:List (Str×V)} {n:Nat},fs.length<=n->(qG f v fs).length<=n+1:=λh=>yi (jE _ _ _) (by lk);apply .inl ⟨x,cc 9,dx,_,rfl,bw,T.fcl,fa 1 (by decide),Yj (hl (n:=0) (yh _)) (by decide),?_⟩
  have c3:L2.Same (qfR x H2) (upd H2 x (.ins (cc 9) dx (qG "partners" (.ref dp) (qG "board" (.ref b) [])))):=λc o e=>by
   have hc:c≠x:=λz=>by rw[z] at e;unfold qfR at e;rw[yG rfl] at e;cases e
   rw[zX hc] at e;rw[qg hc];show e
  have aq:upd H2 x (.ins (cc 9) dx (qG "partners" (.ref dp) (qG "board" (.ref b) []))) x=some (.ins (cc 9) dx (qG "partners" (.ref dp) (qG "board" (.ref b) []))):=qb;obtain⟨H0,ac⟩:∃ H0,H0=qfR x H2:=⟨_,rfl⟩;rw[<- ac] at c3;have D:H0 x=none:=by rw[ac];show yG rfl
  have l3:(qG "partners" (.ref dp) (qG "board" (.ref b) [])).length<=2:=hl (hl (n:=0) (yh _));generalize upd H2 x (.ins (cc 9) dx (qG "partners" (.ref dp) (qG "board" (.ref b) [])))=H3 at c3 aq ⊢;obtain⟨f3,bi⟩:∃ f3,f3=qG "partners" (.ref dp) (qG "board" (.ref b) []):=⟨_,rfl⟩;rw[<- bi] at aq l3;ext;intro m ao;have C:m≠x:=λe=>by rw[e,aq] at ao;cases ao
  have cv:H0 m=none:=c3.free ao;have ck:upd H3 m (.dK []) x=some (.ins (cc 9) dx f3):=by rw[qg C.symm];show aq
  apply .inl ⟨x,cc 9,dx,_,rfl,ck,T.fcl,fa 2 (by decide),Yj l3 (by decide),?_⟩;have c4:L2.Same H0 (upd (upd H3 m (.dK [])) x (.ins (cc 9) dx (qG "rows" (.ref m) f3))):=qa9 (qz c3 ao) D;have ar:(upd (upd H3 m (.dK [])) x (.ins (cc 9) dx (qG "rows" (.ref m) f3))) x=some (.ins (cc 9) dx (qG "rows" (.ref m) f3)):=qb;have l4:(qG "rows" (.ref m) f3).length<=3:=hl l3;have U:(upd (upd H3 m (.dK [])) x (.ins (cc 9) dx (qG "rows" (.ref m) f3))) m=some (.dK []):=by rw[qg C,qb]
  generalize upd (upd H3 m (.dK [])) x (.ins (cc 9) dx (qG "rows" (.ref m) f3))=H4 at c4 ar U ⊢;obtain⟨f4,bj⟩:∃ f,f=qG "rows" (.ref m) f3:=⟨_,rfl⟩;rw[<- bj] at ar l4;ext;intro l G;have I:l≠x:=λe=>by rw[e,ar] at G;cases G
  have ct:H0 l=none:=c4.free G;have ad:l≠m:=λe=>by rw[e,U] at G;cases G
  have cl:upd H4 l (.dK []) x=some (.ins (cc 9) dx f4):=by rw[qg I.symm];show ar
  apply .inl ⟨x,cc 9,dx,_,rfl,cl,T.fcl,fa 3 (by decide),Yj l4 (by decide),?_⟩;have c5:L2.Same H0 (upd (upd H4 l (.dK [])) x (.ins (cc 9) dx (qG "parents" (.ref l) f4))):=qa9 (qz c4 G) D;have as:(upd (upd H4 l (.dK [])) x (.ins (cc 9) dx (qG "parents" (.ref l) f4))) x=some (.ins (cc 9) dx (qG "parents" (.ref l) f4)):=qb;have l5:(qG "parents" (.ref l) f4).length<=4:=hl l4;have M:(upd (upd H4 l (.dK [])) x (.ins (cc 9) dx (qG "parents" (.ref l) f4))) l=some (.dK []):=by rw[qg I,qb]
  have W:(upd (upd H4 l (.dK [])) x (.ins (cc 9) dx (qG "parents" (.ref l) f4))) m=some (.dK []):=by rw[qg C,qg (Yh ad)];show U
  generalize upd (upd H4 l (.dK [])) x (.ins (cc 9) dx (qG "parents" (.ref l) f4))=H5 at c5 as W M ⊢;obtain⟨f5,bm⟩:∃ f,f=qG "parents" (.ref l) f4:=⟨_,rfl⟩;rw[<- bm] at as l5;ext;intro j A;have ah:j≠x:=λe=>by rw[e,as] at A;cases A
  have cx:H0 j=none:=c5.free A;have aj:j≠m:=λe=>by rw[e,W] at A;cases A
  have ai:j≠l:=λe=>by rw[e,M] at A;cases A
  have cm:upd H5 j (.dK []) x=some (.ins (cc 9) dx f5):=by rw[qg ah.symm];show as
  apply .inl ⟨x,cc 9,dx,_,rfl,cm,T.fcl,fa 4 (by decide),Yj l5 (by decide),?_⟩;have c6:L2.Same H0 (upd (upd H5 j (.dK [])) x (.ins (cc 9) dx (qG "bases" (.ref j) f5))):=qa9 (qz c5 A) D;have au:(upd (upd H5 j (.dK [])) x (.ins (cc 9) dx (qG "bases" (.ref j) f5))) x=some (.ins (cc 9) dx (qG "bases" (.ref j) f5)):=qb;have l6:(qG "bases" (.ref j) f5).length<=5:=hl l5;have Z:(upd (upd H5 j (.dK [])) x (.ins (cc 9) dx (qG "bases" (.ref j) f5))) j=some (.dK []):=by rw[qg ah,qb]
  have X:(upd (upd H5 j (.dK [])) x (.ins (cc 9) dx (qG "bases" (.ref j) f5))) m=some (.dK []):=by rw[qg C,qg (Yh aj)];show W
  have N:(upd (upd H5 j (.dK [])) x (.ins (cc 9) dx (qG "bases" (.ref j) f5))) l=some (.dK []):=by rw[qg I,qg (Yh ai)];show M
  generalize upd (upd H5 j (.dK [])) x (.ins (cc 9) dx (qG "bases" (.ref j) f5))=H6 at c6 au X N Z ⊢;obtain⟨f6,bn⟩:∃ f,f=qG "bases" (.ref j) f5:=⟨_,rfl⟩;rw[<- bn] at au l6;apply⟨wqQ,λg y=>?_⟩;have aw:g≠x:=λe=>by rw[e,au] at y;cases y
  have cu:H0 g=none:=c6.free y;have af:g≠m:=λe=>by rw[e,X] at y;cases y
  have ae:g≠l:=λe=>by rw[e,N] at y;cases y
  have ag:g≠j:=λe=>by rw[e,Z] at y;cases y
  have cn:upd H6 g (.lst []) x=some (.ins (cc 9) dx f6):=by rw[qg aw.symm];show au
  apply .inl ⟨x,cc 9,dx,_,rfl,cn,T.fcl,fa 5 (by decide),Yj l6 (by decide),?_⟩;have c7:L2.Same H0 (upd (upd H6 g (.lst [])) x (.ins (cc 9) dx (qG "rings" (.ref g) f6))):=qa9 (qz c6 y) D;have av:(upd (upd H6 g (.lst [])) x (.ins (cc 9) dx (qG "rings" (.ref g) f6))) x=some (.ins (cc 9) dx (qG "rings" (.ref g) f6)):=qb;have l7:(qG "rings" (.ref g) f6).length<=6:=hl l6;have R:(upd (upd H6 g (.lst [])) x (.ins (cc 9) dx (qG "rings" (.ref g) f6))) g=some (.lst []):=by rw[qg aw,qb]
  have Y:(upd (upd H6 g (.lst [])) x (.ins (cc 9) dx (qG "rings" (.ref g) f6))) m=some (.dK []):=by rw[qg C,qg (Yh af)];show X
  have O:(upd (upd H6 g (.lst [])) x (.ins (cc 9) dx (qG "rings" (.ref g) f6))) l=some (.dK []):=by rw[qg I,qg (Yh ae)];show N
  have aa:(upd (upd H6 g (.lst [])) x (.ins (cc 9) dx (qG "rings" (.ref g) f6))) j=some (.dK []):=by rw[qg ah,qg (Yh ag)];show Z
  generalize upd (upd H6 g (.lst [])) x (.ins (cc 9) dx (qG "rings" (.ref g) f6))=H7 at c7 av Y O aa R ⊢;obtain⟨L,bo⟩:∃ f,f=qG "rings" (.ref g) f6:=⟨_,rfl⟩;rw[<- bo] at av l7;apply⟨wqQ,λa p=>?_⟩;have bt:a≠x:=λe=>by rw[e,av] at p;cases p
  have cy:H0 a=none:=c7.free p;have am:a≠m:=λe=>by rw[e,Y] at p;cases p
  have ak:a≠l:=λe=>by rw[e,O] at p;cases p
  have an:a≠j:=λe=>by rw[e,aa] at p;cases p
  have al:a≠g:=λe=>by rw[e,R] at p;cases p
  have co:upd H7 a (.lst []) x=some (.ins (cc 9) dx L):=by rw[qg bt.symm];show av
  apply .inl ⟨x,cc 9,dx,_,rfl,co,T.fcl,fa 6 (by decide),Yj l7 (by decide),?_⟩;have c8:L2.Same H0 (upd (upd H7 a (.lst [])) x (.ins (cc 9) dx (qG "waiting" (.ref a) L))):=qa9 (qz c7 p) D;have br:(upd (upd H7 a (.lst [])) x (.ins (cc 9) dx (qG "waiting" (.ref a) L))) x=some (.ins (cc 9) dx (qG "waiting" (.ref a) L)):=qb;have l8:(qG "waiting" (.ref a) L).length<=7:=hl l7;have bf:(upd (upd H7 a (.lst [])) x (.ins (cc 9) dx (qG "waiting" (.ref a) L))) a=some (.lst []):=by rw[qg bt,qb]
  have bb:(upd (upd H7 a (.lst [])) x (.ins (cc 9) dx (qG "waiting" (.ref a) L))) m=some (.dK []):=by rw[qg C,qg (Yh am)];show Y
  have ax:(upd (upd H7 a (.lst [])) x (.ins (cc 9) dx (qG "waiting" (.ref a) L))) l=some (.dK []):=by rw[qg I,qg (Yh ak)];show O
  have bd:(upd (upd H7 a (.lst [])) x (.ins (cc 9) dx (qG "waiting" (.ref a) L))) j=some (.dK []):=by rw[qg ah,qg (Yh an)];show aa
  have az:(upd (upd H7 a (.lst [])) x (.ins (cc 9) dx (qG "waiting" (.ref a) L))) g=some (.lst []):=by rw[qg aw,qg (Yh al)];show R
  generalize upd (upd H7 a (.lst [])) x (.ins (cc 9) dx (qG "waiting" (.ref a) L))=H8 at c8 br bb ax bd az bf ⊢;obtain⟨f8,bp⟩:∃ f,f=qG "waiting" (.ref a) L:=⟨_,rfl⟩;rw[<- bp] at br l8;apply .inl ⟨x,cc 9,dx,_,rfl,br,T.fcl,fa 7 (by decide),Yj l8 (by decide),?_⟩;have c9:L2.Same H0 (upd H8 x (.ins (cc 9) dx (qG "longer" .non f8))):=qa9 c8 D;have bz:(upd H8 x (.ins (cc 9) dx (qG "longer" .non f8))) x=some (.ins (cc 9) dx (qG "longer" .non f8)):=qb;have l9:(qG "longer" .non f8).length<=8:=hl l8;have bc:(upd H8 x (.ins (cc 9) dx (qG "longer" .non f8))) m=some (.dK []):=by rw[qg C];show bb
  have ay:(upd H8 x (.ins (cc 9) dx (qG "longer" .non f8))) l=some (.dK []):=by rw[qg I];show ax
  have be:(upd H8 x (.ins (cc 9) dx (qG "longer" .non f8))) j=some (.dK []):=by rw[qg ah];show bd
  have ba:(upd H8 x (.ins (cc 9) dx (qG "longer" .non f8))) g=some (.lst []):=by rw[qg aw];show az
  have bg:(upd H8 x (.ins (cc 9) dx (qG "longer" .non f8))) a=some (.lst []):=by rw[qg bt];show bf
  generalize upd H8 x (.ins (cc 9) dx (qG "longer" .non f8))=H9 at c9 bz bc ay be ba bg ⊢
  have hF:FoA (cc 9) cw H0 H9 ⟨x,b,dp,m,l,j,g,a,[]⟩ ss ns qs S0 [] [] [] .non:=by
   show⟨c9,?_,?_,λc hc=>?_,?_,(λc hc=>by cases hc),⟨dx,_,bz,kO l9,λ_=>l9,λf v hf=>?_,λf hf=>?_⟩,⟨[],bc,yh _,λ_=>rfl⟩,⟨[],ay,⟨[],yh _,.nil,(λu hu=>by cases hu)⟩,λ_=>rfl⟩,⟨[],be,yh _,(λs hs=>by cases hs)⟩,⟨[],ba,yh _⟩,bg,.nil,λv=>⟨(λk=>by cases k),λk=>absurd rfl k⟩,(λv hv=>by cases hv)⟩
   .rw [ac];show(keepW b2).out bw ca
   .rw [ac];show(zX cp).trans cg
   .simp only[Fo.six,yv,yJ,Yo] at hc;rcases hc with rfl | rfl | rfl | rfl | rfl | rfl<;>assumption
   .simp [ad.symm,aj.symm,af.symm,am.symm,ai.symm,ae.symm,ak.symm,ag.symm,an.symm,al.symm]
   .simp only[Fo.tab,yv,XE,yJ,Yo] at hf;rw[bp,bo,bn,bm,bj,bi];rcases hf with⟨rfl,rfl⟩ | ⟨rfl,rfl⟩ | ⟨rfl,rfl⟩ | ⟨rfl,rfl⟩ | ⟨rfl,rfl⟩ | ⟨rfl,rfl⟩ | ⟨rfl,rfl⟩ | ⟨rfl,rfl⟩<;>rfl
   .rw [bp,bo,bn,bm,bj,bi];have no:∀ i,i<8->f≠fAtt.getD i "":=λi hi e=>hf (by rw[e,Yu,yb (show i<fAtt.length from hi)];show Xe _);show lkn (no 7 (by decide)) (lkn (no 6 (by decide)) (lkn (no 5 (by decide)) (lkn (no 4 (by decide)) (lkn (no 3 (by decide)) (lkn (no 2 (by decide)) (lkn (no 1 (by decide)) (lkn (no 0 (by decide)) rfl)))))))
  ext;obtain⟨cb,fs,bv,_,_,_,bx⟩:=id hF.obj;show⟨x,cb,fs,rfl,bv,bx _ (by room),?_⟩;apply⟨H0,_,ss,ns,qs,B,rfl,hF,bu,ch,cf,λHA S dn wt lo hD cs=>?_⟩;show q H0 HA _ S dn wt lo rfl rfl hD λc o e=>?_;have hc:c≠x:=λz=>by rw[z] at e;unfold qfR at e;rw[yG rfl] at e;cases e
  rw[zX hc] at e;rw[ac,zX hc];show b2 _ _ hc e
inductive spFr(cc:Nat->Addr)(cw:Addr)(vs:List V)(H:Hp)(Q:VK)(E:XK):Prop|mk (H0:Hp) (a:Fo) (ss:LS) (ns:LN) (qs:LP) (S:FS) (dn wt:LS) (lo:V) (A:Str->Str->Prop) (_:vs=[.ref a.x]) (_:FoD (cc 9) cw H0 H a ss ns qs S dn wt lo A) (_:(lo=.non->Q .non H)) (_:∀(t:Addr) (r:LS),lo=.ref t->H t=some (.lst (r.map V.str))->Aug A (pt qs) r->∀ l,H l=none->Q (.ref l) (upd H l (.lst (r.map V.str))))
inductive spFd2(cc:Nat->Addr)(cw:Addr)(vs:List V)(H:Hp)(Q:VK)(E:XK):Prop|mk (H0:Hp) (a:Fo) (ss:LS) (ns:LN) (qs:LP) (S:FS) (dn wt:LS) (lo:V) (A:Str->Str->Prop) (_:vs=[.ref a.x]) (_:FoD (cc 9) cw H0 H a ss ns qs S dn wt lo A) (_:ss.length<=14) (_:(lo≠.non->Q .non H)) (_:(lo=.non->∀(l:Addr) (H':Hp),L2.Same H H'->H l=none->H' l=some (.lst ((ss.filter λs=>(S.rows s).isSome).map V.str))->Q (.ref l) H'))
theorem ok_fr(F:Fun K "row" "Forest.row" zF f fd)(T:Txt K mg cc cw):wqP 1 f fd wql (spFr cc cw):=by
 show F.ok uS λ_ _ _ _ H vs Q E i h=>?_
 .obtain⟨H0,a,ss,ns,qs,S,dn,wt,lo,B,rfl,b,e,g⟩:=h;show⟨_,(qe (qq (pe_ifExp (qj qg1 (qA (K:=K) rfl (pv 0) rfl) j6 (qy _)) j6 (qV (zV (K:=K) rfl rfl) rfl T.b_list xz (qa (qA (K:=K) rfl (pv 0) rfl) qd))))),?_⟩;apply .inl (b.fo.obj.rd T 7 rfl ?_);ext;rcases b.en with⟨rfl,_⟩ | ⟨t,r,rfl,c,j,d,_⟩
  .show⟨_,rfl,zd ?_⟩;apply e rfl
  .show⟨_,rfl,qL (λh=>by cases h) λ_=>?_⟩;apply .inl (b.fo.obj.rd T 7 rfl ?_);apply .inl ⟨t,_,rfl,.inl (.of c),g t r rfl c d⟩
def tpsOf(a qs:LP):LP:=a.filter λq=>decide (pt qs q.1=some q.2)
inductive spTp(cw:Addr)(vs:List V)(H:Hp)(Q:VK)(E:XK):Prop|mk (x l:Addr) (ss:LS) (ns:LN) (us:LX) (tps qs:LP) (_:vs=[.ref x,.ref l]) (_:WebAt cw H x ss ns) (_:Adj ss ns tps) (_:PL H l us qs) (_:PGo ss tps qs) (_:∀(l:Addr) (ls:LX) (H':Hp),L2.Same H H'->H l=none->H' l=some (.lst (ls.map V.ref))->ls.length<=196->All2 (qgO H H' l) ls (tpsOf (qah ss ns ss.length) qs)->Q (.ref l) H')
def stp(rs:LS):LP:=rs.zip rs.tail
def prB(qs:LP)(ab:Str×Str):Bool:=decide (pt qs ab.1=some ab.2)
theorem stp_at:(stp rs)[j]?=some ab↔rs[j]?=some ab.1/\rs[j+1]?=some ab.2:=by
 unfold stp;rw[xO,Xh]
structure RowG(ss:LS)(tps qs:LP)(rs:LS):Prop where
 nd:rs.Nodup
 two:2<=rs.length
 few:rs.length<=1000
 inn:∀ r∈rs,r∈ss
 tie:∀(j:Nat) ab,(stp rs)[j]?=some ab->(ab∈tps\/(ab.2,ab.1)∈tps)/\prB qs ab=decide (j % 2=1)
 hd:∀ s,rs[0]?=some s->pt qs s=none
 tl:∀ s,rs[rs.length-1]?=some s->pt qs s=none
structure Rw(cw:Addr)(H:Hp)(x l a:Addr)(ss:LS)(ns:LN)(us:LX)(tps qs:LP)(rs:LS):Prop where
 web:WebAt cw H x ss ns
 adj:Adj ss ns tps
 prs:PL H l us qs
 pgo:PGo ss tps qs
 row:H a=some (.lst (rs.map V.str))
 rok:RowG ss tps qs rs
inductive spUl(cw:Addr)(vs:List V)(H:Hp)(Q:VK)(E:XK):Prop|mk (x a:Addr) (ss:LS) (ns:LN) (rs:LS) (_:vs=[.ref x,.ref a]) (_:WebAt cw H x ss ns) (_:H a=some (.lst (rs.map V.str))) (_:rs.Nodup) (_:rs.length<=1000) (_:(∀ r∈rs,r∈ss)) (_:∀ H',L2.Same H H'->Q (.bl true) H')
inductive spGt(cw:Addr)(vs:List V)(H:Hp)(Q:VK)(E:XK):Prop|mk (x l d a:Addr) (ss:LS) (ns:LN) (us:LX) (tps qs:LP) (rs:LS) (_:vs=[.ref x,.ref d,.ref a]) (_:Rw cw H x l a ss ns us tps qs rs) (_:H d=some (.dK (prK qs))) (_:∀ H',L2.Same H H'->Q (.bl true) H')
def qgq(rs:LS):LP:=stp rs++(stp rs).map λq=>(q.2,q.1)
def flT(a qs:LP)(rs:LS):LP:=a.filter λq=>decide (pt qs q.1=some q.2) != decide (q∈qgq rs)
inductive spTu(cw:Addr)(vs:List V)(H:Hp)(Q:VK)(E:XK):Prop|mk (x l a:Addr) (ss:LS) (ns:LN) (us:LX) (tps qs:LP) (rs:LS) (_:vs=[.ref x,.ref l,.ref a]) (_:Rw cw H x l a ss ns us tps qs rs) (_:∀(l:Addr) (ls:LX) (H':Hp),L2.Same H H'->H l=none->H' l=some (.lst (ls.map V.ref))->ls.length<=196->All2 (qgO H H' l) ls (flT (qah ss ns ss.length) qs rs)->Q (.ref l) H')
def adjR(rs:LS)(a b:Str):Prop:=∃ j:Nat,(rs[j]?=some a/\rs[j+1]?=some b)\/(rs[j]?=some b/\rs[j+1]?=some a)
theorem adjR.symm(h:adjR rs a b):adjR rs b a:=h.elim λj z=>⟨j,z.symm⟩
theorem adjR.mem(h:adjR rs a b):a∈rs/\b∈rs:=h.elim λj z=>z.elim (λy=>⟨ye y.1,ye y.2⟩) λy=>⟨ye y.2,ye y.1⟩
structure TurnR(f:Str->Option Str)(rs:LS):Prop where
 nd:rs.Nodup
 two:2<=rs.length
 sym:∀ a b,f a=some b->f b=some a
 alt:∀(j:Nat) r s t,rs[j]?=some r->rs[j+1]?=some s->rs[j+2]?=some t->(f s=some r↔¬ f s=some t)
 fst:∀ s t,rs[0]?=some s->rs[1]?=some t->f s=none\/f s=some t
 lst:∀ s t,rs[rs.length-1]?=some s->rs[rs.length-2]?=some t->f s=none\/f s=some t
theorem TurnR.near{f:Str->Option Str}(h:TurnR f rs)(n:a∈rs)(c:f a=some b):adjR rs a b:=by
 obtain⟨i,d⟩:=yf n;have o:i<rs.length:=(yc.mp d).1;have p:=h.two;by_cases m:i=0
 .subst m;obtain⟨t,e⟩:∃ t,rs[1]?=some t:=⟨_,yb (by lk)⟩;rcases h.fst a t d e with z | z
  .rw [z] at c;cases c
  .rw [c] at z;cases z;show⟨0,.inl ⟨d,e⟩⟩
 .by_cases hl:i=rs.length-1
  .obtain⟨t,e⟩:∃ t,rs[rs.length-2]?=some t:=⟨_,yb (by lk)⟩;rcases h.lst a t (by rw[<- hl];show d) e with z | z
   .rw [z] at c;cases c
   .rw [c] at z;cases z;show⟨rs.length-2,.inr ⟨e,by rw[show rs.length-2+1=i by lk];show d⟩⟩
  .obtain⟨r,l⟩:∃ r,rs[i-1]?=some r:=⟨_,yb (by lk)⟩;obtain⟨t,e⟩:∃ t,rs[i+1]?=some t:=⟨_,yb (by lk)⟩;have g:i-1+1=i:=by lk
   have j:i-1+2=i+1:=by lk
   have:=h.alt (i-1) r a t l (by rw[g];show d) (by rw[j];show e);by_cases z:f a=some t
   .rw [c] at z;cases z;show⟨i,.inl ⟨d,e⟩⟩
   .have z:=this.mpr z;rw[c] at z;cases z;show⟨i-1,.inr ⟨l,by rw[g];show d⟩⟩
def flipR(f:Str->Option Str)(rs:LS)(a b:Str):Prop:=(a∉rs/\f a=some b)\/(adjR rs a b/\f a≠some b)
theorem TurnR.xor{f:Str->Option Str}(h:TurnR f rs):flipR f rs a b↔¬ (f a=some b↔adjR rs a b):=by
 unfold flipR;constructor
 .rintro (⟨h1,c⟩ | ⟨h1,c⟩) e
  .show h1 (e.mp c).mem.1
  .show c (e.mpr h1)
 .intro e;by_cases h1:f a=some b
  .show .inl ⟨λd=>e ⟨λ_=>h.near d h1,λ_=>h1⟩,h1⟩
  .by_cases c:adjR rs a b
   .show .inr ⟨c,h1⟩
   .show absurd ⟨λz=>absurd z h1,λz=>absurd z c⟩ e
theorem flipR.symm{f:Str->Option Str}(h:TurnR f rs)(e:flipR f rs a b):flipR f rs b a:=by
 rcases e with⟨h1,c⟩ | ⟨h1,c⟩
 .show .inl ⟨λd=>?_,h.sym _ _ c⟩;show h1 (h.near d (h.sym _ _ c)).mem.2
 .show .inr ⟨h1.symm,λz=>c (h.sym _ _ z)⟩
theorem adjR.at_(nd:rs.Nodup)(d:rs[i]?=some a)(h:adjR rs a b):rs[i+1]?=some b\/(1<=i/\rs[i-1]?=some b):=by
 obtain⟨j,⟨h1,c⟩ | ⟨h1,c⟩⟩:=h
 .have:=qC nd d h1;subst this;show .inl c
 .have:=qC nd d c;subst this;show .inr ⟨by lk,by simpa using h1⟩
theorem flipR.one{f:Str->Option Str}(h:TurnR f rs){c:Str}(p:flipR f rs a b)(o:flipR f rs a c):b=c:=by
 rcases p with⟨h1,j⟩ | ⟨h1,j⟩
 .rcases o with⟨e,d⟩ | ⟨e,d⟩
  .rw [j] at d;show yn d
  .show absurd e.mem.1 h1
 .rcases o with⟨e,d⟩ | ⟨e,d⟩
  .show absurd h1.mem.1 e
  .obtain⟨i,l⟩:=yf h1.mem.1
   have g:∀{b c:Str},rs[i+1]?=some b->1<=i->rs[i-1]?=some c->f a≠some b->f a≠some c->False:=λhb q hc r s=>by
    have m:i-1+1=i:=by lk
    have n:i-1+2=i+1:=by lk
    show s ((h.alt (i-1) _ a _ hc (by rw[m];show l) (by rw[n];show hb)).mpr r)
   rcases h1.at_ h.nd l with z1 | ⟨l1,z1⟩<;>rcases e.at_ h.nd l with z2 | ⟨l2,z2⟩
   .rw [z1] at z2;show yn z2
   .show(g z1 l2 z2 j d).elim
   .show(g z2 l1 z1 d j).elim
   .rw [z1] at z2;show yn z2
theorem TurnR.again{f:Str->Option Str}(h:TurnR f rs)(l:∀ a b,g a=some b↔flipR f rs a b):TurnR g rs:=by
 have on:∀{a b:Str},adjR rs a b->(g a=some b↔¬ f a=some b):=λi=>by
  rw[l,h.xor];constructor
  .show λe z=>e ⟨λ_=>i,λ_=>z⟩
  .show λe z=>e (z.mpr i)
 have only:∀{a b:Str},a∈rs->g a=some b->adjR rs a b:=λp e=>by
  rcases(l _ _).mp e with⟨h1,_⟩ | ⟨h1,_⟩
  .show absurd p h1
  .show h1
 show⟨h.nd,h.two,λa b e=>(l _ _).mpr (((l _ _).mp e).symm h),λj r s t m c d=>?_,λs t c d=>?_,λs t c d=>?_⟩
 .have n:adjR rs s r:=⟨j,.inr ⟨m,c⟩⟩;have o:adjR rs s t:=⟨j+1,.inl ⟨c,d⟩⟩;rw[on n,on o,h.alt j r s t m c d]
 .cases e:g s with
  | none=>show .inl rfl
  | some b =>
   have:=(only (ye c) e).at_ h.nd c;rcases this with z | ⟨z,_⟩
   .rw [d] at z;show .inr (by rw[<- e,e];show z.symm ▸ rfl)
   .omega
 .cases e:g s with
  | none=>show .inl rfl
  | some b =>
   have q:=h.two;have:=(only (ye c) e).at_ h.nd c;rcases this with z | ⟨_,z⟩
   .have:=(yc.mp z).1;lk
   .rw [show rs.length-1-1=rs.length-2 by lk,d] at z;show .inr (by rw[<- z])
theorem TurnR.inner{f:Str->Option Str}(h:TurnR f rs)(d:0<i)(h1:i+1<rs.length)(b:rs[i]?=some s):(f s).isSome=true:=by
 obtain⟨r,a⟩:∃ r,rs[i-1]?=some r:=⟨_,yb (by lk)⟩;obtain⟨t,c⟩:∃ t,rs[i+1]?=some t:=⟨_,yb h1⟩;have:=h.alt (i-1) r s t a (by rw[show i-1+1=i by lk];show b) (by rw[show i-1+2=i+1 by lk];show c)
 cases e:f s with
 | some _=>rfl
 | none =>
  rw[e] at this;have:=this.mpr (λz=>by cases z);cases this
theorem qd1{f:Str->Option Str}(h:TurnR f rs)(e:∀ a b,g a=some b↔flipR f rs a b)(c:adjR rs a t)(i:f a=none\/f a=some t)(d:g a=none\/g a=some t):(g a).isSome=!(f a).isSome:=by
 rcases i with z | z
 .rw [(e a t).mpr (.inr ⟨c,by rw[z];show λy=>by cases y⟩),z];rfl
 .rcases d with y | y
  .rw [y,z];rfl
  .show absurd ⟨λ_=>c,λ_=>z⟩ (h.xor.mp ((e a t).mp y))
theorem qeK{f:Str->Option Str}(h:TurnR f rs)(g:rs[0]?=some a)(hb:rs[rs.length-1]?=some b):(rs.filter λs=>(f s).isSome).length+2=rs.length+(if (f a).isSome then 1 else 0)+(if (f b).isSome then 1 else 0):=by
 have d:=h.two
 obtain⟨m,l⟩:∃ m,rs=a::(m++[b]):=by
  match rs,g,hb,d with
  | x::r,g,hb,d =>
   have t:x=a:=yn g;have p:r≠[]:=λz=>by rw[z] at d;simp at d
   show⟨r.dropLast,?_⟩
   have e:r.getLast p=b:=by
    have hl:0<r.length:=XD.mpr p;rw[show(x::r).length-1=r.length-1+1 by simp;lk,List.getElem?_cons_succ] at hb;rw[List.getLast_eq_getElem];show(yc.mp hb).2
   rw[t,<- e,xA]
 have n:rs.length=m.length+2:=by rw[l];simp
 have c:(m.filter λs=>(f s).isSome)=m:=kC.mpr λs q=>by
  obtain⟨i,o⟩:=yf q;have j:=(yc.mp o).1;show h.inner (i:=i+1) (by lk) (by lk) ?_;rw[l,List.getElem?_cons_succ,yX j];show o
 rw[n,l,Yc,xv,c,Yc,xS];cases (f a).isSome<;>cases (f b).isSome<;>simp<;>lk
theorem qc1(f:ss.Nodup)(i:rs.Nodup)(c:∀ s∈rs,s∈ss)(p:Str->Bool):(ss.filter p).length=(rs.filter p).length+(ss.filter λs=>p s&&!decide (s∈rs)).length:=by
 have e:(rs.filter p).length=(ss.filter λs=>p s&&decide (s∈rs)).length:=xT
  (qc9 (i.filter _) λs d=>by
   obtain⟨a,b⟩:=yq.mp d;show yq.mpr ⟨c s a,by rw[b,yA a];rfl⟩)
  (qc9 (f.filter _) λs d=>by
   obtain⟨a,b⟩:=yq.mp d;obtain⟨g,h⟩:=(yO _ _).mp b;show yq.mpr ⟨yk h,g⟩)
 rw[e];clear e f c
 induction ss with
 | nil=>rfl
 | cons x r ih =>
  rw[Yc,Yc,Yc];cases p x<;>cases decide (x∈rs)<;>simp<;>lk
theorem qbc:∀{qs:LP},(∀ q∈qs,q.1≠q.2)->qs.Pairwise (λq r=>q.1≠r.1/\q.1≠r.2/\q.2≠r.1/\q.2≠r.2)->(qi qs).Nodup
 | [],_,_=>List.nodup_nil
 | q::r,h,hp=>by
  obtain⟨j,l⟩:=List.pairwise_cons.mp hp;have i:=qbc (λx f=>h x (yE _ f)) l;show(q.1::q.2::qi r).Nodup
  have out:∀ n∈qi r,q.1≠n/\q.2≠n:=λn g=>by
   obtain⟨x,f,e⟩:=Y4.mp g;obtain⟨a,b,c,d⟩:=j x f;simp only[yv,yJ,Yo] at e;rcases e with rfl | rfl
   .show⟨a,c⟩
   .show⟨b,d⟩
  show yp.mpr ⟨λz=>?_,yp.mpr ⟨λz=>(out _ z).2 rfl,i⟩⟩;rcases yv.mp z with z | z
  .show h q yL z
  .show(out _ z).1 rfl
theorem stpB_adj:(a,b)∈qgq rs↔adjR rs a b:=by
 unfold qgq adjR;rw[yw,yQ];constructor
 .rintro (h | ⟨q,h,e⟩)
  .obtain⟨j,d⟩:=yf h;show⟨j,.inl (stp_at.mp d)⟩
  .obtain⟨j,d⟩:=yf h;cases e;show⟨j,.inr (stp_at.mp d)⟩
 .rintro ⟨j,⟨h1,c⟩ | ⟨h1,c⟩⟩
  .show .inl (ye (stp_at.mpr ⟨h1,c⟩))
  .show .inr ⟨(b,a),ye (stp_at.mpr ⟨h1,c⟩),rfl⟩
theorem flT_flip{d:LP}(h:TurnR (pt qs) rs):(a,b)∈flT d qs rs↔(a,b)∈d/\flipR (pt qs) rs a b:=by
 unfold flT;rw[yq,h.xor];show and_congr_right λ_=>?_;show(decide (pt qs a=some b) != decide ((a,b)∈qgq rs))=true↔_;by_cases h1:pt qs a=some b<;>by_cases c:(a,b)∈qgq rs
 .rw [yA h1,yA c];show⟨(λz=>by cases z),λz=>absurd ⟨λ_=>stpB_adj.mp c,λ_=>h1⟩ z⟩
 .rw [yA h1,ym c];show⟨λ_ z=>c (stpB_adj.mpr (z.mp h1)),λ_=>rfl⟩
 .rw [ym h1,yA c];show⟨λ_ z=>h1 (z.mpr (stpB_adj.mp c)),λ_=>rfl⟩
 .rw [ym h1,ym c];show⟨(λz=>by cases z),λz=>absurd ⟨λy=>absurd y h1,λy=>absurd (stpB_adj.mpr y) c⟩ z⟩
def tA(tps:LP)(a b:Str):Prop:=(a,b)∈tps\/(b,a)∈tps
theorem pt_some:s∈qi qs↔(pt qs s).isSome=true:=by
 cases e:pt qs s with
 | none=>show⟨λz=>absurd z (pt_none.mp e),(λz=>by cases z)⟩
 | some b=>show⟨λ_=>rfl,λ_=>Yn λz=>by rw[pt_none.mpr z] at e;cases e⟩
structure PFn(ss:LS)(tps:LP)(f:Str->Option Str):Prop where
 sym:∀ a b,f a=some b->f b=some a
 tie:∀ a b,f a=some b->tA tps a b
def qbu(f:Str->Option Str)(ss:LS):Nat:=(ss.filter λs=>(f s).isSome).length
section
variable{ss:LS}{ns:LN}{tps qs:LP}{f g:Str->Option Str}
theorem PGo.fn(h:PGo ss tps qs):PFn ss tps (pt qs):=⟨λa b e=>(qbk h.nd).mp e,λa b e=>by
 rcases qdY e with z | z
 .show(h.inn _ z).1
 .show(h.inn _ z).1.symm⟩
theorem PGo.cnt(h:PGo ss tps qs)(c:ss.Nodup):2*qs.length=qbu (pt qs) ss:=by
 rw[<- jW];show xT (qc9 h.nd λs a=>yq.mpr ⟨?_,pt_some.mp a⟩) (qc9 (c.filter _) λs a=>pt_some.mpr (yq.mp a).2);obtain⟨q,b,a⟩:=Y4.mp a;simp only[yv,yJ,Yo] at a;rcases a with rfl | rfl
 .show(h.inn q b).2.1
 .show(h.inn q b).2.2.1
theorem qcd:(snL f ss).length+qbu f ss=ss.length:=by
 unfold snL qbu
 induction ss with
 | nil=>rfl
 | cons x r ih =>
  rw[Yc,Yc];cases (f x).isSome
  .rw [yG (show(!false)=true from rfl),yF Yq,yB,yB];lk
  .rw [yF (show ¬ (!true)=true by decide),yG (show true=true from rfl),yB,yB];lk
theorem qdl(hw:WOk ss ns)(p:Adj ss ns tps):(a,b)∈qah ss ns ss.length↔tA tps a b/\∃ i j:Nat,i<j/\ss[i]?=some a/\ss[j]?=some b:=by
 unfold qah;rw[Y4];constructor
 .rintro ⟨i,f,h⟩;have f:=xk.mp f;obtain⟨s,l⟩:∃ s,ss[i]?=some s:=⟨_,yb f⟩;have d:ss.getD i ""=s:=by rw[Yu,l];rfl
  unfold qgm at h;rw[d] at h;obtain⟨o,t,e⟩:=yQ.mp h;cases e;obtain⟨h1,c⟩:=yq.mp t;obtain⟨q,r⟩:=inB_mem hw.nd h1;have n:ss[ss.idxOf b]?=some b:=by rw[yb (yW q),Yx]
  show⟨(p i _ _ _ l n).mp r,i,_,yk c,l,n⟩
 .rintro ⟨h,i,j,g,h1,c⟩;show⟨i,xk.mpr (yc.mp h1).1,?_⟩;have d:ss.getD i ""=a:=by rw[Yu,h1];rfl
  have m:ss.idxOf b=j:=by
   have hb:=ye c;show qC hw.nd (by rw[yb (yW hb),Yx]) c
  unfold qgm;rw[d];show yQ.mpr ⟨b,yq.mpr ⟨?_,yA (by rw[m];show g)⟩,rfl⟩;rw[qav hw.nd];show yq.mpr ⟨ye c,by rw[m];show(p i j a b h1 c).mpr h⟩
theorem dps_nd(hw:WOk ss ns):(qah ss ns ss.length).Nodup:=by
 show List.pairwise_flatMap.mpr ⟨λi _=>?_,?_⟩
 .unfold qgm;show Xq.mpr ?_;have nd:((inB ss 0 (ns.getD i 0)).filter λo=>decide (i<ss.idxOf o)).Nodup:=by rw[qav hw.nd];show(hw.nd.filter _).filter _
  show nd.imp λc e=>c (Prod.mk.inj e).2
 .show xX (λ{i j} a b g q d r f e=>?_) (List.pairwise_lt_range (n:=ss.length));have a:=xk.mp a;have b:=xk.mp b;unfold qgm at d f;obtain⟨_,_,rfl⟩:=yQ.mp d;obtain⟨_,_,rfl⟩:=yQ.mp f;have e:=(Prod.mk.inj e).1;rw[Yu,Yu,yb a,yb b] at e;have:=qC hw.nd (yb a) (by rw[yb b];show congrArg some e.symm);lk
theorem fil_ok(hw:WOk ss ns)(A:Adj ss ns tps)(t:∀ ab∈tps,ab.1∈ss/\ab.2∈ss/\ab.1≠ab.2)(h:PFn ss tps g){L:LP}(f:∀ a b,(a,b)∈L↔(a,b)∈qah ss ns ss.length/\g a=some b)(H:L.Sublist (qah ss ns ss.length)):PGo ss tps L/\pt L=g:=by
 have mem:∀ q∈L,g q.1=some q.2/\tA tps q.1 q.2/\∃ i j:Nat,i<j/\ss[i]?=some q.1/\ss[j]?=some q.2:=λq c=>by
  obtain⟨h1,G⟩:=(f q.1 q.2).mp c;show⟨G,(qdl hw A).mp h1⟩
 have inn:∀{a b:Str},tA tps a b->a∈ss/\b∈ss/\a≠b:=λz=>z.elim (λy=>t _ y) λy=>⟨(t _ y).2.1,(t _ y).1,(t _ y).2.2.symm⟩
 have nd:(qi L).Nodup:=by
  show qbc (λq c=>(inn (mem q c).2.1).2.2) (xX (λ{q r} c I n=>?_) (H.nodup (dps_nd hw)));obtain⟨d,_,i,j,l1,o,p⟩:=mem q c;obtain⟨x,_,K,M,l2,D,E⟩:=mem r I;have w:=h.sym _ _ d;have F:=h.sym _ _ x;show⟨λz=>?_,λz=>?_,λz=>?_,λz=>?_⟩
  .rw [z,x] at d;show n (Xj z (yn d).symm)
  .rw [z,F] at d;have e:=yn d;rw[z] at o;rw[<- e] at p;have:=qC hw.nd o E;have:=qC hw.nd p D;lk
  .rw [z,x] at w;have e:=yn w;rw[z] at p;rw[<- e] at o;have:=qC hw.nd o E;have:=qC hw.nd p D;lk
  .rw [z,F] at w;show n (Xj (yn w).symm z)
 have C:∀ q∈L,(q∈tps\/(q.2,q.1)∈tps)/\q.1∈ss/\q.2∈ss/\q.1≠q.2:=λq c=>⟨(mem q c).2.1,inn (mem q c).2.1⟩
 have hl:L.length<=30:=by
  have:=qc9 (l:=qi L) (m:=ss) nd λs v=>by
   obtain⟨q,c,v⟩:=Y4.mp v;simp only[yv,yJ,Yo] at v;rcases v with rfl | rfl
   .show(C q c).2.1
   .show(C q c).2.2.1
  rw[jW] at this;have:=hw.few;lk
 show⟨⟨C,nd,hl⟩,funext λa=>qeJ λb=>?_⟩;rw[qdZ nd];constructor
 .rintro (z | z)
  .show((f _ _).mp z).2
  .show h.sym _ _ ((f _ _).mp z).2
 .intro e;obtain⟨m1,J,ne⟩:=inn (h.tie _ _ e);obtain⟨i,B⟩:=yf m1;obtain⟨j,u⟩:=yf J;rcases kQ i j with l | l | l
  .show .inl ((f _ _).mpr ⟨(qdl hw A).mpr ⟨h.tie _ _ e,i,j,l,B,u⟩,e⟩)
  .subst l;rw[B] at u;show absurd (yn u) ne
  .show .inr ((f _ _).mpr ⟨(qdl hw A).mpr ⟨(h.tie _ _ e).symm,j,i,l,u,B⟩,h.sym _ _ e⟩)
end
theorem qeL{f:Str->Option Str}(h:TurnR f rs):∃ g:Str->Option Str,∀ a b,g a=some b↔flipR f rs a b:=
 ⟨λa=>@dite _ (∃ b,flipR f rs a b) (Classical.propDecidable _) (λz=>some z.choose) λ_=>none,λa b=>by
  dsimp only;split
  .rename_i z
   show⟨λe=>by rw[<- yn e];show z.choose_spec,λe=>congrArg some (z.choose_spec.one h e)⟩
  .rename_i z
   show⟨(λe=>by cases e),λe=>absurd ⟨b,e⟩ z⟩⟩
section
variable{ss:LS}{tps qs:LP}{f g:Str->Option Str}{rs:LS}
theorem qeM(h:TurnR f rs)(i:PFn ss tps f)(d:∀ a b,adjR rs a b->tA tps a b)(c:∀ a b,g a=some b↔flipR f rs a b):PFn ss tps g:=
 ⟨λa b e=>(c _ _).mpr (((c _ _).mp e).symm h),λa b e=>((c _ _).mp e).elim (λz=>i.tie _ _ z.2) λz=>d _ _ z.1⟩
theorem qd2(h:TurnR f rs)(e:∀ a b,g a=some b↔flipR f rs a b)(o:ss.Nodup)(d:∀ s∈rs,s∈ss)(c:rs[0]?=some a)(hb:rs[rs.length-1]?=some b):qbu g ss+2=qbu f ss+(if (f a).isSome then 0 else 2)+(if (f b).isSome then 0 else 2):=by
 have B:=h.two;have j:=h.again e;unfold qbu;rw[qc1 o h.nd d,qc1 (p:=λs=>(f s).isSome) o h.nd d];have n:=qeK h c hb;have i:=qeK j c hb
 have A:(ss.filter λs=>(g s).isSome&&!decide (s∈rs))=ss.filter λs=>(f s).isSome&&!decide (s∈rs):=kc λs _=>by
  by_cases z:s∈rs
  .rw [yA z];simp
  .have:g s=f s:=qeJ λb=>by
    rw[e];show⟨λy=>y.elim (λx=>x.2) λx=>absurd x.1.mem.1 z,λy=>.inl ⟨z,y⟩⟩
   rw[this]
 rw[A];obtain⟨t,l⟩:∃ t,rs[1]?=some t:=⟨_,yb (by lk)⟩;obtain⟨u,m⟩:∃ u,rs[rs.length-2]?=some u:=⟨_,yb (by lk)⟩;have q:=qd1 h e ⟨0,.inl ⟨c,l⟩⟩ (h.fst a t c l) (j.fst a t c l);have r:=qd1 h e (a:=b) (t:=u) ⟨rs.length-2,.inr ⟨m,by rw[show rs.length-2+1=rs.length-1 by lk];show hb⟩⟩ (h.lst b u hb m) (j.lst b u hb m);rw[q,r] at i;generalize (rs.filter λs=>(g s).isSome).length=C at i ⊢;generalize (rs.filter λs=>(f s).isSome).length=D at n ⊢;cases v:(f a).isSome<;>cases w:(f b).isSome<;>rw[v,w] at n i<;>simp at n i ⊢<;>lk
theorem qce(c:∀ a b,f a=some b->f b=some a)(nd:rs.Nodup)(d:2<=rs.length)(st:Turns A f rs)(h:∀ s,rs[0]?=some s->f s=none)(tl:∀ s t,rs[rs.length-1]?=some s->rs[rs.length-2]?=some t->f s=none\/f s=some t):TurnR f rs:=by
 show⟨nd,d,c,λj r s t i h1 l=>?_,λs t h1 _=>.inl (h s h1),tl⟩;have e:=(st j r s i h1).2;have g:=(st (j+1) s t h1 l).2;have:f s=some r↔f r=some s:=⟨λz=>c _ _ z,λz=>c _ _ z⟩;rw[this,e,g];lk
theorem qc2(st:Turns (tA tps) f rs):∀ a b,adjR rs a b->tA tps a b:=λa b h=>by
 obtain⟨j,⟨h1,c⟩ | ⟨h1,c⟩⟩:=h
 .show(st j _ _ h1 c).1
 .show(st j _ _ h1 c).1.symm
theorem Aug.row(h:Aug (tA tps) (pt qs) rs)(hl:rs.length<=1000)(c:∀ ab∈tps,ab.1∈ss/\ab.2∈ss/\ab.1≠ab.2):RowG ss tps qs rs:=by
 show⟨h.nd,h.two,hl,λr n=>?_,λj ab e=>?_,h.hd,h.tl⟩
 .obtain⟨i,d⟩:=yf n;have m:=(yc.mp d).1;have q:=h.two;have inn:∀{a b:Str},tA tps a b->a∈ss/\b∈ss:=λz=>z.elim (λy=>⟨(c _ y).1,(c _ y).2.1⟩) λy=>⟨(c _ y).2.1,(c _ y).1⟩;by_cases l:i+1<rs.length
  .show(inn (h.st i r _ d (yb l)).1).1
  .show(inn (h.st (i-1) _ r (yb (by lk)) (by rw[show i-1+1=i by lk];show d)).1).2
 .obtain⟨f,g⟩:=stp_at.mp e;obtain⟨o,p⟩:=h.st j _ _ f g;show⟨o,Ym.mpr p⟩
theorem Aug.turn(h:Aug (tA tps) (pt qs) rs)(c:∀ a b,pt qs a=some b->pt qs b=some a):TurnR (pt qs) rs:=
 qce c h.nd h.two h.st h.hd λs t e _=>.inl (h.tl s e)
theorem turn_ok(hw:WOk ss ns)(m:Adj ss ns tps)(f:∀ ab∈tps,ab.1∈ss/\ab.2∈ss/\ab.1≠ab.2)(e:PGo ss tps qs)(h:Aug (tA tps) (pt qs) rs)(hl:rs.length<=1000):PGo ss tps (flT (qah ss ns ss.length) qs rs)/\(flT (qah ss ns ss.length) qs rs).length=qs.length+1:=by
 have c:=h.turn e.fn.sym;obtain⟨g,d⟩:=qeL c;obtain⟨j,n⟩:=fil_ok hw m f (qeM c e.fn (qc2 h.st) d) (L:=flT (qah ss ns ss.length) qs rs) (λa b=>by rw[flT_flip c,d]) kD;show⟨j,?_⟩;have o:=e.cnt hw.nd;have l:=j.cnt hw.nd;rw[n] at l;have p:=h.two;obtain⟨a,i⟩:∃ t,rs[0]?=some t:=⟨_,yb (by lk)⟩;obtain⟨b,hb⟩:∃ t,rs[rs.length-1]?=some t:=⟨_,yb (by lk)⟩;have:=qd2 c d hw.nd (h.row hl f).inn i hb;rw[h.hd a i,h.tl b hb] at this;simp at this;lk
end
def MxF(ss:LS)(tps qs:LP):Prop:=∃ S:FS,Fn (tA tps) (pt qs) S ss
structure Wt(cw:Addr)(H:Hp)(x:Addr)(ss:LS)(ns:LN)(tps:LP):Prop where
 web:WebAt cw H x ss ns
 adj:Adj ss ns tps
 ok:∀ ab∈tps,ab.1∈ss/\ab.2∈ss/\ab.1≠ab.2
theorem Wt.same(h:Wt cw H x ss ns tps)(s:L2.Same H H'):Wt cw H' x ss ns tps:=⟨h.web.same s,h.adj,h.ok⟩
theorem Wt.wok(h:Wt cw H x ss ns tps):WOk ss ns:=by obtain⟨_,_,_,_,_,_,_,_,z⟩:=h.web;show z
theorem Wt.wb(h:Wt cw H x ss ns tps)(g:PGo ss tps qs):Wb (tA tps) ss qs:=by
 show⟨⟨λz=>Or.symm z,λz e=>?_,λ{a b} e=>g.fn.sym a b e,λ{a b} e=>g.fn.tie a b e⟩,λa b z=>z.elim (λy=>(h.ok _ y).1) λy=>(h.ok _ y).2.1,g.nd,h.wok.few,h.wok.nd⟩;rcases z with z | z
 .show(h.ok _ z).2.2 e
 .show(h.ok _ z).2.2 e.symm
theorem Wt.bes(h:Wt cw H x ss ns tps):∀(j:Nat) z u,ss[j]?=some z->(u∈inB ss 0 (ns.getD j 0)↔tA tps z u):=λj z u e=>by
 rw[qav h.wok.nd,yq];constructor
 .rintro ⟨h1,b⟩;show(h.adj j _ z u e (by rw[yb (yW h1),Yx])).mp b
 .intro t;have a:u∈ss:=t.elim (λy=>(h.ok _ y).2.1) λy=>(h.ok _ y).1;show⟨a,(h.adj j _ z u e (by rw[yb (yW a),Yx])).mpr t⟩
theorem qgr{c:Addr}{a:Fo}(h:FoD c cw H0 H a ss ns qs S dn wt .non (tA tps))(W:Wb (tA tps) ss qs):Fn (tA tps) (pt qs) S ss:=by
 rcases h.en with⟨_,rfl,I,C,sg⟩ | ⟨t,r,e,_⟩
 .have b:∀ v,v∈dn↔S.rows v≠none:=λv=>by have:=h.fo.evi v;rwa[Ys] at this
  show⟨I,W.gr,W.inn,W.nd,λv u hv d=>(C.cl v u ((b v).mpr hv) d).imp id λz=>⟨z.1,Yn λy=>z.2 ((b u).mpr y)⟩,sg,λv hv=>h.fo.evs v ((h.fo.evi v).mpr hv)⟩
 .cases e
inductive spGf(cw:Addr)(vs:List V)(H:Hp)(Q:VK)(E:XK):Prop|mk (x l:Addr) (ss:LS) (ns:LN) (us:LX) (tps qs:LP) (_:vs=[.ref x,.ref l]) (_:Wt cw H x ss ns tps) (_:PL H l us qs) (_:PGo ss tps qs) (_:∀(t l2 r2:Addr) (ls:LX) (ws:List V) (rs:LP) (H':Hp),L2.Same H H'->H' t=some (.tup [.ref l2,.ref r2])->PL H' l2 ls rs->H' r2=some (.lst ws)->rs.length=qs.length+ws.length->PGo ss tps rs->MxF ss tps rs->Q (.ref t) H')
theorem qgs{y:Addr}{Q:VK}(W:Wt cw G x ss ns tps)(n:PL G l us qs)(b:PGo ss tps qs)(f:G y=none)(i:G dx=none)(d:dx≠y)
  (h:∀ H0 H2 a S dn wt lo,a.x=y->FoD (cc 9) cw H0 H2 a ss ns qs S dn wt lo (tA tps)->L2.Same G H2->Q .non H2):spFi cc cw [.ref y,.ref x,.ref l] (upd (upd G dx (.own y)) y (.ins (cc 9) dx [])) Q E:=by
 have j:=qz (qz (Sr G) (o:=.own y) i) (o:=.ins (cc 9) dx []) (show upd G dx (.own y) y=none by rw[qg (Yh d)];show f);show⟨y,dx,x,l,ss,ns,us,tps,qs,tA tps,rfl,qb,W.web.same j,W.adj,W.wb b,W.wok.nm,W.bes,n.same j,b.few,b.inn,λH0 H' a S dn wt lo m _ g p=>h H0 H' a S dn wt lo m g λc o e=>?_⟩;show g.fo.sm c o (p c o ?_);rw[zX (λz=>by rw[z,f] at e;cases e),qg (λz=>by rw[z,f] at e;cases e),qg (λz=>by rw[z,i] at e;cases e)];show e
inductive spGr(cw:Addr)(vs:List V)(H:Hp)(Q:VK)(E:XK):Prop|mk (x:Addr) (ss:LS) (ns:LN) (tps:LP) (_:vs=[.ref x]) (_:Wt cw H x ss ns tps) (_:∀(l:Addr) (ls:LX) (rs:LP) (H':Hp),L2.Same H H'->PL H' l ls rs->PGo ss tps rs->MxF ss tps rs->Q (.ref l) H')
inductive spCo(cw:Addr)(vs:List V)(H:Hp)(Q:VK)(E:XK):Prop|mk (x:Addr) (ss:LS) (ns:LN) (tps:LP) (_:vs=[.ref x]) (_:Wt cw H x ss ns tps) (_:∀(rs:LP) (H':Hp),L2.Same H H'->PGo ss tps rs->MxF ss tps rs->Q (.int rs.length) H')
def tB(tps:LP)(a b:Str):Bool:=decide ((a,b)∈tps)||decide ((b,a)∈tps)
theorem tB_iff:tB tps a b=true↔tA tps a b:=by
 unfold tB tA;rw[Xk,yR,yR]
def del(l:LS)(y:Str):LS:=l.filter λa=>!decide (a=y)
def mo(tps:LP):Nat->LS->Nat
 | 0,_=>0
 | _,[]=>0
 | n+1,x::r=>(r.filter (tB tps x)).foldl (λm y=>max m (1+mo tps n (del r y))) (mo tps n r)
theorem qbv(h:α->Nat):∀(L:List α) (i:Nat),i<=L.foldl (λm y=>max m (h y)) i/\(∀ y∈L,h y<=L.foldl (λm y=>max m (h y)) i)/\(L.foldl (λm y=>max m (h y)) i=i\/∃ y∈L,L.foldl (λm y=>max m (h y)) i=h y)
 | [],i=>⟨yh _,(λy hy=>by cases hy),.inl rfl⟩
 | a::r,i=>by
  obtain⟨h1,b,c⟩:=qbv h r (max i (h a));rw[List.foldl_cons];show⟨yi (Kj _ _) h1,λy hy=>?_,?_⟩
  .rcases yv.mp hy with rfl | hy
   .show yi (Nat.le_max_right _ _) h1
   .show b y hy
  .rcases c with z | ⟨y,hy,z⟩
   .rw [z];rcases Nat.le_total i (h a) with k | k
    .show .inr ⟨a,yL,Nat.max_eq_right k⟩
    .show .inl (Nat.max_eq_left k)
   .show .inr ⟨y,yE _ hy,z⟩
structure Mt(tps:LP)(l:LS)(f:Str->Option Str):Prop where
 sym:∀ a b,f a=some b->f b=some a
 tie:∀ a b,f a=some b->tA tps a b
 inn:∀ a b,f a=some b->a∈l
theorem qaw{f:Str->Option Str}{x:Str}:qbu f (x::r)=qbu f r+(if (f x).isSome=true then 1 else 0):=by
 unfold qbu;rw[Yc];split
 .rw [yB]
 .rfl
theorem qbX{f:Str->Option Str}{l:LS}(h:∀ s∈l,(f s).isSome=(g s).isSome):qbu f l=qbu g l:=by
 unfold qbu;rw[kc h]
theorem mem_del{l:LS}:a∈del l y↔a∈l/\a≠y:=by
 unfold del;rw[yq,Y6,xj]
theorem zY{f:Str->Option Str}:∀{r:LS},r.Nodup->y∈r->qbu f r=qbu f (del r y)+(if (f y).isSome=true then 1 else 0)
 | [],_,h=>by cases h
 | x::r,hn,h=>by
  obtain⟨d,g⟩:=yp.mp hn;by_cases e:x=y
  .subst e
   have:del (x::r) x=r:=by
    unfold del;rw[Yc,yF (by rw[yA rfl];decide)];show kC.mpr λa b=>by rw[ym (λz=>d (by rw[<- z];show b))];rfl
   rw[this,qaw]
  .have c:=(yv.mp h).resolve_left (Yh e);have:del (x::r) y=x::del r y:=by unfold del;rw[Yc,yG (by rw[ym e];rfl)]
   rw[this,qaw,qaw,zY g c];lk
theorem qbY(l:LS)(y:Str):(del l y).length<=l.length:=Yv _ _
section
variable{tps:LP}
theorem qbZ(i:∀ a b,tA tps a b->a≠b):∀(n:Nat) {l:LS} {f:Str->Option Str},l.length<=n->l.Nodup->Mt tps l f->qbu f l<=2*mo tps n l
 | n,[],f,_,_,_=>Yy _
 | 0,x::r,f,h,_,_=>by simp at h
 | n+1,x::r,f,h,hn,hf=>by
  obtain⟨A,o⟩:=yp.mp hn;have hl:r.length<=n:=by simpa using h
  obtain⟨B,v,_⟩:=qbv (λy=>1+mo tps n (del r y)) (r.filter (tB tps x)) (mo tps n r);rw[qaw];show _<=2*(r.filter (tB tps x)).foldl (λm y=>max m (1+mo tps n (del r y))) (mo tps n r)
  cases e:f x with
  | none =>
   have:=qbZ i n hl o (f:=f) ⟨hf.sym,hf.tie,λa b z=>(yv.mp (hf.inn a b z)).resolve_left λy=>by rw[y,e] at z;cases z⟩;simp only[kK,xL,XU];lk
  | some y =>
   have j:=i _ _ (hf.tie _ _ e);have d:=hf.sym _ _ e;have p:=(yv.mp (hf.inn y x d)).resolve_left (Yh j);have t:=v y (yq.mpr ⟨p,tB_iff.mpr (hf.tie _ _ e)⟩);have:=qbZ i n (l:=del r y) (f:=λa=>if a=x\/a=y then none else f a) (yi (qbY r y) hl) (o.filter _) ⟨λa b z=>?_,λa b z=>?_,λa b z=>?_⟩
   .rw [zY o p,d,qbX (g:=λa=>if a=x\/a=y then none else f a) λs u=>?_]
    .simp only[XI,Xy]
     (try dsimp only at t)
     lk
    .obtain⟨h1,q⟩:=mem_del.mp u;rw[yF (λz=>z.elim (λz=>A (by rw[<- z];show h1)) q)]
   ·(try dsimp only at z ⊢)
    split at z
    .cases z
    .rename_i hne
     have c:=hf.sym _ _ z;rw[yF (λw=>?_)]
     .show c
     .rcases w with w | w
      .rw [w,e] at c;show hne (.inr (yn c).symm)
      .rw [w,d] at c;show hne (.inl (yn c).symm)
   ·(try dsimp only at z)
    split at z
    .cases z
    .show hf.tie _ _ z
   ·(try dsimp only at z)
    split at z
    .cases z
    .rename_i hne
     have:=(yv.mp (hf.inn a b z)).resolve_left λw=>hne (.inl w);show mem_del.mpr ⟨this,λw=>hne (.inr w)⟩
theorem qct(p:∀ a b,tA tps a b->a≠b):∀(n:Nat) {l:LS},l.length<=n->l.Nodup->∃ f,Mt tps l f/\qbu f l=2*mo tps n l
 | n,[],_,_=>⟨λ_=>none,⟨(λa b z=>by cases z),(λa b z=>by cases z),(λa b z=>by cases z)⟩,by cases n<;>rfl⟩
 | 0,x::r,h,_=>by simp at h
 | n+1,x::r,h,hn=>by
  obtain⟨q,t⟩:=yp.mp hn;have hl:r.length<=n:=by simpa using h
  obtain⟨_,_,A⟩:=qbv (λy=>1+mo tps n (del r y)) (r.filter (tB tps x)) (mo tps n r);show ∃ f,_/\_=2*(r.filter (tB tps x)).foldl (λm y=>max m (1+mo tps n (del r y))) (mo tps n r);rcases A with z | ⟨y,j,z⟩
  .obtain⟨f,d,c⟩:=qct p n hl t;show⟨f,⟨d.sym,d.tie,λa b e=>yE _ (d.inn a b e)⟩,?_⟩
   have v:f x=none:=by
    cases e:f x with
    | none=>rfl
    | some b=>show absurd (d.inn _ _ e) q
   rw[qaw,v,z,c];rfl
  .obtain⟨j,ty⟩:=yq.mp j;have ty:=tB_iff.mp ty;have i:=p _ _ ty;obtain⟨f,d,c⟩:=qct p n (l:=del r y) (yi (qbY r y) hl) (t.filter _)
   have out:∀{a b:Str},f a=some b->a≠x/\a≠y:=λe=>by
    obtain⟨h1,o⟩:=mem_del.mp (d.inn _ _ e);show⟨λw=>q (by rw[<- w];show h1),o⟩
   show⟨λa=>if a=x then some y else if a=y then some x else f a,⟨λa b e=>?_,λa b e=>?_,λa b e=>?_⟩,?_⟩
   ·(try dsimp only at e ⊢)
    split at e
    .cases e;rename_i w;rw[yF (Yh i),yG rfl,w]
    .split at e
     .cases e;rename_i w;rw[yG rfl,w]
     .have es:=d.sym _ _ e;obtain⟨B,C⟩:=out es;rw[yF B,yF C];show es
   ·(try dsimp only at e)
    split at e
    .cases e;rename_i w;rw[w];show ty
    .split at e
     .cases e;rename_i w;rw[w];show Or.symm ty
     .show d.tie _ _ e
   ·(try dsimp only at e)
    split at e
    .rename_i w;rw[w];show yL
    .split at e
     .rename_i w;rw[w];show yE _ j
     .show yE _ (mem_del.mp (d.inn _ _ e)).1
   .rw [qaw,zY t j,yG rfl,yF (Yh i),yG rfl,qbX (g:=f) λs u=>?_]
    .simp only[XI,Xy];rw[c,z];lk
    .obtain⟨h1,o⟩:=mem_del.mp u;rw[yF (λw=>q (by rw[<- w];show h1)),yF o]
theorem qfS(e:∀ a b,tA tps a b->a≠b){l:LS}(h1:l.length<=n)(i:l.length<=m)(h:l.Nodup):mo tps n l=mo tps m l:=by
 obtain⟨f,j,c⟩:=qct e n h1 h;obtain⟨g,o,d⟩:=qct e m i h;have:=qbZ e m i h j;have:=qbZ e n h1 h o;lk
variable{ss:LS}{qs:LP}{S:FS}
theorem Mt.gr{f:Str->Option Str}(c:∀ a b,tA tps a b->a≠b)(h:Mt tps ss f):Gr (tA tps) f:=⟨λz=>Or.symm z,λz=>c _ _ z,λ{a b} e=>h.sym a b e,λ{a b} e=>h.tie a b e⟩
theorem PGo.mt(g:PGo ss tps qs):Mt tps ss (pt qs):=⟨g.fn.sym,g.fn.tie,λa b e=>by
 rcases qdY e with z | z
 .show(g.inn _ z).2.1
 .show(g.inn _ z).2.2.1⟩
theorem mx_mo(h:∀ a b,tA tps a b->a≠b)(e:ss.Nodup)(g:PGo ss tps qs)(m:MxF ss tps qs):qs.length=mo tps ss.length ss:=by
 obtain⟨S,F⟩:=m;have c:=g.cnt e;have:=qbZ h _ (yh _) e g.mt;obtain⟨f,j,d⟩:=qct h _ (yh _) e;have k:=F.most (j.gr h)
 have p:(ss.filter λu=>!(f u).isSome&&(S.rows u).isSome).length<=(snL f ss).length:=qc9 (e.filter _) λu l=>by
  obtain⟨h1,i⟩:=yq.mp l;show yq.mpr ⟨h1,((yO _ _).mp i).1⟩
 have n:=qcd (f:=f) (ss:=ss);have o:=qcd (f:=pt qs) (ss:=ss);lk
theorem mo_del_le(i:∀ a b,tA tps a b->a≠b)(j:ss.Nodup){v:Str}(hv:v∈ss):mo tps (del ss v).length (del ss v)<=mo tps ss.length ss/\mo tps ss.length ss<=mo tps (del ss v).length (del ss v)+1:=by
 constructor
 .obtain⟨f,d,c⟩:=qct i _ (yh _) (j.filter (λa=>!decide (a=v)))
  have n:f v=none:=by
   cases e:f v with
   | none=>rfl
   | some b=>show absurd rfl (mem_del.mp (d.inn _ _ e)).2
  have:=qbZ i _ (yh _) j (f:=f) ⟨d.sym,d.tie,λa b e=>(mem_del.mp (d.inn a b e)).1⟩;rw[zY j hv,n] at this;simp only[kK,xL,XU] at this;have t:qbu f (del ss v)=2*mo tps (del ss v).length (del ss v):=c;lk
 .obtain⟨f,d,c⟩:=qct i _ (yh _) j;have h:(del ss v).Nodup:=j.filter _;rw[zY j hv] at c
  cases e:f v with
  | none =>
   have:=qbZ i _ (yh _) h (f:=f) ⟨d.sym,d.tie,λa b z=>mem_del.mpr ⟨d.inn a b z,λw=>by rw[w,e] at z;cases z⟩⟩;rw[e] at c;simp at c;lk
  | some y =>
   have m:=d.sym _ _ e;have o:=i _ _ (d.tie _ _ e);have p:y∈del ss v:=mem_del.mpr ⟨d.inn _ _ m,Yh o⟩;have:=qbZ i _ (yh _) h (f:=λa=>if a=v\/a=y then none else f a) ⟨λa b z=>?_,λa b z=>?_,λa b z=>?_⟩
   .rw [zY h p,yG (show y=v\/y=y from .inr rfl)] at this;rw[zY h p,e,m,qbX (g:=λa=>if a=v\/a=y then none else f a) λs r=>?_] at c
    .simp at c this;lk
    .obtain⟨h1,q⟩:=mem_del.mp r;rw[yF (λz=>z.elim (λz=>(mem_del.mp h1).2 z) q)]
   ·(try dsimp only at z ⊢)
    split at z
    .cases z
    .rename_i hne
     have l:=d.sym _ _ z;rw[yF (λw=>?_)]
     .show l
     .rcases w with w | w
      .rw [w,e] at l;show hne (.inr (yn l).symm)
      .rw [w,m] at l;show hne (.inl (yn l).symm)
   ·(try dsimp only at z)
    split at z
    .cases z
    .show d.tie _ _ z
   ·(try dsimp only at z)
    split at z
    .cases z
    .rename_i hne
     show mem_del.mpr ⟨d.inn a b z,λw=>hne (.inl w)⟩
theorem mx_loose(x:∀ a b,tA tps a b->a≠b)(o:ss.Nodup)(g:PGo ss tps qs)(F:Fn (tA tps) (pt qs) S ss){v:Str}(hv:v∈ss):mo tps (del ss v).length (del ss v)=mo tps ss.length ss↔S.rows v≠none:=by
 have cm:=mx_mo x o g ⟨S,F⟩;have c:=g.cnt o;have y:(del ss v).Nodup:=o.filter _;constructor
 .intro e J;obtain⟨f,l,d⟩:=qct x _ (yh _) y
  have q:f v=none:=by
   cases e:f v with
   | none=>rfl
   | some b=>show absurd rfl (mem_del.mp (l.inn _ _ e)).2
  have U:Mt tps ss f:=⟨l.sym,l.tie,λa b e=>(mem_del.mp (l.inn a b e)).1⟩;have k:=F.most (U.gr x);have Z:qbu f ss=qbu f (del ss v):=by rw[zY o hv,q];rfl
  have e1:=qcd (f:=f) (ss:=ss);have e2:=qcd (f:=pt qs) (ss:=ss);have B:v∈snL f ss:=mem_sn.mpr ⟨hv,q⟩
  have W:(ss.filter λu=>!(f u).isSome&&(S.rows u).isSome).length<=((snL f ss).erase v).length:=qc9 (o.filter _) λu I=>by
   obtain⟨h1,D⟩:=yq.mp I;obtain⟨P,L⟩:=(yO _ _).mp D;show(Xs (λz=>by rw[z,J] at L;cases L)).mpr (yq.mpr ⟨h1,P⟩)
  rw[YN B] at W;have:=YF B;lk
 .intro G;obtain⟨r,G⟩:=some_of G;have m:=F.fi.alt v r G;show xT (mo_del_le x o hv).1 ?_
  suffices h:∃ f,Mt tps ss f/\f v=none/\qbu f ss=qbu (pt qs) ss by
   obtain⟨f,l,C,K⟩:=h;have:=qbZ x _ (yh _) y (f:=f) ⟨l.sym,l.tie,λa b e=>mem_del.mpr ⟨l.inn a b e,λw=>by rw[w,C] at e;cases e⟩⟩;rw[zY o hv,C] at K;simp only[kK,xL,XU] at K;lk
  obtain⟨r0,N⟩:=m.tl;have j:r[r.length-1]?=some v:=by rw[N,yu];simp
  have ho:=m.odd;by_cases h1:r.length=1
  .rw [h1] at j;show⟨pt qs,g.mt,m.hd v j,rfl⟩
  .have D:2<=r.length:=by lk
   have lst:∀ s t,r[r.length-1]?=some s->r[r.length-2]?=some t->pt qs s=some t:=λs t A H=>by
    have:=(m.st (r.length-2) t s H (by rw[show r.length-2+1=r.length-1 by lk];show A)).2.mpr (by lk);show g.fn.sym _ _ this
   have T:=qce g.fn.sym m.nd D m.st m.hd λs t A H=>.inr (lst s t A H);obtain⟨f,l⟩:=qeL T;have p:=qeM (ss:=ss) T g.fn (qc2 m.st) l;have inn:∀{a b:Str},tA tps a b->a∈ss:=λz=>F.inn _ _ z
   have E:∀ s∈r,s∈ss:=λs A=>by
    obtain⟨i,n⟩:=yf A;have R:=(yc.mp n).1;by_cases O:i+1<r.length
    .show inn (m.st i s _ n (yb O)).1
    .rw [show i=r.length-1 by lk,j] at n;rw[<- yn n];show hv
   obtain⟨u,I⟩:∃ u,r[r.length-2]?=some u:=⟨_,yb (by lk)⟩;obtain⟨a,M⟩:∃ a,r[0]?=some a:=⟨_,yb (by lk)⟩
   have C:f v=none:=by
    cases e:f v with
    | none=>rfl
    | some b =>
     rcases(l v b).mp e with⟨z,_⟩ | ⟨X,Y⟩
     .show absurd (ye j) z
     .rcases X.at_ m.nd j with w | ⟨_,w⟩
      .have:=(yc.mp w).1;lk
      .rw [show r.length-1-1=r.length-2 by lk] at w;show absurd (lst v b j w) Y
   show⟨f,⟨p.sym,p.tie,λa b e=>inn (p.tie a b e)⟩,C,?_⟩;have:=qd2 T l o E M j;rw[m.hd a M,lst v u j I] at this;simp at this;show this
end
theorem u7:FnScope wqv wqv (qh qbw):=fS
theorem u3:FnScope wqJ wqJ (qh qaR):=fS
theorem K3:FnScope ["_law_purse_here","_law_many_here","_law_digit","_law_number"] wh (qh qbx):=fS
theorem u8:FnScope wqh wqh (qh qby):=fS
inductive spCe(K:W.Frag)(vs:List V)(H:Hp)(Q:VK)(E:XK):Prop|mk (a:Addr) (ns:LY) (k:Nat) (_:vs=[.ref a,.int (k:Int)]) (_:SqL K H a (ns.map V.int)) (_:k<1000) (_:∀ i:Int,Q (.int i) H)
def Pu(H:Hp)(p:Addr):Prop:=∃ a b c:Int,H p=some (.lst [.int a,.int b,.int c])/\0<=a/\0<=b/\b<2147483629/\0<=c
inductive spPu(vs:List V)(H:Hp)(Q:VK)(E:XK):Prop|mk (c:Int) (_:vs=[.int c]) (_:∀(p:Addr) (H':Hp),L2.Same H H'->H p=none->Pu H' p->Q (.ref p) H')
inductive spTkP(vs:List V)(H:Hp)(Q:VK)(E:XK):Prop|mk (p:Addr) (m:Nat) (_:vs=[.ref p,.int (m:Int)]) (_:Pu H p) (_:0<m) (_:m<1000) (_:∀(d:Nat) (H':Hp),d<m->But p H H'->Pu H' p->Q (.int (d:Int)) H')
inductive spMyP(vs:List V)(H:Hp)(Q:VK)(E:XK):Prop|mk (p:Addr) (m:Nat) (_:vs=[.ref p,.int (m:Int)]) (_:Pu H p) (_:m<=14) (_:∀(d:Nat) (H':Hp),d<=max 8 m->But p H H'->Pu H' p->Q (.int (d:Int)) H')
theorem But.trans7(a:But p H H1)(b:But p H1 H2):But p H H2:=λc o n e=>b c o n (a c o n e)
theorem But.new7(a:But p H H1)(hl:H1 l=none):But p H (upd H1 l o):=λc u n e=>by
 have:=a c u n e;have ne:c≠l:=λz=>by rw[z,hl] at this;cases this
 rw[qg ne];show this
theorem But.free7(a:But p H H1)(b:l≠p)(hl:H1 l=none):H l=none:=by
 cases e:H l with
 | none=>rfl
 | some o=>rw[a l o b e] at hl;cases hl
abbrev iV(k:Nat):V:=.int (k:Int)
theorem ok_ce(F:Fun K "_law_cell" "_law_cell" qbw f fd)(T:Txt K mg cc cw):wqP 1 f fd wqv (spCe K):=by
 show F.ok u7 λ_ _ _ _ H vs Q E d h=>?_
 .obtain⟨a,ns,k,rfl,b,h1,q⟩:=h;have e:=ze d;show⟨_,(qc (qI (qj qfI (pv 1) (qr (zg (K:=K) rfl) rfl T.b_len YQ (qa (pv 0) qd)) (qy _)) (qe (qq (qo (qp (K:=K) rfl e) (pv 0) (pv 1) (λ_ _=>rfl)))) qw)
 (qe (qq (qt (je (K:=K) rfl) (qt qcR qf (pv 1)) qf)))),?_⟩
  apply vLenLs b ?_;rw[ya];ext;by_cases c:k<ns.length
  .rw [yA (show(k:Int)<(ns.length:Int) by lk)];show zd ?_;apply .inl (vIxLs b (v:=.int ns[k]) (qk (by rw[yd,yb c];rfl)) ?_);show q _
  .rw [ym (show ¬ (k:Int)<(ns.length:Int) by lk)];show yr ?_;apply qcS (.inl ⟨by decide,by decide⟩) ?_;apply q _
theorem ok_pu(F:Fun K "_law_purse" "_law_purse" qaR f fd)(T:Txt K mg cc cw):wqP 1 f fd wqJ spPu:=by
 show F.ok u3 λ_ _ _ _ H vs Q E d h=>?_
 .obtain⟨c,rfl,q⟩:=h;show⟨_,(qe (qq (qB (qa (qr (qbJ rfl) rfl T.b_max boot_max (qa qf (qa (qt qbi (pv 0) (qt op_pow qf qf)) qd))) (qa (qt zw (pv 0) qf) (qa qf qd)))))),?_⟩;apply vI ⟨by decide,by decide,by decide⟩ ?_;apply⟨_,_,rfl,?_⟩;apply vI (by decide) ?_;apply⟨wqT,λp a=>?_⟩;have h1:=XH c (show(2147483629:Int)≠0 by decide);have b:=Xi c (show(0:Int)<2147483629 by decide);show q p _ (qz (Sr H) a) a ⟨_,_,_,qb,by split<;>lk,h1,b,by decide⟩
theorem ok_tkp(F:Fun K "_law_take" "_law_take" qbx f fd)(T:Txt K mg cc cw):wqP 1 f fd wh spTkP:=by
 show F.ok K3 λ_ _ _ _ H vs Q E R h=>?_
 .obtain⟨p,m,rfl,⟨a,b,c,I,A,hb,j,hc⟩,U,h1,q⟩:=h;have g:=ze R;have l:(0:Int)<(m:Int):=by lk
  show⟨_,(qc (jN (qt (je (K:=K) rfl) (qo (qp (K:=K) rfl g) (pv 0) qf (λ_ _=>rfl)) qf) (jM (pv 0) qf (jQ g)))
 (qc (qI (qj qej (qo (qp (K:=K) rfl g) (pv 0) qf (λ_ _=>rfl)) qf (qy _)) (qc (qm (i:=2) K3.nd rfl (yK rfl) (qt zw (qo (qp (K:=K) rfl g) (pv 0) qf (λ_ _=>rfl)) (pv 1)))
 (qc (jN (qt qei (qo (qp (K:=K) rfl g) (pv 0) qf (λ_ _=>rfl)) (pv 1)) (jM (pv 0) qf (jQ g)))
 (qe (qq (pv 2))))) qw)
 (qc (qm (i:=3) K3.nd rfl (yK rfl) (qt zw (qt (je (K:=K) rfl) (qt (je (K:=K) rfl) (qt qcR (qo (qp (K:=K) rfl g) (pv 0) qf (λ_ _=>rfl)) qf) (qt qcR qf (qo (qp (K:=K) rfl g) (pv 0) qf (λ_ _=>rfl)))) qf) qf))
 (qc (qm (i:=3) K3.nd rfl (yK rfl) (qt zw (qt qcR (pv 3) (pv 3)) qf))
 (qc (qm (i:=3) K3.nd rfl (yK rfl) (qt zw (qt qcR (qt (je (K:=K) rfl) (pv 3) (qt qcR qf (qo (qp (K:=K) rfl g) (pv 0) qf (λ_ _=>rfl)))) qf) qf))
 (qe (qq (qt zw (qt qei (qt zw (qt qcR (pv 3) (pv 3)) qf) qf) (pv 1))))))))),?_⟩
  apply .inl (j9 I rfl ?_);apply .inl (qee I rfl ?_);have y:But p H (upd H p (.lst [.int a,.int b,.int (c+1)])):=λx o n e=>by rw[qg n];show e
  have d:upd H p (.lst [.int a,.int b,.int (c+1)]) p=some (.lst [.int a,.int b,.int (c+1)]):=qb;have M:upd H p (.lst (([V.int a,.int b,.int c]).set (2:Int).toNat (.int (c+1))))=upd H p (.lst [.int a,.int b,.int (c+1)]):=rfl;ext;rw[M];generalize upd H p (.lst [.int a,.int b,.int (c+1)])=H1 at y d;show .inl (j9 d rfl ?_);apply qL (λN=>?_) (λN=>?_)
  .ext;show .inl (j9 d rfl ?_);apply vI l ?_;apply .inl (j9 d rfl ?_);apply vI ⟨l,by lk⟩ ?_;apply .inl (qee d rfl ?_);ext;have J:=XH a (show(m:Int)≠0 by lk);have L:=Xi a l;have z:a % (m:Int)=(((a % (m:Int)).toNat:Nat):Int):=by lk
   rw[z];show q _ _ (by lk) (λx o n e=>by rw[qg n];show y x o n e) ⟨_,_,_,qb,Int.ediv_nonneg A (by lk),hb,j,by lk⟩
  .ext;show .inl (j9 d rfl ?_);apply qcS (.inr ⟨by decide,by decide⟩) ?_;apply .inl (j9 d rfl ?_);apply qcS (.inl ⟨by decide,by decide⟩) ?_;apply vI (by decide) ?_;ext;generalize r:(b*48271+7919*(c+1)+11) % 2147483647=t;have B:0<=t:=by rw[<- r];show XH _ (by decide)
   have C:t<2147483647:=by rw[<- r];show Xi _ (by decide)
   show qcS (.inl ⟨by lk,by lk⟩) ?_;apply vI (by decide) ?_;ext;generalize O:t*t % 2147483629=S;show .inl (j9 d rfl ?_);apply qcS (.inl ⟨by decide,by decide⟩) ?_;apply qcS (.inr ⟨by decide,by decide⟩) ?_;apply vI (by decide) ?_;ext;generalize s:(S+31*(c+1))*69621 % 2147483587=u;have D:0<=u:=by rw[<- s];show XH _ (by decide)
   have G:u<2147483587:=by rw[<- s];show Xi _ (by decide)
   show qcS (.inl ⟨by lk,by lk⟩) ?_;apply vI (by decide) ?_;apply vI ⟨by decide,by decide⟩ ?_;apply vI l ?_;generalize u*u % 2147483579 / 8=v;have J:=XH v (show(m:Int)≠0 by lk);have L:=Xi v l;have z:v % (m:Int)=(((v % (m:Int)).toNat:Nat):Int):=by lk
   rw[z];show q _ _ (by lk) y ⟨_,_,_,d,A,hb,j,by lk⟩
theorem ok_my(F:Fun K "_law_many" "_law_many" qby f fd)(T:Txt K mg cc cw)(A:wqN 1 "_law_take" wh spTkP):wqP 2 f fd wqh spMyP:=by
 show F.ok u8 λ_ _ _ _ H vs Q E s h=>?_
 .obtain⟨p,m,rfl,N,W,q⟩:=h;have R:=ze s;show⟨_,(qe (qq (qx A (hmR s) qF (qa (pv 0) (qa (qo (qp (K:=K) rfl R) (qB (qa qf (qa qf (qa qf (qa qf (qa qf (qa qf (qa qf (qa (qt (je (K:=K) rfl) (pv 1) qf) qd))))))))) (qx A (hmR s) qF (qa (pv 0) (qa qf qd))) (λ_ _=>rfl)) qd))))),?_⟩;ext;obtain⟨a,b,c,G,t⟩:=id N;show⟨by show 8<=sizeLine;decide,λe g=>?_⟩;have j:p≠e:=λz=>by rw[<- z,G] at g;cases g
  obtain⟨xs,i⟩:∃ xs:LN,xs=[3,5,7,8,8,9,9,m+1]:=⟨_,rfl⟩;have B:But p H (upd H e (.lst (xs.map iV))):=But.new7 (λx o _ z=>z) g;have D:upd H e (.lst (xs.map iV)) e=some (.lst (xs.map iV)):=qb;have hB1:Pu (upd H e (.lst (xs.map iV))) p:=⟨a,b,c,by rw[qg j];show G,t⟩;have M:upd H e (.lst [V.int 3,.int 5,.int 7,.int 8,.int 8,.int 9,.int 9,.int ((m:Int)+1)])=upd H e (.lst (xs.map iV)):=by rw[i];rfl
  have u:∀ x∈xs,0<x/\x<=max 8 m+1:=λx l=>by
   rw[i] at l;simp only[yv,yJ,Yo] at l;lk
  have S:xs.length=8:=by rw[i];rfl
  rw[M];generalize upd H e (.lst (xs.map iV))=H1 at B D hB1;apply⟨p,8,rfl,hB1,by decide,by decide,λd H2 U C n=>?_⟩;obtain⟨x,l⟩:∃ x,xs[d]?=some x:=⟨_,yb (by lk)⟩;have y:=u x (ye l);show .inl (j9 (C _ _ j.symm D) (v:=iV x) (qk (by rw[yd,l];rfl)) ?_);apply⟨p,x,rfl,n,y.1,by lk,λL I O J r=>q L I (by lk) ((B.trans7 C).trans7 J) r⟩
theorem KA:FnScope wP wh (qh qaj):=fS
theorem qak{X:L2.Cx}{st:List PySem.Stmt}{t:L2.TS}(t':L2.TS)(h:L2.PSs X st t)(k:∀ D σ H,t' D σ H->t D σ H):L2.PSs X st t':=λa s σ H D I q=>h a s σ H D I (k D σ H q)
def stepsJ:LN:=[1,3,5,7,9,11]
def cJ(first step j:Nat):Nat:=97+(first+step*j) % 26
theorem cJ_sg(first step j:Nat):sg (cJ first step j)=true:=by unfold cJ;show qgn (by lk) (by lk)
theorem qfA{step:Nat}(a:step∈stepsJ){k:Nat}(b:j<14)(c:k<14)(e:cJ first step j=cJ first step k):j=k:=by
 unfold cJ at e;simp only[stepsJ,yv,yJ,Yo] at a;rcases a with rfl | rfl | rfl | rfl | rfl | rfl<;>lk
def NmJ(a first step j:Nat)(s:Str):Prop:=jf s=true/\if a=2 then s.cps.toList.head?=some (cJ first step j) else s.cps.toList.getLast?=some (cJ first step j)
theorem NmJ.inj{a step:Nat}(f:step∈stepsJ){k:Nat}(d:j<14)(e:k<14)(h:NmJ a first step j s)(g:NmJ a first step k s):j=k:=by
 have c:=h.2;have b:=g.2;by_cases hw:a=2
 .rw [yG hw] at c b;rw[c] at b;show qfA f d e (yn b)
 .rw [yF hw] at c b;rw[c] at b;show qfA f d e (yn b)
theorem zG(a b:Int):(if false=true then !eqV (V.int a) (V.int b) else eqV (V.int a) (V.int b))=decide (a=b):=by
 rw[yF (by decide)];unfold eqV;by_cases h:a=b<;>simp[h]
inductive spNmJ(vs:List V)(H:Hp)(Q:VK)(E:XK):Prop|mk (p:Addr) (m:Nat) (_:vs=[.ref p,.int (m:Int)]) (_:Pu H p) (_:m<=14) (_:∀(l:Addr) (ss:LS) (H':Hp),But p H H'->Pu H' p->H l=none->l≠p->H' l=some (.lst (ss.map V.str))->NOk ss->ss.length=m->Q (.ref l) H')
theorem Pu.new(h:Pu H p)(hl:H l=none):Pu (upd H l o) p:=by
 obtain⟨a,b,c,e,r⟩:=h;have ne:p≠l:=λz=>by rw[<- z,e] at hl;cases hl
 show⟨a,b,c,by rw[qg ne];show e,r⟩
theorem Pu.apart(h:Pu H p)(hl:H l=none):l≠p:=λz=>by obtain⟨a,b,c,e,r⟩:=h;rw[z,e] at hl;cases hl
theorem ok_nmJ(F:Fun K "_law_names" "_law_names" qaj f fd)(T:Txt K mg cc cw)(Ks:wqN 1 "_law_take" wh spTkP):wqP 2 f fd wh spNmJ:=by
 show F.ok KA λ_ _ _ s H vs Q E hr h=>?_
 .obtain⟨p,m,rfl,hB,hm,q⟩:=h;have hu:=ze hr;obtain⟨TC5,U⟩:∃ t:TS,t=λD σ H'=>(∀ u H',Q u H'->D.rt u H')/\∃(x7 W X:Option V) (b first step:Nat) (a:Str),σ=[some (.ref p),some (.int (m:Int)),some (.str L26),some (.int (first:Int)),some (.int (step:Int)),some (.int (b:Int)),some (.str a),x7,W,X]/\But p H H'/\Pu H' p/\step∈stepsJ/\a.length=5/\a.cps.toList.all sg=true:=⟨_,rfl⟩;show⟨_,(qc (qm (i:=2) KA.nd rfl (XC rfl) jJ)
 (qc (qm (i:=3) KA.nd rfl (yK rfl) (qx Ks (hmR hr) qF (qa (pv 0) (qa qf qd))))
 (qc (qm (i:=4) KA.nd rfl (yK rfl) (qo (qp (K:=K) rfl hu) (qB (qa qf (qa qf (qa qf (qa qf (qa qf (qa qf qd))))))) (qx Ks (hmR hr) qF (qa (pv 0) (qa qf qd))) (λ_ _=>rfl)))
 (qc (qm (i:=5) KA.nd rfl (yK rfl) (qx Ks (hmR hr) qF (qa (pv 0) (qa qf qd))))
 (qc (qm (i:=6) KA.nd rfl (yK rfl) (qaX (K:=K) rfl PySem.F.plainAttrs_str PySem.F.slot_str_join PySem.F.type_str_join (k_join (K:=K) rfl) jJ (qa (jG (sc:=qh qaj) (XN:=wP) wqA 1 [2,0] rfl rfl rfl (by room) rfl (by room)
  (jz rfl T.b_range (qa qf qd)) (λ_ _ _ _=>(qu (i:=0) (show(wqA:LS).Nodup by room) rfl (yK rfl))) jF
  (λ_ _ _ _=>jP)
  (λ_ _ _ _=>(qo (qp (K:=K) rfl hu) (pv 1) (qx Ks (hmR hr) qF (qa (pv 2) (qa qf qd))) (λ_ _=>rfl)))) qd)))
 (qak TC5 (qc (qm (i:=7) KA.nd rfl (yK rfl) (qB qd))
 (qc (qX yT rfl (jz rfl T.b_range (qa (pv 1) qd)) (qu (i:=8) KA.nd rfl (yK rfl))
 (qc (qm (i:=9) KA.nd rfl (yK rfl) (qo (qp (K:=K) rfl hu) (pv 2) (qt zw (qt (je (K:=K) rfl) (pv 3) (qt qcR (pv 4) (pv 8))) qf) (λ_ _=>rfl)))
 (qe (qI (qj (zn (K:=K) rfl hu) (pv 5) qf (qy _)) (qe (qE (qaX (K:=K) rfl yI yZ Yb qK (pv 7) (qa (pv 9) qd)))) (qe (qI (qj (zn (K:=K) rfl hu) (pv 5) qf (qy _)) (qe (qE (qaX (K:=K) rfl yI yZ Yb qK (pv 7) (qa (qt (je (K:=K) rfl) (qZ (qc8 (K:=K) rfl) (pv 6) jw (jk qf)) (pv 9)) qd)))) (qe (qI (qj (zn (K:=K) rfl hu) (pv 5) qf (qy _)) (qe (qE (qaX (K:=K) rfl yI yZ Yb qK (pv 7) (qa (qt (je (K:=K) rfl) (pv 9) (qZ (qc8 (K:=K) rfl) (pv 6) jw (jk (qt zw (pv 8) qf)))) qd)))) (qe (qE (qaX (K:=K) rfl yI yZ Yb qK (pv 7) (qa (qt (je (K:=K) rfl) (qZ (qc8 (K:=K) rfl) (pv 6) jw (jk (qt zw (pv 8) qf))) (pv 9)) qd))))))))))))
 (qe (qq (pv 7))))) ?cut5)))))),?_⟩
  case cut5 =>
   intro D σ H1 h;rw[U] at h;obtain⟨hD,x7,W,X,b,first,step,a,rfl,b1,hB1,M,g,y⟩:=h;have lS:a.cps.toList.length=5:=by rw[<- g];simp[Str.length]
   have ac:∀ k,(a.cps.toList.take k).all sg=true:=λk=>YY.mpr λc hc=>YY.mp y c (List.mem_of_mem_take hc)
   have af:∀ k:Nat,(Txt.slice a none (some (k:Int))).length=min k 5:=λk=>by
    have:(Txt.slice a none (some (k:Int))).length=(Txt.slice a none (some (k:Int))).cps.toList.length:=by simp[Str.length]
    rw[this,qbb,yU,lS]
   have au:0<step/\step<=11:=by
    have h:=M;simp only[stepsJ,yv,yJ,Yo] at h;lk
   apply⟨wqQ,λl hl=>?_⟩;have ae:=hB1.apart hl;apply⟨(m:Int),rfl,by lk,by lk,?_⟩;rw[yV];show jO (lo:=0) (n:=m) (λi σ H'=>∃(ss:LS) (W X:Option V),σ=[some (.ref p),some (.int (m:Int)),some (.str L26),some (.int (first:Int)),some (.int (step:Int)),some (.int (b:Int)),some (.str a),some (.ref l),W,X]/\H'=upd H1 l (.lst (ss.map V.str))/\ss.length=i/\∀(j:Nat) s,ss[j]?=some s->NmJ b first step j s) ⟨[],_,_,rfl,rfl,rfl,λj s h=>by simp at h⟩ (λi σ H' hi hp=>?_) fun σ H' hp=>?_
   .obtain⟨ss,W,X,rfl,rfl,I,L⟩:=hp;have A:upd H1 l (.lst (ss.map V.str)) l=some (.lst (ss.map V.str)):=qb;rw[XA];apply qcS (.inl ⟨by lk,by lk⟩) ?_;apply vI (by decide) ?_;have ec:((first:Int)+(step:Int)*(i:Int)) % 26=(((first+step*i) % 26:Nat):Int):=by lk
    rw[ec];show .inl (qg2 (by room) (qfy (by lk) (by lk)) ?_);rw[yV];have ak:97+(first+step*i) % 26=cJ first step i:=rfl;rw[ak];have N:=cJ_sg first step i;generalize R:cJ first step i=B at N
    have O:∀(s:Str),NmJ b first step i s->∃(aa:LS) (W X:Option V),[some (V.ref p),some (.int (m:Int)),some (.str L26),some (.int (first:Int)),some (.int (step:Int)),some (.int (b:Int)),some (.str a),some (.ref l),some (.int (i:Int)),some (V.str ⟨#[B]⟩)]=[some (.ref p),some (.int (m:Int)),some (.str L26),some (.int (first:Int)),some (.int (step:Int)),some (.int (b:Int)),some (.str a),some (.ref l),W,X]/\upd (upd H1 l (.lst (ss.map V.str))) l (.lst (ss.map V.str++[.str s]))=upd H1 l (.lst (aa.map V.str))/\aa.length=i+1/\∀(j:Nat) s,aa[j]?=some s->NmJ b first step j s:=λs hs=>by
     show⟨ss++[s],_,_,rfl,?_,by rw[yu,I];rfl,λj s' G=>?_⟩
     .rw [yC];funext c;by_cases hc:c=l
      .subst hc;rw[qb,qb];rfl
      .rw [qg hc,qg hc,qg hc]
     .by_cases al:j<ss.length
      .rw [yX al] at G;show L j s' G
      .rw [yH (by lk)] at G
       have e0:j-ss.length=0:=by
        have:=(yc.mp G).1;simp only[yB,Yk] at this;lk
       rw[e0] at G;cases G;have:j=i:=by lk
       rw[this];show hs
    have C:(ss.map V.str).length<sizeLine:=by rw[ya];show qv (by lk)
    apply .inl (.inl (.inl ⟨rfl,rfl,?_⟩));rw[zG];apply qL (λh=>?_) (λh=>?_)
    .have hw:(b:Int)=0:=yk h;apply⟨.inl ⟨rfl,_,.of A⟩,?_⟩;apply⟨l,_,_,rfl,rfl,A,C,?_⟩;show O _ ⟨qbs rfl (by simp) (by simp) (by simp[N]),?_⟩;rw[yF (by lk),R];rfl
    .have av:(b:Int)≠0:=λe=>h (yA e);apply .inl (.inl (.inl ⟨rfl,rfl,?_⟩));rw[zG];apply qL (λh=>?_) (λh=>?_)
     .have hw:(b:Int)=1:=yk h;apply⟨.inl ⟨rfl,_,.of A⟩,?_⟩;apply qgN (yi (XT g) (by decide)) ?_;have h2:=af 2;have t2:=qbb a 2;rw[show((2:Nat):Int)=2 from rfl] at h2 t2;apply qfM (by rw[h2];show _+1<=sizeLine;show yS (qv (by lk))) ?_;apply⟨l,_,_,rfl,rfl,A,C,?_⟩;have S:(Txt.slice a none (some 2)++(⟨#[B]⟩:Str)).cps.toList=a.cps.toList.take 2++[B]:=by rw[qaQ,t2]
      show O _ ⟨qbs S (by simp) (by simp[lS]) (by rw[kz,ac];simp[N]),?_⟩;rw[yF (by lk),R,S,Xu];rfl
     .have aw:(b:Int)≠1:=λe=>h (yA e);apply .inl (.inl (.inl ⟨rfl,rfl,?_⟩));rw[zG];ext;have e6:(i:Int) % 6=((i % 6:Nat):Int):=by lk
      have h6:=af (i % 6);have t6:=qbb a (i % 6);show qL (λh=>?_) (λh=>?_)
      .have hw:(b:Int)=2:=yk h;apply⟨.inl ⟨rfl,_,.of A⟩,?_⟩;apply vI (by decide) ?_;apply qgN (yi (XT g) (by decide)) ?_;rw[e6];show qfM (by rw[h6];show 1+_<=sizeLine;show yS (qv (by lk))) ?_;apply⟨l,_,_,rfl,rfl,A,C,?_⟩;have S:((⟨#[B]⟩:Str)++Txt.slice a none (some ((i % 6:Nat):Int))).cps.toList=B::a.cps.toList.take (i % 6):=by rw[qaQ,t6];rfl
       show O _ ⟨qbs S (by simp) (by simp[lS];lk) (by rw[ki,ac,N];rfl),?_⟩;rw[yG (by lk),R,S];rfl
      .have ax:(b:Int)≠2:=λe=>h (yA e);apply⟨.inl ⟨rfl,_,.of A⟩,?_⟩;apply vI (by decide) ?_;apply qgN (yi (XT g) (by decide)) ?_;rw[e6];apply qfM (by rw[h6];show _+1<=sizeLine;show yS (qv (by lk))) ?_;apply⟨l,_,_,rfl,rfl,A,C,?_⟩;have S:(Txt.slice a none (some ((i % 6:Nat):Int))++(⟨#[B]⟩:Str)).cps.toList=a.cps.toList.take (i % 6)++[B]:=by rw[qaQ,t6]
       show O _ ⟨qbs S (by simp) (by simp[lS];lk) (by rw[kz,ac];simp[N]),?_⟩;rw[yF (by lk),R,S,Xu];rfl
   .obtain⟨ss,W,X,rfl,rfl,I,L⟩:=hp;apply hD _ _ (q l ss _ (b1.new7 hl) (hB1.new hl) (b1.free7 ae hl) ae qb ⟨by lk,nodup_key λj k s G hk=>?_,λs hs=>?_⟩ I)
    .have aq:j<ss.length:=(yc.mp G).1;have ar:k<ss.length:=(yc.mp hk).1;show NmJ.inj M (by lk) (by lk) (L j s G) (L k s hk)
    .obtain⟨j,G⟩:=yf hs;show(L j s G).1
  apply⟨p,26,rfl,hB,by decide,by decide,λfirst H1 hf b1 hB1=>?_⟩;apply⟨by show 6<=sizeLine;decide,λm2 Z=>?_⟩;have am:=hB1.apart Z;have b2:=b1.new7 (o:=.lst (stepsJ.map iV)) Z;have em:upd H1 m2 (.lst (stepsJ.map iV)) m2=some (.lst (stepsJ.map iV)):=qb;have ad:Pu (upd H1 m2 (.lst (stepsJ.map iV))) p:=hB1.new Z;have eu:upd H1 m2 (.lst [V.int 1,V.int 3,V.int 5,V.int 7,V.int 9,V.int 11])=upd H1 m2 (.lst (stepsJ.map iV)):=rfl;rw[eu];generalize upd H1 m2 (.lst (stepsJ.map iV))=H2 at b2 em ad;apply⟨p,6,rfl,ad,by decide,by decide,λd H3 hd b3 ah=>?_⟩;obtain⟨st,M⟩:∃ st,stepsJ[d]?=some st:=⟨_,yb hd⟩;show .inl (j9 (b3 _ _ am em) (v:=iV st) (qk (by rw[yd,M];rfl)) ?_);apply⟨p,4,rfl,ah,by decide,by decide,λb H4 hw b4 ai=>?_⟩;have ag:=(b2.trans7 b3).trans7 b4;apply⟨rfl,?_⟩;apply⟨5,rfl,by decide,by decide,qas (lo:=0) (n:=5) (λi ys J=>But p H J/\Pu J p/\∃ xs:LS,ys=xs.map V.str/\xs.length=i/\∀ x∈xs,x.length=1/\x.cps.toList.all sg=true) ⟨ag,ai,[],rfl,rfl,λ_ h=>by cases h⟩ (λi ys J hi hs=>?_) λys J hs=>?_⟩
  .obtain⟨bJ,Y,xs,rfl,ao,an⟩:=hs;apply zd ?_;apply⟨p,26,rfl,Y,by decide,by decide,λr J2 as b5 aj=>?_⟩;show .inl (qg2 (by room) (qfy (by lk) (by lk)) ?_);show⟨by rw[ya];show qv (by lk),bJ.trans7 b5,aj,xs++[_],by rw[yC];rfl,by rw[yu,ao];rfl,λx hx=>?_⟩;rcases yw.mp hx with z | z
   .show an x z
   .rw [yx.mp z];show⟨rfl,?_⟩;have:=qgn (c:=97+r) (by lk) (by lk);simp[this]
  .obtain⟨bJ,Y,zs,rfl,hn,h1⟩:=hs;show⟨by rw[ya,hn];decide,λl5 h5=>?_⟩;apply⟨_,l5,zs,rfl,rfl,SqL.of qb,by rw[sum_ones λx hx=>(h1 x hx).1,show("":Str).length=0 by room];lk,?_⟩;have g:(Txt.join "" zs).length=5:=by rw[join_len λx hx=>(h1 x hx).1];lk
   have y:(Txt.join "" zs).cps.toList.all sg=true:=by
    have e:Txt.join "" zs=Str.join "" zs:=Yl.mp (join_plain_closes "" zs);rw[e];show qdX λx hx=>(h1 x hx).2
   generalize Txt.join "" zs=a at g y ⊢;ext;rw[U];show⟨λ_ _ z=>z,_,_,_,b,first,st,a,rfl,bJ.new7 h5,Y.new h5,ye M,g,y⟩
theorem KL:FnScope ["_law_purse_here","_law_many_here","_law_way","_law_thin","_law_found","_law_d","_law_k","_law_pair"] wh (qh qbz):=fS
abbrev iT(q:Nat×Nat):HO:=.tup [.int (q.1:Int),.int (q.2:Int)]
def IPL(H:Hp)(l:Addr)(ts:LX)(TI:List (Nat×Nat)):Prop:=H l=some (.lst (ts.map V.ref))/\All2 (λt q=>H t=some (iT q)) ts TI
theorem IPL.same{TI:List (Nat×Nat)}(h:IPL H l ts TI)(s:L2.Same H H'):IPL H' l ts TI:=⟨s _ _ h.1,h.2.mono λ_ _ z=>s _ _ z⟩
theorem qfT{R:It->Hp->Prop}(h:ta σ H λvs H1=>∃ i j:Int,vs=[.int i,.int j]/\(-(2 ^ 62)<=i/\i<2 ^ 62/\-(2 ^ 62)<=j/\j<2 ^ 62)/\R (Itr i (j-i).toNat) H1):qf6 ta σ H R:=h
theorem qaA{i j:Int}{Q:VK}(q:Q (.bl (decide (i=j))) H):qg4 K (.int i) (.int j) H Q:=.inl (.inl (.inl ⟨rfl,rfl,by rw[zG];show q⟩))
theorem qeN{q:Nat×Nat}(h:some (iT q')=some (iT q)):q'=q:=by
 injection h with h
 injection h with h
 injection h with h1 h2
 injection h1 with h1
 injection h2 with h2 _
 injection h2 with h2
 show Xj (by lk) (by lk)
theorem ipair_eqD{a b:Addr}{q:Nat×Nat}(hb:H b=some (iT q'))(f:H a=some (iT q)):EqD K H 1 (.ref b) (.ref a) (decide (q'=q)):=by
 by_cases e:b=a
 .subst e;rw[hb] at f;have:q'=q:=qeN f;rw[yA this];show .self
 .have z:=EqT.tup (K:=K) (H:=H) (n:=0) (e:=λj=>if j=0 then eqV (iV q'.1) (iV q.1) else eqV (iV q'.2) (iV q.2)) (SqT.of hb) (SqT.of f) λj x y c d=>by
   match j,c,d with
   | 0,c,d=>cases c;cases d;show .flat rfl rfl
   | 1,c,d=>cases c;cases d;show .flat rfl rfl
   | n+2,c,d=>simp at c
  have l:((List.range (min [iV q'.1,iV q'.2].length [iV q.1,iV q.2].length)).all (λj=>if j=0 then eqV (iV q'.1) (iV q.1) else eqV (iV q'.2) (iV q.2))&&[iV q'.1,iV q'.2].length==[iV q.1,iV q.2].length)=decide (q'=q):=by
   have g:eqV (iV q'.1) (iV q.1)=decide (q'.1=q.1):=by
    have:=zG (q'.1:Int) (q.1:Int);rw[yF (by decide)] at this;rw[this];show Ym.mpr (by lk)
   have i:eqV (iV q'.2) (iV q.2)=decide (q'.2=q.2):=by
    have:=zG (q'.2:Int) (q.2:Int);rw[yF (by decide)] at this;rw[this];show Ym.mpr (by lk)
   show((if (0:Nat)=0 then eqV (iV q'.1) (iV q.1) else eqV (iV q'.2) (iV q.2))&&((if (1:Nat)=0 then eqV (iV q'.1) (iV q.1) else eqV (iV q'.2) (iV q.2))&&true)&&true)=_;rw[yG rfl,yF (by decide),g,i,Bool.and_true,Bool.and_true];rw[Y9,yO,yR,yR,yR];show⟨λh=>Xj h.1 h.2,λh=>by rw[h];show⟨rfl,rfl⟩⟩
  rw[l] at z;show .deep z e
theorem ipl_nin{a:Addr}{TI:List (Nat×Nat)}{c:Nat×Nat}{Q:VK}(h:IPL H l ts TI)(o:H a=some (iT c))(q:Q (.bl (!decide (c∈TI))) H):qe0 K true (.ref a) (.ref l) H Q:=by
 classical
 show .inr (.inr ⟨l,ts.map V.ref,λz=>decide (∃ t,z=.ref t/\H t=some (iT c)),1,rfl,SqL.of h.1,by decide,λz j=>?_,?_⟩)
 .obtain⟨b,hb,rfl⟩:=yQ.mp j;obtain⟨q',_,r⟩:=h.2.mem hb;have e:=ipair_eqD (K:=K) r o
  have n:decide (∃ t,V.ref b=.ref t/\H t=some (iT c))=decide (q'=c):=by
   apply Ym.mpr;constructor
   .rintro ⟨t,g,d⟩;cases g;rw[r] at d;show qeN d
   .rintro rfl;show⟨b,rfl,r⟩
  show EqD K H 1 (.ref b) (.ref a) (decide (∃ t,V.ref b=.ref t/\H t=some (iT c)));rw[n];show e
 .have e:((ts.map V.ref).any λz=>decide (∃ t,z=.ref t/\H t=some (iT c)))=decide (c∈TI):=by
   rw[Y9,xu,yR];constructor
   .rintro ⟨z,j,e⟩;obtain⟨t,s,rfl⟩:=yQ.mp j;obtain⟨q',i,r⟩:=h.2.mem s;obtain⟨t',g,d⟩:=yk e;cases g;rw[r] at d;have:q'=c:=qeN d;rw[<- this];show i
   .intro p;obtain⟨k,m,e⟩:=xn p;have f:k<ts.length:=by rw[h.2.len];show m
    have r:=h.2.at_ k ts[k] TI[k] (yb f) (yb m);show⟨.ref ts[k],yQ.mpr ⟨_,Xe f,rfl⟩,yA ⟨ts[k],rfl,by rw[r,e]⟩⟩
  rw[yG rfl,e];show q
def TJ(m:Nat)(TI:List (Nat×Nat)):Prop:=TI.length<=30/\(∀ q∈TI,q.1<q.2/\q.2<m)/\TI.Nodup
inductive spTsJ(vs:List V)(H:Hp)(Q:VK)(E:XK):Prop|mk (p:Addr) (m:Nat) (_:vs=[.ref p,.int (m:Int)]) (_:Pu H p) (_:m<=14) (_:∀(l:Addr) (ts:LX) (TI:List (Nat×Nat)) (H':Hp),But p H H'->Pu H' p->H l=none->l≠p->IPL H' l ts TI->TJ m TI->Q (.ref l) H')
theorem IPL.butJ{TI:List (Nat×Nat)}(h:IPL H l ts TI)(b:But p H H')(d:Pu H p)(hl:l≠p):IPL H' l ts TI:=
 ⟨b _ _ hl h.1,h.2.mono λt q z=>b _ _ (λe=>by obtain⟨x,y,c,a,_⟩:=d;rw[e,a] at z;cases z) z⟩
theorem ok_tsJ(F:Fun K "_law_ties" "_law_ties" qbz f fd)(T:Txt K mg cc cw)(Ks:wqN 1 "_law_take" wh spTkP):wqP 2 f fd wh spTsJ:=by
 show F.ok KL λ_ _ _ _ H vs Q E hr h=>?_
 .obtain⟨p,m,rfl,hB,hm,q⟩:=h;have hu:=ze hr;obtain⟨TC102,hTC102⟩:∃ t0:TS,t0=λD σ J=>∃(l t:Addr) (B j:Nat) (vd vk:Int) (ts:LX) (TI:List (Nat×Nat)) (M:Nat×Nat),σ=[some (.ref p),some (.int (m:Int)),some (.int (B:Int)),some (.int (j:Int)),some (.ref l),some (.int vd),some (.int vk),some (.ref t)]/\But p H J/\Pu J p/\H l=none/\l≠p/\IPL J l ts TI/\TJ m TI/\J t=some (iT M)/\M.2<m/\0<j/\j<=4 /\
   ∀(J':Hp) (W:LX) (L:List (Nat×Nat)),But p H J'->Pu J' p->IPL J' l W L->TJ m L->D.nx [some (.ref p),some (.int (m:Int)),some (.int (B:Int)),some (.int (j:Int)),some (.ref l),some (.int vd),some (.int vk),some (.ref t)] J':=⟨_,rfl⟩
  show⟨_,(qc (qm (i:=2) KL.nd rfl (yK rfl) (qx Ks (hmR hr) qF (qa (pv 0) (qa qf qd))))
 (qc (qm (i:=3) KL.nd rfl (yK rfl) (qo (qp (K:=K) rfl hu) (qB (qa qf (qa qf (qa qf (qa qf (qa qf (qa qf qd))))))) (qx Ks (hmR hr) qF (qa (pv 0) (qa qf qd))) (λ_ _=>rfl)))
 (qc (qm (i:=4) KL.nd rfl (yK rfl) (qB qd))
 (qc (qX yT rfl (qbG rfl T.b_range (qa qf (qa (pv 1) qd))) (qu (i:=5) KL.nd rfl (yK rfl))
 (qe (qX yT rfl (jz rfl T.b_range (qa (qt qbi (pv 1) (pv 5)) qd)) (qu (i:=6) KL.nd rfl (yK rfl))
 (qc (qm (i:=7) KL.nd rfl (yK rfl) (qo (qp (K:=K) rfl hu) (qB (qa (jm (qa (pv 6) (qa (qt (je (K:=K) rfl) (pv 6) (pv 5)) qd))) (qa (jm (qa (qt qbi (pv 5) qf) (qa (qt (je (K:=K) rfl) (pv 5) (pv 6)) qd))) (qa (jm (qa (qt zw (pv 5) qf) (qa (qt (je (K:=K) rfl) (pv 6) (pv 5)) qd))) (qa (jm (qa (pv 6) (qa (qt (je (K:=K) rfl) (pv 6) (pv 5)) qd))) qd))))) (pv 2) (λ_ _=>rfl)))
 (qc (qI (qj (zn (K:=K) rfl hu) (pv 2) qf (qy _)) (qe (qm (i:=7) KL.nd rfl (yK rfl) (jm (qa (qx Ks (hmR hr) qF (qa (pv 0) (qa (pv 5) qd))) (qa (pv 5) qd))))) qw)
 (qak TC102 (qe (qI (PW.pt (qb5 (qj qfI (qo (qp (K:=K) rfl hu) (pv 7) qf (λ_ _=>rfl)) (qo (qp (K:=K) rfl hu) (pv 7) qf (λ_ _=>rfl)) (qy _)) (qb5 (qj (j0 (K:=K) rfl hu) (pv 7) (pv 4) (by with_unfolding_all rfl)) (qb5 (qj qfI (qr (zg (K:=K) rfl) rfl T.b_len YQ (qa (pv 4) qd)) qf (qy _)) (qcj (qj (zn (K:=K) rfl hu) (qx Ks (hmR hr) qF (qa (pv 0) (qa (pv 3) qd))) qf (qy _))))))) (qe (qE (qaX (K:=K) rfl yI yZ Yb qK (pv 4) (qa (pv 7) qd)))) qw)) ?cut102))))))
 (qe (qq (pv 4))))))),?_⟩
  case cut102 =>
   intro D σ J h;rw[hTC102] at h;obtain⟨l,t,B,j,vd,vk,ts,TI,M,rfl,N,A,U,C,G,s,ht,hq,bm,bp,nx⟩:=h;apply .inl (.inr (.inl ⟨t,_,_,_,rfl,rfl,SqT.of ht,rfl,?_⟩));apply .inl (.inr (.inl ⟨t,_,_,_,rfl,rfl,SqT.of ht,rfl,?_⟩));apply qL (λh1=>?_) (λh1=>?_)
   .have ax:M.1<M.2:=by have:=yk h1;lk
    apply ipl_nin G ht ?_;apply qL (λh2=>?_) (λh2=>?_)
    .have ay:M∉TI:=by simpa using h2
     apply qac G.1 ?_;rw[ya,G.2.len];apply qL (λh3=>?_) (λh3=>?_)
     .have bn:TI.length<30:=by have:=yk h3;lk
      apply⟨p,j,rfl,A,bm,by lk,λX J2 bb b2 O=>?_⟩;have S:=G.butJ b2 A C;have Y:J2 t=some (iT M):=b2 _ _ (λe=>by obtain⟨x,y,c,e2,_⟩:=A;rw[e,e2] at ht;cases ht) ht;have b3:=N.trans7 b2;apply qaA ?_;apply qL (λh4=>?_) (λh4=>?_)
      .ext;show⟨.inl ⟨rfl,_,.of S.1⟩,?_⟩;apply⟨l,_,_,rfl,rfl,S.1,by rw[ya,G.2.len];show qv (by lk),?_⟩;have au:∀{c:Addr} {o:HO},J2 c=some o->(∀ xs,o≠.lst xs)->c≠l:=λe be z=>by rw[z,S.1] at e;cases e;show be _ rfl
       apply nx _ (ts++[t]) (TI++[M]) (λc u n e=>by rw[qg (λz=>by rw[z,U] at e;cases e)];show b3 c u n e) (by obtain⟨x,y,c,e2,r⟩:=O;show⟨x,y,c,by rw[qg (Yh C)];show e2,r⟩) ⟨by rw[qb,yC];rfl,All2.snoc (S.2.mono λt' q z=>?_) ?_⟩ ⟨by rw[yu];show TI.length+1<=30;lk,λq hq=>?_,?_⟩
       .rw [qg (au z λxs e=>by cases e)];show z
       .rw [qg (au Y λxs e=>by cases e)];show Y
       .rcases yw.mp hq with z | z
        .show s.2.1 q z
        .rw [yx.mp z];show⟨ax,by assumption⟩
       .show Yg.mpr ⟨s.2.2,XS _ _,λa ha b hb e=>by rw[yx.mp hb] at e;show ay (e ▸ ha)⟩
      .ext;show nx _ ts TI b3 O S s
     .ext;show nx _ ts TI N A G s
    .ext;show nx _ ts TI N A G s
   .ext;show nx _ ts TI N A G s
  apply⟨p,4,rfl,hB,by decide,by decide,λB H1 hw b1 hB1=>?_⟩;apply⟨by show 6<=sizeLine;decide,λm2 aa=>?_⟩;have bd:=hB1.apart aa;obtain⟨xs,ad⟩:∃ xs:LN,xs=[1,1,2,2,3,4]:=⟨_,rfl⟩
  have bj:∀ x∈xs,0<x/\x<=4:=λx hx=>by
   rw[ad] at hx;simp only[yv,yJ,Yo] at hx;lk
  have bo:xs.length=6:=by rw[ad];rfl
  have b2:=b1.new7 (o:=.lst (xs.map iV)) aa;have em:upd H1 m2 (.lst (xs.map iV)) m2=some (.lst (xs.map iV)):=qb;have O:Pu (upd H1 m2 (.lst (xs.map iV))) p:=hB1.new aa;have eu:upd H1 m2 (.lst [V.int 1,V.int 1,V.int 2,V.int 2,V.int 3,V.int 4])=upd H1 m2 (.lst (xs.map iV)):=by rw[ad];rfl
  rw[eu];generalize upd H1 m2 (.lst (xs.map iV))=H2 at b2 em O;apply⟨p,6,rfl,O,by decide,by decide,λd H3 hd b3 an=>?_⟩;obtain⟨j,av⟩:∃ st,xs[d]?=some st:=⟨_,yb (by lk)⟩;have I:=bj j (ye av);show .inl (j9 (b3 _ _ bd em) (v:=iV j) (qk (by rw[yd,av];rfl)) ?_);have af:=b2.trans7 b3;apply⟨wqQ,λl hl=>?_⟩;have C:=an.apart hl;have U:=af.free7 C hl;have b4:=af.new7 (o:=.lst []) hl;have ao:Pu (upd H3 l (.lst [])) p:=an.new hl;have ar:IPL (upd H3 l (.lst [])) l [] []:=⟨qb,.nil⟩;generalize upd H3 l (.lst [])=H4 at b4 ao ar;apply qfT ?_;apply⟨_,_,rfl,⟨by decide,by decide,by lk,by lk⟩,?_⟩;rw[show((m:Int)-1).toNat=m-1 by lk];show jO (lo:=1) (n:=m-1) (λi σ J=>But p H J/\Pu J p/\∃(ts:LX) (TI:List (Nat×Nat)) (y5 y6 y7:Option V),σ=[some (.ref p),some (.int (m:Int)),some (.int (B:Int)),some (.int (j:Int)),some (.ref l),y5,y6,y7]/\IPL J l ts TI/\TJ m TI) ⟨b4,ao,[],[],_,_,_,rfl,ar,by decide,λq hq=>(by cases hq),.nil⟩ (λi σ J hi hp=>?_) fun σ J hp=>?_
  .obtain⟨N,A,ts,TI,y5,y6,y7,rfl,G,s⟩:=hp;apply⟨_,rfl,by lk,by lk,?_⟩;rw[show((m:Int)-(1+(i:Int))).toNat=m-(1+i) by lk];show jO (lo:=0) (n:=m-(1+i)) (λk σ J=>But p H J/\Pu J p/\∃(ts:LX) (TI:List (Nat×Nat)) (y6 y7:Option V),σ=[some (.ref p),some (.int (m:Int)),some (.int (B:Int)),some (.int (j:Int)),some (.ref l),some (.int (1+(i:Int))),y6,y7]/\IPL J l ts TI/\TJ m TI) ⟨N,A,ts,TI,_,_,rfl,G,s⟩ (λk σ J hk hp=>?_) fun σ J hp=>?_
   .obtain⟨N,A,ts,TI,y6,y7,rfl,G,s⟩:=hp;rw[XA];apply⟨wqS,λZ bg=>?_⟩;have s1:=qz (Sr J) (o:=.tup [.int ((k:Int)),.int ((k:Int)+(1+(i:Int)))]) bg
    have ai:upd J Z (.tup [.int ((k:Int)),.int ((k:Int)+(1+(i:Int)))]) Z=some (iT (k,k+(1+i))):=by
     rw[qb];show _=some (HO.tup [V.int ((k:Nat):Int),V.int ((k+(1+i):Nat):Int)]);rw[show((k:Nat):Int)=(k:Int) by lk,show((k+(1+i):Nat):Int)=(k:Int)+(1+(i:Int)) by lk]
    generalize upd J Z (.tup [.int ((k:Int)),.int ((k:Int)+(1+(i:Int)))])=J1 at s1 ai;apply⟨wqS,λt2 Y=>?_⟩;have s2:=qz (Sr J1) (o:=.tup [.int (1+(i:Int)-1),.int (1+(i:Int)+(k:Int))]) Y
    have aj:upd J1 t2 (.tup [.int (1+(i:Int)-1),.int (1+(i:Int)+(k:Int))]) t2=some (iT (1+i-1,1+i+k)):=by
     rw[qb];show _=some (HO.tup [V.int ((1+i-1:Nat):Int),V.int ((1+i+k:Nat):Int)]);rw[show((1+i-1:Nat):Int)=1+(i:Int)-1 by lk,show((1+i+k:Nat):Int)=1+(i:Int)+(k:Int) by lk]
    generalize upd J1 t2 (.tup [.int (1+(i:Int)-1),.int (1+(i:Int)+(k:Int))])=J2 at s2 aj;apply vI (by decide) ?_;apply⟨wqS,λt3 bh=>?_⟩;have s3:=qz (Sr J2) (o:=.tup [.int ((1+(i:Int)) % 3),.int ((k:Int)+(1+(i:Int)))]) bh
    have ak:upd J2 t3 (.tup [.int ((1+(i:Int)) % 3),.int ((k:Int)+(1+(i:Int)))]) t3=some (iT ((1+i) % 3,k+(1+i))):=by
     rw[qb];show _=some (HO.tup [V.int (((1+i) % 3:Nat):Int),V.int ((k+(1+i):Nat):Int)]);rw[show(((1+i) % 3:Nat):Int)=(1+(i:Int)) % 3 by lk,show((k+(1+i):Nat):Int)=(k:Int)+(1+(i:Int)) by lk]
    generalize upd J2 t3 (.tup [.int ((1+(i:Int)) % 3),.int ((k:Int)+(1+(i:Int)))])=J3 at s3 ak;apply⟨wqS,λt4 bi=>?_⟩;have s4:=qz (Sr J3) (o:=.tup [.int ((k:Int)),.int ((k:Int)+(1+(i:Int)))]) bi
    have al:upd J3 t4 (.tup [.int ((k:Int)),.int ((k:Int)+(1+(i:Int)))]) t4=some (iT (k,k+(1+i))):=by
     rw[qb];show _=some (HO.tup [V.int ((k:Nat):Int),V.int ((k+(1+i):Nat):Int)]);rw[show((k:Nat):Int)=(k:Int) by lk,show((k+(1+i):Nat):Int)=(k:Int)+(1+(i:Int)) by lk]
    generalize upd J3 t4 (.tup [.int ((k:Int)),.int ((k:Int)+(1+(i:Int)))])=J4 at s4 al;apply⟨by show 4<=sizeLine;decide,λg hg=>?_⟩;have s5:=qz (Sr J4) (o:=.lst [.ref Z,.ref t2,.ref t3,.ref t4]) hg;have eg:upd J4 g (.lst [.ref Z,.ref t2,.ref t3,.ref t4]) g=some (.lst [.ref Z,.ref t2,.ref t3,.ref t4]):=qb;generalize upd J4 g (.lst [.ref Z,.ref t2,.ref t3,.ref t4])=J5 at s5 eg;have ae:=(((s1.trans s2).trans s3).trans s4).trans s5
    obtain⟨t,M,bc,ht,bf⟩:∃(t:Addr) (M:Nat×Nat),[V.ref Z,V.ref t2,V.ref t3,V.ref t4][B]?=some (.ref t)/\J5 t=some (iT M)/\M.2<m:=by
     have e1:=s5 _ _ (s4 _ _ (s3 _ _ (s2 _ _ ai)));have e2:=s5 _ _ (s4 _ _ (s3 _ _ aj));have e3:=s5 _ _ (s4 _ _ ak);have e4:=s5 _ _ al
     match B,hw with
     | 0,_=>show⟨Z,_,rfl,e1,by show k+(1+i)<m;lk⟩
     | 1,_=>show⟨t2,_,rfl,e2,by show 1+i+k<m;lk⟩
     | 2,_=>show⟨t3,_,rfl,e3,by show k+(1+i)<m;lk⟩
     | 3,_=>show⟨t4,_,rfl,e4,by show k+(1+i)<m;lk⟩
    apply .inl (j9 eg (qk bc) ?_);have ah:=λ(c:Addr) (o:HO) (n:c≠p) (e:H c=some o)=>ae _ _ (N c o n e);have R:Pu J5 p:=by obtain⟨x,y,c,e2,r⟩:=A;show⟨x,y,c,ae _ _ e2,r⟩
    have as:=G.same ae;apply qaA ?_;apply qL (λh3=>?_) (λh3=>?_)
    .ext;show⟨p,1+i,?_,R,by lk,by lk,λX J6 bb b6 az=>?_⟩
     .show [V.ref p,V.int (1+(i:Int))]=_;rw[show((1+i:Nat):Int)=1+(i:Int) by lk]
     have ba:=as.butJ b6 R C;apply⟨wqS,λt6 ac=>?_⟩;have aw:=qz (Sr J6) (o:=.tup [.int (X:Int),.int (1+(i:Int))]) ac
     have am:upd J6 t6 (.tup [.int (X:Int),.int (1+(i:Int))]) t6=some (iT (X,1+i)):=by
      rw[qb];show _=some (HO.tup [V.int (X:Int),V.int ((1+i:Nat):Int)]);rw[show((1+i:Nat):Int)=1+(i:Int) by lk]
     have ag:But p H (upd J6 t6 (.tup [.int (X:Int),.int (1+(i:Int))])):=(But.trans7 ah b6).new7 ac;have aq:Pu (upd J6 t6 (.tup [.int (X:Int),.int (1+(i:Int))])) p:=az.new ac;generalize upd J6 t6 (.tup [.int (X:Int),.int (1+(i:Int))])=J7 at aw am ag aq;ext;rw[hTC102];show⟨l,t6,B,j,_,_,ts,TI,(X,1+i),rfl,ag,aq,U,C,ba.same aw,s,am,by show 1+i<m;lk,I.1,I.2,λJ' W L h1 h2 h3 h4=>⟨h1,h2,W,L,_,_,rfl,h3,h4⟩⟩
    .ext;rw[hTC102];show⟨l,t,B,j,_,_,ts,TI,M,rfl,ah,R,U,C,as,s,ht,bf,I.1,I.2,λJ' W L h1 h2 h3 h4=>⟨h1,h2,W,L,_,_,rfl,h3,h4⟩⟩
   .obtain⟨N,A,ts,TI,y6,y7,rfl,G,s⟩:=hp;apply⟨N,A,ts,TI,_,_,_,rfl,G,s⟩
  .obtain⟨N,A,ts,TI,y5,y6,y7,rfl,G,s⟩:=hp;apply q l ts TI J N A U C G s
theorem uh:FnScope ["_law_names_here","_law_ties_here","_law_handed","_law_one","_law_other"] wqo (qh qbA):=fS
theorem Wt.ir(W:Wt cw H x ss ns tps):∀ a b,tA tps a b->a≠b:=λa b z e=>by
 rcases z with z | z
 .show(W.ok _ z).2.2 e
 .show(W.ok _ z).2.2 e.symm
def tn(ss:LS)(i:Nat):Str:=ss.getD i ""
def nmP(ss:LS)(p:Nat×Nat):Str×Str:=(tn ss p.1,tn ss p.2)
theorem qbd(h:i<ss.length):ss[i]?=some (tn ss i):=by unfold tn;rw[Yu,yb h];rfl
theorem qb0(h:i<ss.length):tn ss i∈ss:=ye (qbd h)
theorem qcf(c:ss.Nodup)(a:i<ss.length)(b:j<ss.length)(e:tn ss i=tn ss j):i=j:=qC c (qbd a) (by rw[e];show qbd b)
theorem qbe{n:Addr}{Q:VK}(h:H n=some (.lst (ss.map V.str)))(a:i<ss.length)(q:Q (.str (tn ss i)) H):qfV K (.ref n) (.int (i:Int)) H Q:=
 .inl (j9 h (v:=.str (tn ss i)) (qk (by rw[yd,qbd a];rfl)) q)
def hdP(ss:LS)(q:Nat×Nat):Str×Str:=if (q.1+q.2) % 2=0 then nmP ss q else((nmP ss q).2,(nmP ss q).1)
theorem qeO(ss:LS)(q:Nat×Nat):hdP ss q=nmP ss q\/hdP ss q=((nmP ss q).2,(nmP ss q).1):=by
 unfold hdP;split
 .show .inl rfl
 .show .inr rfl
theorem nm_one(a:ss.Nodup){p q:Nat×Nat}(b:p.1<p.2/\p.2<ss.length)(c:q.1<q.2/\q.2<ss.length)(e:nmP ss p=nmP ss q\/nmP ss p=((nmP ss q).2,(nmP ss q).1)):p=q:=by
 rcases e with e | e
 .show Xj (qcf a (by lk) (by lk) (congrArg Prod.fst e)) (qcf a b.2 c.2 (congrArg Prod.snd e))
 .have h1:p.1=q.2:=qcf a (by lk) (by lk) (congrArg Prod.fst e);have d:p.2=q.1:=qcf a (by lk) (by lk) (congrArg Prod.snd e);lk
theorem qeP(b:ss.Nodup){TI:List (Nat×Nat)}(h:TJ ss.length TI):∀ ab∈TI.map (nmP ss),ab.1∈ss/\ab.2∈ss/\ab.1≠ab.2:=λab a=>by
 obtain⟨q,c,rfl⟩:=yQ.mp a;have:=h.2.1 q c;show⟨qb0 (by lk),qb0 this.2,λe=>by have:=qcf b (by lk) this.2 e;lk⟩
theorem hd_tgo(i:ss.Nodup){TI:List (Nat×Nat)}(h:TJ ss.length TI):TGo ss (TI.map (hdP ss)):=by
 show⟨by rw[ya];show h.1,λab b=>?_,?_⟩
 .obtain⟨q,d,rfl⟩:=yQ.mp b;obtain⟨h1,f,g⟩:=qeP i h _ (YO d);rcases qeO ss q with e | e<;>rw[e]
  .show⟨h1,f,g⟩
  .show⟨f,h1,g.symm⟩
 .show Xq.mpr (h.2.2.imp_of_mem λ{p q} j d c=>?_);have k:¬ (nmP ss p=nmP ss q\/nmP ss p=((nmP ss q).2,(nmP ss q).1)):=λe=>c (nm_one i (h.2.1 p j) (h.2.1 q d) e);have a:∀{x y:Str×Str},(x.2,x.1)=y->x=(y.2,y.1):=λ{x y} e=>by rw[<- e]
  rcases qeO ss p with e | e<;>rcases qeO ss q with e' | e'<;>show⟨λz=>k ?_,λz=>k ?_⟩<;>rw[e,e'] at z
  .show .inl z
  .show .inr z
  .show .inr z
  .show .inl z
  .show .inr (a z)
  .show .inl (a z)
  .show .inl (a z)
  .show .inr (a z)
theorem hd_tA{TI:List (Nat×Nat)}:tA (TI.map (hdP ss)) a b↔tA (TI.map (nmP ss)) a b:=by
 have k:∀{a b:Str},(a,b)∈TI.map (hdP ss)->tA (TI.map (nmP ss)) a b:=λ{a b} h=>by
  obtain⟨q,c,e⟩:=yQ.mp h;have m:nmP ss q∈TI.map (nmP ss):=YO c;rcases qeO ss q with z | z<;>rw[z] at e
  .rw [e] at m;show .inl m
  .have:nmP ss q=(b,a):=Xj (congrArg Prod.snd e) (congrArg Prod.fst e);rw[this] at m;show .inr m
 have k':∀{a b:Str},(a,b)∈TI.map (nmP ss)->tA (TI.map (hdP ss)) a b:=λ{a b} h=>by
  obtain⟨q,c,e⟩:=yQ.mp h;have m:hdP ss q∈TI.map (hdP ss):=YO c;rcases qeO ss q with z | z<;>rw[z,e] at m
  .show .inl m
  .show .inr m
 show⟨λh=>h.elim k λz=>(k z).symm,λh=>h.elim k' λz=>(k' z).symm⟩
theorem wt_new{y:Addr}(h:WebN H0 cw H y ss ns)(hb:qbW ss ns kps)(g:TGo ss kps):Wt cw H y ss ns kps:=
 ⟨h.web,λa b s t d c=>by rw[hb.2.2 a b s t d c,yR],g.inn⟩
theorem Wt.to{y:Addr}(h:Wt cw H y ss ns kps)(ok:∀ ab∈tps,ab.1∈ss/\ab.2∈ss/\ab.1≠ab.2)(e:∀ a b,a∈ss->b∈ss->(tA kps a b↔tA tps a b)):Wt cw H y ss ns tps:=
 ⟨h.web,λa b s t c hb=>(h.adj a b s t c hb).trans (e s t (ye c) (ye hb)),ok⟩
theorem WebN.older(h:WebN H1 cw H x ss ns)(s:L2.Same H0 H1):WebN H0 cw H x ss ns:=by
 obtain⟨j,d,ol,n,h1,a,b,c,e,f,g,i⟩:=h;show⟨j,d,ol,n,h1,a,b,c,e,s.free f,s.free g,s.free i⟩
inductive spMdJ(cw:Addr)(vs:List V)(H:Hp)(Q:VK)(E:XK):Prop|mk (n l:Addr) (ss:LS) (ts:LX) (TI:List (Nat×Nat)) (_:vs=[.ref n,.ref l]) (_:H n=some (.lst (ss.map V.str))) (_:NOk ss) (_:IPL H l ts TI) (_:TJ ss.length TI) (_:∀(b:Addr) (ns:LN) (H':Hp),L2.Same H H'->H b=none->WebN H cw H' b ss ns->Wt cw H' b ss ns (TI.map (nmP ss))->Q (.ref b) H')
def qfB(ns:LN)(a b:Nat):Bool:=(ns.getD a 0).testBit b
def BtJ(n:Nat)(TI:List (Nat×Nat))(bs:LN):Prop:=bs.length=n/\(∀ a,bs.getD a 0<2 ^ n)/\∀ a b,qfB bs a b=true↔((a,b)∈TI\/(b,a)∈TI)
inductive spBtJ(vs:List V)(H:Hp)(Q:VK)(E:XK):Prop|mk (l:Addr) (n:Nat) (ts:LX) (TI:List (Nat×Nat)) (_:vs=[.int (n:Int),.ref l]) (_:n<=14) (_:IPL H l ts TI) (_:TJ n TI) (_:∀(b:Addr) (bs:LN) (H':Hp),L2.Same H H'->H b=none->H' b=some (.lst (zB bs))->BtJ n TI bs->Q (.ref b) H')
theorem wmake{m y:Addr}{Q:VK}(F:G m=some (.lst (ss.map V.str)))(g:ss.length<=14)(nd:ss.Nodup)(nm:∀ s∈ss,jf s=true)(C:PL G l us kps)(j:TGo ss kps)(p:G y=none)(D:G dx=none)(i:dx≠y)
  (h:∀ ns H2,L2.Same G H2->WebN G cw H2 y ss ns->Wt cw H2 y ss ns kps->Q .non H2):spWeb cw [.ref y,.ref m,.ref l] (upd (upd G dx (.own y)) y (.ins cw dx [])) Q E:=by
 have f:=qz (qz (Sr G) (o:=.own y) D) (o:=.ins cw dx []) (show upd G dx (.own y) y=none by rw[qg (Yh i)];show p);show⟨y,dx,m,l,ss,us,kps,rfl,qb,f _ _ F,g,nd,nm,C.same f,j,λns H' b B A=>?_⟩
 have a:WebN G cw H' y ss ns:=by
  obtain⟨H,d,ol,n,h1,q,r,t,u,v,w,x⟩:=B
  have k:∀ c,upd (upd G dx (.own y)) y (.ins cw dx []) c=none->G c=none:=λc z=>by
   cases e:G c with
   | none=>rfl
   | some o=>rw[f _ _ e] at z;cases z
  show⟨H,d,ol,n,h1,q,r,t,u,k _ v,k _ w,k _ x⟩
 show h ns H' (λc o e=>b c o (λz=>by rw[z,p] at e;cases e) (f _ _ e)) a (wt_new a A j)
theorem ok_mdJ(F:Fun K "_law_made" "_law_made" qbA f fd)(T:Txt K mg cc cw)(Uk:MakeOk P w K mg base CX0 5 cw "Web" wqi (spWeb cw)):wqP 7 f fd wqo (spMdJ cw):=by
 show F.ok uh λ_ _ _ _ H vs Q E hr h=>?_
 .obtain⟨n,l,ss,ts,TI,rfl,hn,I,G,Z,q⟩:=h;have R:=ze hr;show⟨_,(qc (qm (i:=2) uh.nd rfl (yK rfl) (qB qd))
 (qc (qX yT rfl (qbj (K:=K) rfl (pv 1)) (qbh rfl (qY (qu (i:=3) uh.nd rfl (yK rfl)) (qY (qu (i:=4) uh.nd rfl (yK rfl)) qaa)))
 (qe (qE (qaX (K:=K) rfl yI yZ Yb qK (pv 2) (qa (qo (qp (K:=K) rfl R) (qB (qa (jm (qa (qo (qp (K:=K) rfl R) (pv 0) (pv 3) (λ_ _=>rfl)) (qa (qo (qp (K:=K) rfl R) (pv 0) (pv 4) (λ_ _=>rfl)) qd))) (qa (jm (qa (qo (qp (K:=K) rfl R) (pv 0) (pv 4) (λ_ _=>rfl)) (qa (qo (qp (K:=K) rfl R) (pv 0) (pv 3) (λ_ _=>rfl)) qd))) qd))) (qt zw (qt (je (K:=K) rfl) (pv 3) (pv 4)) qf) (λ_ _=>rfl)) qd)))))
 (qe (qq (qdQ Uk (hmR hr) (qa (qV (zV (K:=K) rfl rfl) rfl T.b_list xz (qa (pv 0) qd)) (qa (pv 2) qd))))))),?_⟩
  apply⟨wqQ,λh M=>?_⟩;have s1:=qz (Sr H) (o:=.lst []) M;have eh:upd H h (.lst []) h=some (.lst []):=qb;generalize upd H h (.lst [])=H1 at s1 eh;apply qcW ?_;ext;have hh:H h=none:=M;show⟨l,_,rfl,.of (s1 _ _ G.1),qP (xs:=ts.map V.ref) (λi σ J=>L2.Same H J/\∃(us:LX) (y3 y4:Option V),σ=[some (.ref n),some (.ref l),some (.ref h),y3,y4]/\J h=some (.lst (us.map V.ref))/\All2 (λt ab=>J t=some (.tup [.str ab.1,.str ab.2])) us ((TI.take i).map (hdP ss))) ⟨s1,[],_,_,rfl,eh,.nil⟩ (λi σ J _ O=>.of (O.1 _ _ G.1)) (λi x σ J hx O=>?_) fun σ J O=>?_⟩
  .obtain⟨v,us,y3,y4,rfl,Y,D⟩:=O;rw[yd] at hx;obtain⟨u,S,rfl⟩:=yo.mp hx;have hi:i<TI.length:=by rw[<- G.2.len];show(yc.mp S).1
   obtain⟨d,A⟩:∃ d,TI[i]?=some d:=⟨_,yb hi⟩;have ah:=v _ _ (G.2.at_ i u d S A);have hq:=Z.2.1 d (ye A);have m:=v _ _ hn;have ak:=Z.1;show⟨u,_,rfl,.of ah,rfl,_,_,rfl,_,_,rfl,rfl,?_⟩;apply⟨.inl ⟨rfl,_,.of Y⟩,?_⟩;apply qbe m (by lk) ?_;apply qbe m hq.2 ?_;apply⟨wqS,λr af=>?_⟩;have j:=qz (Sr J) (o:=.tup [.str (tn ss d.1),.str (tn ss d.2)]) af;have B:upd J r (.tup [.str (tn ss d.1),.str (tn ss d.2)]) r=some (.tup [.str (tn ss d.1),.str (tn ss d.2)]):=qb;generalize upd J r (.tup [.str (tn ss d.1),.str (tn ss d.2)])=X at j B;apply qbe (j _ _ m) hq.2 ?_;apply qbe (j _ _ m) (by lk) ?_;apply⟨wqS,λs ag=>?_⟩;have W:=qz (Sr X) (o:=.tup [.str (tn ss d.2),.str (tn ss d.1)]) ag;have C:upd X s (.tup [.str (tn ss d.2),.str (tn ss d.1)]) s=some (.tup [.str (tn ss d.2),.str (tn ss d.1)]):=qb;generalize upd X s (.tup [.str (tn ss d.2),.str (tn ss d.1)])=J3 at W C;apply⟨wqS,λg hg=>?_⟩;have s4:=qz (Sr J3) (o:=.lst [.ref r,.ref s]) hg;have eg:upd J3 g (.lst [.ref r,.ref s]) g=some (.lst [.ref r,.ref s]):=qb;generalize upd J3 g (.lst [.ref r,.ref s])=J4 at s4 eg;apply vI (by decide) ?_
   obtain⟨t,ae,ht⟩:∃ t,atI [V.ref r,V.ref s] (((d.1:Int)+(d.2:Int)) % 2)=some (.ref t)/\J4 t=some (.tup [.str (hdP ss d).1,.str (hdP ss d).2]):=by
    by_cases h0:(d.1+d.2) % 2=0
    .rw [show((d.1:Int)+(d.2:Int)) % 2=((0:Nat):Int) by lk];show⟨r,qk rfl,?_⟩;unfold hdP;rw[yG h0];show s4 _ _ (W _ _ B)
    .rw [show((d.1:Int)+(d.2:Int)) % 2=((1:Nat):Int) by lk];show⟨s,qk rfl,?_⟩;unfold hdP;rw[yF h0];show s4 _ _ C
   show .inl (j9 eg ae ?_);have p:=(j.trans W).trans s4;have e4:=p _ _ Y;ext;have ai:us.length<=30:=by rw[D.len,ya,yU];lk
   show⟨h,_,_,rfl,rfl,e4,by rw[ya];show qv (by lk),?_⟩;have N:∀{c:Addr} {o:HO},J4 c=some o->(∀ xs,o≠.lst xs)->c≠h:=λe y z=>by rw[z,e4] at e;cases e;show y _ rfl
   show⟨λc o e=>?_,us++[t],_,_,rfl,by rw[qb,yC];rfl,?_⟩
   .rw [qg (λz=>by rw[z,hh] at e;cases e)];show(v.trans p) c o e
   .rw [yY,A,yC];show All2.snoc (D.mono λt' ab z=>?_) ?_
    .rw [qg (N (p _ _ z) λxs e=>by cases e)];show p _ _ z
    .rw [qg (N ht λxs e=>by cases e)];show ht
  .obtain⟨v,us,y3,y4,rfl,Y,D⟩:=O;have e:(ts.map V.ref).length=TI.length:=by rw[ya,G.2.len]
   rw[e,Ye] at D;apply .inl ⟨n,_,rfl,.inl (.of (v _ _ hn)),λc1 ad=>?_⟩;have j:=qz (Sr J) (o:=.lst (ss.map V.str)) ad;have ec:upd J c1 (.lst (ss.map V.str)) c1=some (.lst (ss.map V.str)):=qb;generalize upd J c1 (.lst (ss.map V.str))=X at j ec;apply λx' aj U L y=>?_;show wmake ec I.few I.nd I.nm ⟨j _ _ Y,D.mono λt ab z=>j _ _ z⟩ (hd_tgo I.nd Z) U L y λns H3 W aa ac=>⟨rfl,q x' ns H3 ((v.trans j).trans W) ((v.trans j).free U) (aa.older (v.trans j)) (ac.to (qeP I.nd Z) λa b _ _=>hd_tA)⟩
theorem uk:FnScope ["_law_many_here","_law_ties_here","_law_found","_law_one","_law_other"] wqp (qh qbB):=fS
theorem btJ_zero(n:Nat):BtJ n [] (List.replicate n 0):=by
 have z:∀ a,(List.replicate n 0).getD a 0=0:=λa=>by
  rw[Yu,Xa];split<;>rfl
 show⟨xq,λa=>by rw[z a];show Xm n,λa b=>?_⟩;unfold qfB;rw[z a];simp
theorem btJ_put{TI:List (Nat×Nat)}{bs:LN}{q:Nat×Nat}(h:BtJ n TI bs)(f:q.1<q.2/\q.2<n):BtJ n (TI++[q]) ((bs.set q.1 (bs.getD q.1 0 ||| 2 ^ q.2)).set q.2 (bs.getD q.2 0 ||| 2 ^ q.1)):=by
 obtain⟨hl,hb,i⟩:=h;have l1:q.1<bs.length:=by lk
 have l2:q.2<(bs.set q.1 (bs.getD q.1 0 ||| 2 ^ q.2)).length:=by rw[xQ];lk
 have c:q.1≠q.2:=by lk
 have g:∀ a,((bs.set q.1 (bs.getD q.1 0 ||| 2 ^ q.2)).set q.2 (bs.getD q.2 0 ||| 2 ^ q.1)).getD a 0=if q.2=a then bs.getD q.2 0 ||| 2 ^ q.1 else if q.1=a then bs.getD q.1 0 ||| 2 ^ q.2 else bs.getD a 0:=λa=>by rw[zA l2,zA l1]
 show⟨by rw[xQ,xQ,hl],λa=>?_,λa b=>?_⟩
 .rw [g a];split
  .show X5 (hb _) (Xr (by decide) (by lk))
  .split
   .show X5 (hb _) (Xr (by decide) f.2)
   .show hb a
 .have base:=i a b;unfold qfB at base ⊢;rw[g a,yw,yw,yx,yx];by_cases e:q.2=a
  .subst e;rw[yG rfl,X6,Yt,Xk,base,yR];constructor
   .rintro ((z | z) | z)
    .show .inl (.inl z)
    .show .inr (.inl z)
    .show .inr (.inr (by rw[<- z]))
   .rintro ((z | z) | (z | z))
    .show .inl (.inl z)
    .show absurd (congrArg Prod.fst z) (Yh c)
    .show .inl (.inr z)
    .show .inr (congrArg Prod.fst z).symm
  .rw [yF e];by_cases d:q.1=a
   .subst d;rw[yG rfl,X6,Yt,Xk,base,yR];constructor
    .rintro ((z | z) | z)
     .show .inl (.inl z)
     .show .inr (.inl z)
     .show .inl (.inr (by rw[<- z]))
    .rintro ((z | z) | (z | z))
     .show .inl (.inl z)
     .show .inr (congrArg Prod.snd z).symm
     .show .inl (.inr z)
     .show absurd (congrArg Prod.snd z) c
   .rw [yF d,base];constructor
    .rintro (z | z)
     .show .inl (.inl z)
     .show .inr (.inl z)
    .rintro ((z | z) | (z | z))
     .show .inl z
     .show absurd (congrArg Prod.fst z).symm d
     .show .inr z
     .show absurd (congrArg Prod.snd z).symm e
theorem ok_btJ(F:Fun K "_law_bits" "_law_bits" qbB f fd)(T:Txt K mg cc cw):wqP 1 f fd wqp spBtJ:=by
 show F.ok uk λ_ _ _ _ H vs Q E U h=>?_
 .obtain⟨l,n,ts,TI,rfl,W,j,O,q⟩:=h;have t:=ze U;show⟨_,(qc (qm (i:=2) uk.nd rfl (yK rfl) (qt qdE (qB (qa qf qd)) (pv 0)))
 (qc (qX yT rfl (qbj (K:=K) rfl (pv 1)) (qbh rfl (qY (qu (i:=3) uk.nd rfl (yK rfl)) (qY (qu (i:=4) uk.nd rfl (yK rfl)) qaa)))
 (qc (jN (qt qe6 (qo (qp (K:=K) rfl t) (pv 2) (pv 3) (λ_ _=>rfl)) (qt zJ qf (pv 4))) (jM (pv 2) (pv 3) (jQ t)))
 (qe (jN (qt qe6 (qo (qp (K:=K) rfl t) (pv 2) (pv 4) (λ_ _=>rfl)) (qt zJ qf (pv 3))) (jM (pv 2) (pv 4) (jQ t))))))
 (qe (qq (pv 2))))),?_⟩
  apply⟨wqR,λz B=>?_⟩;have M:=qz (Sr H) (o:=.lst [.int 0]) B;apply⟨z,_,_,rfl,rfl,qb,by lk,by lk,by show 1*_<=sizeLine;rw[yV];show yS (qv (by lk)),λb hb=>?_⟩;rw[yV,qcZ];have C:=qz M (o:=.lst (zB (List.replicate n 0))) hb;have m:H b=none:=M.free hb;have I:upd (upd H z (.lst [.int 0])) b (.lst (zB (List.replicate n 0))) b=some (.lst (zB (List.replicate n 0))):=qb;generalize upd (upd H z (.lst [.int 0])) b (.lst (zB (List.replicate n 0)))=H2 at C I;apply qcW ?_;apply⟨l,_,rfl,.of (C _ _ j.1),qP (xs:=ts.map V.ref) (λi σ J=>L2.Same H J/\∃(bs:LN) (D G:Option V),σ=[some (.int (n:Int)),some (.ref l),some (.ref b),D,G]/\J b=some (.lst (zB bs))/\BtJ n (TI.take i) bs) ⟨C,_,_,_,rfl,I,btJ_zero n⟩ (λi σ J _ p=>.of (p.1 _ _ j.1)) (λi x σ J L p=>?_) fun σ J p=>?_⟩
  .obtain⟨v,bs,D,G,rfl,s,g⟩:=p;rw[yd] at L;obtain⟨u,r,rfl⟩:=yo.mp L;have R:i<TI.length:=by rw[<- j.2.len];show(yc.mp r).1
   obtain⟨a,d⟩:∃ a,TI[i]?=some a:=⟨_,yb R⟩;have A:=v _ _ (j.2.at_ i u a r d);have S:=O.2.1 a (ye d);have l1:a.1<bs.length:=by rw[g.1];lk
   have l2:a.2<bs.length:=by rw[g.1];lk
   have y:a.1≠a.2:=by lk
   show⟨u,_,rfl,.of A,rfl,_,_,rfl,_,_,rfl,rfl,?_⟩;apply .inl (j9 s (qk (jt l1)) ?_);apply vI ⟨by lk,by lk,by decide⟩ ?_;ext;rw[qdV];show .inl (qee s (qcp (by unfold zB;rw[ya];show l1)) ?_);rw[qbq];ext;have N:(bs.set a.1 (bs.getD a.1 0 ||| 2 ^ a.2)).getD a.2 0=bs.getD a.2 0:=by rw[zA l1,yF y]
   show .inl (j9 qb (qk (jt (by simpa using l2))) ?_);apply vI ⟨by lk,by lk,by decide⟩ ?_;ext;rw[qdV,N];show .inl (qee qb (qcp (by unfold zB;rw[ya];simpa using l2)) ?_);rw[qbq];apply⟨λc o e=>?_,_,_,_,rfl,qb,?_⟩
   .have hc:c≠b:=λz=>by rw[z,m] at e;cases e
    rw[qg hc,qg hc];show v c o e
   .rw [yY,d];show btJ_put g S
  .obtain⟨v,bs,D,G,rfl,s,g⟩:=p;have e:(ts.map V.ref).length=TI.length:=by rw[ya,j.2.len]
   rw[e,Ye] at g;apply q b bs J v m s g
def jy(m k:Nat):Nat:=m-(m &&& k)
theorem and_or_dis:∀(a b:Nat),a &&& b=0->a+b=a ||| b:=by
 intro a
 induction a using Nat.strongRecOn with
 | ind a ih =>
  intro b h;by_cases d:a=0
  .subst d;simp
  .have c:(a / 2) &&& (b / 2)=0:=by rw[<- Nat.and_div_two,h]
   have e:=ih (a / 2) (by lk) (b / 2) c
   have h1:(a % 2) &&& (b % 2)=0:=by
    have:=congrArg (· % 2) h;simpa [Nat.and_mod_two_pow (n:=1)] using this
   have j:(a ||| b) / 2=a / 2 ||| b / 2:=Nat.or_div_two
   have i:(a ||| b) % 2=(a % 2) ||| (b % 2):=by
    simpa using Nat.or_mod_two_pow (a:=a) (b:=b) (n:=1)
   have g:(a % 2) ||| (b % 2)=a % 2+b % 2:=by
    rcases YX a with x | x<;>rcases YX b with y | y<;>rw[x,y] at h1 ⊢<;>first | rfl | show absurd h1 (by decide)
   have f:=Nat.div_add_mod (a ||| b) 2;rw[j,i,g,<- e] at f;lk
theorem jv(m k c:Nat):(jy m k).testBit c=(m.testBit c&&!k.testBit c):=by
 have a:(m &&& k) &&& (m ^^^ (m &&& k))=0:=by
  apply Xv;intro i;simp only[xp,Kk,Ka];cases m.testBit i<;>cases k.testBit i<;>rfl
 have h1:=and_or_dis _ _ a
 have d:(m &&& k) ||| (m ^^^ (m &&& k))=m:=by
  apply Xv;intro i;simp only[xp,Kk,X6];cases m.testBit i<;>cases k.testBit i<;>rfl
 have b:jy m k=m ^^^ (m &&& k):=by unfold jy;lk
 rw[b];simp only[xp,Kk];cases m.testBit c<;>cases k.testBit c<;>rfl
theorem jX(m k:Nat):Builtin.bitAnd (m:Int) (Builtin.bitNot (k:Int))=((jy m k:Nat):Int):=by
 have a:Builtin.bitNot (k:Int)=-(k:Int)-1:=rfl;have b:Builtin.bitNot (-(k:Int)-1)=(k:Int):=by unfold Builtin.bitNot;lk
 unfold Builtin.bitAnd;rw[a,yA (by lk),ym (by lk)];dsimp only;rw[b,yV,yV];have:(m &&& k)<=m:=Nat.and_le_left;unfold jy;lk
theorem qeQ(m k:Nat):Builtin.bitAnd (m:Int) (k:Int)=((m &&& k:Nat):Int):=by
 unfold Builtin.bitAnd;rw[yA (by lk),yA (by lk)];dsimp only;rw[yV,yV]
inductive Rr(bs:LN)(r k:Nat):Nat->Prop
 | zero:Rr bs r k k
 | step {a b:Nat} (h:Rr bs r k a) (t:qfB bs a b=true) (i:r.testBit b=true):Rr bs r k b
def cnt(n P:Nat):Nat:=((List.range n).filter λc=>P.testBit c).length
theorem PGo.grt(c:∀ a b,tA tps a b->a≠b)(g:PGo ss tps qs):Gr (tA tps) (pt qs):=⟨λz=>Or.symm z,λz=>c _ _ z,λ{a b} e=>g.fn.sym a b e,λ{a b} e=>g.fn.tie a b e⟩
theorem mx_le{rs:LP}(d:∀ a b,tA tps a b->a≠b)(c:ss.Nodup)(g:PGo ss tps qs)(m:MxF ss tps qs)(g':PGo ss tps rs):rs.length<=qs.length:=by
 obtain⟨S,F⟩:=m;have h1:=F.most (g'.grt d)
 have n:(ss.filter λu=>!(pt rs u).isSome&&(S.rows u).isSome).length<=(snL (pt rs) ss).length:=by
  unfold snL
  show qc9 (c.filter _) λx e=>by
   obtain⟨a,b⟩:=yq.mp e;rw[yO] at b;show yq.mpr ⟨a,b.1⟩
 have h:=qcd (f:=pt qs) (ss:=ss);have i:=qcd (f:=pt rs) (ss:=ss);have j:=g.cnt c;have l:=g'.cnt c;lk
def fnK(g:Str->V)(l:LS):List (Key×V):=l.map λs=>(.inr s,g s)
def loQ(tps:LP)(ss:LS):LS:=ss.filter λs=>decide (mo tps (del ss s).length (del ss s)=mo tps ss.length ss)
def wdF(ss:LS)(ns:LN)(a:LS)(v:Str):Str:=if v∈a then "loose" else if (inB ss 0 (ns.getD (ss.idxOf v) 0)).any (λo=>decide (o∈a))=true then "held" else "fast"
def wdS(tps:LP)(ss:LS)(ns:LN)(v:Str):V:=.str (wdF ss ns (loQ tps ss) v)
inductive spLo(cw:Addr)(vs:List V)(H:Hp)(Q:VK)(E:XK):Prop|mk (x:Addr) (ss:LS) (ns:LN) (tps:LP) (_:vs=[.ref x]) (_:Wt cw H x ss ns tps) (_:∀(l:Addr) (H':Hp),L2.Same H H'->H l=none->H' l=some (.lst ((loQ tps ss).map V.str))->Q (.ref l) H')
inductive spWf(cw:Addr)(vs:List V)(H:Hp)(Q:VK)(E:XK):Prop|mk (x l:Addr) (v:Str) (ss:LS) (ns:LN) (fr:LS) (_:vs=[.ref x,.str v,.ref l]) (_:WebAt cw H x ss ns) (_:v∈ss) (_:H l=some (.lst (fr.map V.str))) (_:∀(H':Hp),L2.Same H H'->Q (.str (wdF ss ns fr v)) H')
inductive spSo(cw:Addr)(vs:List V)(H:Hp)(Q:VK)(E:XK):Prop|mk (x:Addr) (ss:LS) (ns:LN) (tps:LP) (_:vs=[.ref x]) (_:Wt cw H x ss ns tps) (_:∀(d:Addr) (H':Hp),L2.Same H H'->H d=none->H' d=some (.dK (fnK (wdS tps ss ns) ss))->Q (.ref d) H')
inductive spPw(cw:Addr)(vs:List V)(H:Hp)(Q:VK)(E:XK):Prop|mk (x:Addr) (wd:Str) (ss:LS) (ns:LN) (tps:LP) (_:vs=[.ref x,.str wd]) (_:Wt cw H x ss ns tps) (_:∀(l:Addr) (H':Hp),L2.Same H H'->H l=none->H' l=some (.lst ((ss.filter λs=>decide (wdF ss ns (loQ tps ss) s=wd)).map V.str))->Q (.ref l) H')
inductive spHe(cw:Addr)(wd:Str)(vs:List V)(H:Hp)(Q:VK)(E:XK):Prop|mk (x:Addr) (ss:LS) (ns:LN) (tps:LP) (_:vs=[.ref x]) (_:Wt cw H x ss ns tps) (_:∀(l:Addr) (H':Hp),L2.Same H H'->H l=none->H' l=some (.lst ((ss.filter λs=>decide (wdF ss ns (loQ tps ss) s=wd)).map V.str))->Q (.ref l) H')
def rmN(ss:LS)(m:Nat):LS:=ss.filter λs=>m.testBit (ss.idxOf s)
theorem rmN_len(ss:LS)(m:Nat):(rmN ss m).length<=ss.length:=Yv _ _
theorem qdm(b:ss.Nodup){k:Nat}(a:ss[k]?=some y):y∈rmN ss m↔m.testBit k=true:=by
 unfold rmN;rw[yq,qeG b a];show⟨λz=>z.2,λz=>⟨ye a,z⟩⟩
theorem qdn(c:ss.Nodup){k:Nat}(b:ss[k]?=some y):rmN ss (jy m (2 ^ k))=del (rmN ss m) y:=by
 unfold rmN del;rw[List.filter_filter];show kc λs d=>?_;rw[jv,Yt];have a:ss[ss.idxOf s]?=some s:=by rw[yb (yW d),Yx]
 have e:decide (k=ss.idxOf s)=decide (s=y):=Ym.mpr ⟨λz=>by rw[<- z,b] at a;show(yn a).symm,λz=>by rw[z] at a;rw[z];show qC c b a⟩;rw[e,Bool.and_comm]
theorem rmN_perm(b:ss.Nodup){k:Nat}(d:ss[k]?=some y)(f:m.testBit k=true):(rmN ss m).Perm (y::rmN ss (jy m (2 ^ k))):=by
 rw[qdn b d];have c:(rmN ss m).Nodup:=b.filter _;show(List.perm_ext_iff_of_nodup c (yp.mpr ⟨λz=>(mem_del.mp z).2 rfl,c.filter _⟩)).mpr λa=>?_;rw[yv,mem_del];constructor
 .intro h;by_cases e:a=y
  .show .inl e
  .show .inr ⟨h,e⟩
 .rintro (e | e)
  .rw [e];show(qdm b d).mpr f
  .show e.1
section
variable{tps:LP}
theorem mo_perm(j:∀ a b,tA tps a b->a≠b){l:LS}(g:l.Nodup)(p:l.Perm l')(h1:l.length<=n)(h:l'.length<=m):mo tps n l=mo tps m l':=by
 have d:∀{l l':LS} {n m:Nat},l.Nodup->l.Perm l'->l.length<=n->l'.length<=m->mo tps n l<=mo tps m l':=λ{l l' n m} g p h1 h=>by
  obtain⟨f,i,c⟩:=qct j n h1 g;have:=qbZ j m h (p.nodup_iff.mp g) (f:=f) ⟨i.sym,i.tie,λa b e=>p.mem_iff.mp (i.inn a b e)⟩;have e:qbu f l=qbu f l':=by unfold qbu;show(p.filter _).length_eq
  lk
 show xT (d g p h1 h) (d (p.nodup_iff.mp g) p.symm h h1)
def tbQ(tps:LP)(ss:LS)(m:Nat):Nat:=mo tps ss.length (rmN ss m)
structure IsM(tps:LP)(ss:LS)(nb:Nat->Bool)(r top:Nat)(v:Nat):Prop where
 lo:tbQ tps ss r<=v
 up:∀ o,o<top->nb o=true->1+tbQ tps ss (jy r (2 ^ o))<=v
 at_:v=tbQ tps ss r\/∃ o,o<top/\nb o=true/\v=1+tbQ tps ss (jy r (2 ^ o))
theorem qeR(n:∀ a b,tA tps a b->a≠b)(d:ss.Nodup){k v:Nat}{x:Str}(E:ss[k]?=some x)(D:m.testBit k=true)(nb:Nat->Bool)(i:∀ o y,ss[o]?=some y->(nb o=true↔((jy m (2 ^ k)).testBit o=true/\tA tps x y)))(h:IsM tps ss nb (jy m (2 ^ k)) ss.length v):v=tbQ tps ss m:=by
 have C:(rmN ss m).Nodup:=d.filter _;have g:(rmN ss (jy m (2 ^ k))).Nodup:=d.filter _;have u:=rmN_perm d E D;have hl:=rmN_len ss m;have p:(x::rmN ss (jy m (2 ^ k))).length<=ss.length:=by rw[<- u.length_eq];show hl
 have e:tbQ tps ss m=mo tps (ss.length-1+1) (x::rmN ss (jy m (2 ^ k))):=by
  unfold tbQ;show mo_perm n C u hl (by lk)
 have j:(rmN ss (jy m (2 ^ k))).length<=ss.length-1:=by rw[yB] at p;lk
 have A:mo tps (ss.length-1) (rmN ss (jy m (2 ^ k)))=tbQ tps ss (jy m (2 ^ k)):=qfS n j (by lk) g;obtain⟨s,t,l⟩:=qbv (λy=>1+mo tps (ss.length-1) (del (rmN ss (jy m (2 ^ k))) y)) ((rmN ss (jy m (2 ^ k))).filter (tB tps x)) (mo tps (ss.length-1) (rmN ss (jy m (2 ^ k))))
 have r:∀{o:Nat} {y:Str},ss[o]?=some y->mo tps (ss.length-1) (del (rmN ss (jy m (2 ^ k))) y)=tbQ tps ss (jy (jy m (2 ^ k)) (2 ^ o)):=λ{o y} c=>by
  unfold tbQ;rw[qdn d c];show qfS n (yi (qbY _ _) j) (yi (qbY _ _) (by lk)) (g.filter _)
 have B:mo tps (ss.length-1+1) (x::rmN ss (jy m (2 ^ k)))=((rmN ss (jy m (2 ^ k))).filter (tB tps x)).foldl (λm' y=>max m' (1+mo tps (ss.length-1) (del (rmN ss (jy m (2 ^ k))) y))) (mo tps (ss.length-1) (rmN ss (jy m (2 ^ k)))):=rfl;rw[e,B];generalize ((rmN ss (jy m (2 ^ k))).filter (tB tps x)).foldl (λm' y=>max m' (1+mo tps (ss.length-1) (del (rmN ss (jy m (2 ^ k))) y))) (mo tps (ss.length-1) (rmN ss (jy m (2 ^ k))))=W at s t l;rw[A] at s l;apply xT
 .rcases h.at_ with z | ⟨o,f,no,z⟩
  .omega
  .have c:ss[o]?=some ss[o]:=yb f;generalize ss[o]=y at c;obtain⟨G,H⟩:=(i o y c).mp no;have:=t y (yq.mpr ⟨(qdm d c).mpr G,tB_iff.mpr H⟩)
   (try dsimp only at this)
   rw[r c] at this;lk
 .rcases l with z | ⟨y,c,z⟩
  .have:=h.lo;lk
  .obtain⟨w,F⟩:=yq.mp c;have q:y∈ss:=(yq.mp w).1;obtain⟨o,f⟩:=yf q
   (try dsimp only at z)
   rw[r f] at z;have:=h.up o (yc.mp f).1 ((i o y f).mpr ⟨(qdm d f).mp w,tB_iff.mp F⟩);lk
end
theorem Kx:FnScope ["_law_many_here","_law_bits_here","_law_found","_law_room","_law_low","_law_rest","_law_most","_law_near","_law_other"] wqq (qh qaS):=fS
theorem qQ(h:n<=5000):n<sizeLine:=Yj h (by decide)
theorem qff(m:ss.Nodup){TI:List (Nat×Nat)}(g:TJ ss.length TI){x:Str}(a:ss[i]?=some x)(b:ss[j]?=some y):tA (TI.map (nmP ss)) x y↔((i,j)∈TI\/(j,i)∈TI):=by
 have c:∀{i j:Nat} {x y:Str},ss[i]?=some x->ss[j]?=some y->((x,y)∈TI.map (nmP ss)↔(i,j)∈TI):=λ{i j x y} a b=>by
  constructor
  .intro h;obtain⟨q,n,e⟩:=yQ.mp h;unfold nmP at e
   injection e with e1 e2
   have l:=g.2.1 q n;have d:=qbd (ss:=ss) (i:=q.1) (by lk);have f:=qbd (ss:=ss) (i:=q.2) (by lk);rw[e1] at d;rw[e2] at f;have:=qC m d a;have:=qC m f b;have:q=(i,j):=Xj (by assumption) (by assumption);rw[<- this];show n
  .intro h;show yQ.mpr ⟨(i,j),h,?_⟩;have l:=g.2.1 _ h;dsimp only at l;have d:=qbd (ss:=ss) (i:=i) (by lk);have f:=qbd (ss:=ss) (i:=j) (by lk);rw[a] at d;rw[b] at f;unfold nmP;rw[<- yn d,<- yn f]
 unfold tA;rw[c a b,c b a]
theorem qeS{k:Nat}(h:m.testBit k=true):jy m (2 ^ k)<m:=by
 unfold jy
 have h1:m &&& 2 ^ k=2 ^ k:=by
  apply Xv;intro i;rw[xp,Yt];by_cases e:k=i
  .subst e;rw[h];simp
  .simp [e]
 have a:m &&& 2 ^ k<=m:=Nat.and_le_left;have b:=Xm k;lk
theorem qeT(tps:LP)(ss:LS):tbQ tps ss 0=0:=by
 unfold tbQ rmN;have:(ss.filter λs=>(0:Nat).testBit (ss.idxOf s))=[]:=List.filter_eq_nil_iff.mpr λs _=>by rw[Ka];decide
 rw[this];cases ss.length<;>rfl
section
variable{tps:LP}{ss:LS}{nb:Nat->Bool}{r top v:Nat}
theorem IsM.skip(h:IsM tps ss nb r top v)(e:¬ nb top=true):IsM tps ss nb r (top+1) v:=
 ⟨h.lo,λo d no=>by
  by_cases z:o=top
  .rw [z] at no;show absurd no e
  .show h.up o (by lk) no,by
  rcases h.at_ with z | ⟨o,a,b,c⟩
  .show .inl z
  .show .inr ⟨o,by lk,b,c⟩⟩
theorem IsM.take(h:IsM tps ss nb r top v)(e:nb top=true):IsM tps ss nb r (top+1) (max v (1+tbQ tps ss (jy r (2 ^ top)))):=
 ⟨yi h.lo (Kj _ _),λo d no=>by
  by_cases z:o=top
  .rw [z];show Nat.le_max_right _ _
  .show yi (h.up o (by lk) no) (Kj _ _),by
  by_cases z:v<=1+tbQ tps ss (jy r (2 ^ top))
  .show .inr ⟨top,by lk,e,Nat.max_eq_right z⟩
  .rw [Nat.max_eq_left (by lk)];rcases h.at_ with z | ⟨o,a,b,c⟩
   .show .inl z
   .show .inr ⟨o,by lk,b,c⟩⟩
end
def tbL(tps:LP)(ss:LS)(m:Nat):LN:=(List.range m).map (tbQ tps ss)
theorem qeU(h:i<m):(tbL tps ss m).getD i 0=tbQ tps ss i:=by
 unfold tbL;rw[Yu,yd,List.getElem?_range h];rfl
theorem qcu(tps:LP)(ss:LS)(m:Nat):(tbL tps ss m).length=m:=by unfold tbL;rw[ya,X7]
theorem tbL_succ(tps:LP)(ss:LS)(m:Nat):tbL tps ss (m+1)=tbL tps ss m++[tbQ tps ss m]:=by unfold tbL;rw[ky,yC];rfl
inductive spTbQ(vs:List V)(H:Hp)(Q:VK)(E:XK):Prop|mk (lb:Addr) (ss:LS) (TI:List (Nat×Nat)) (bs:LN) (_:vs=[.int (ss.length:Int),.ref lb]) (_:ss.length<=12) (_:ss.Nodup) (_:TJ ss.length TI) (_:H lb=some (.lst (zB bs))) (_:BtJ ss.length TI bs) (_:∀(l:Addr) (H':Hp),L2.Same H H'->H l=none->H' l=some (.lst (zB (tbL (TI.map (nmP ss)) ss (2 ^ ss.length))))->Q (.ref l) H')
theorem ok_tbQ(F:Fun K "_law_table" "_law_table" qaS f fd)(T:Txt K mg cc cw):wqP 1 f fd wqq spTbQ:=by
 show F.ok Kx λ_ _ _ _ H vs Q E hr h=>?_
 .obtain⟨lb,ss,TI,bs,rfl,ah,hn,hj,ae,N,q⟩:=h;have X:=ze hr;obtain⟨tps,s⟩:∃ tps,tps=TI.map (nmP ss):=⟨_,rfl⟩;rw[<- s] at q;have ao:2 ^ ss.length<=4096:=xW (by decide) ah;have p0:0<2 ^ ss.length:=Xm _;have ag:∀{i j:Nat} {x y:Str},ss[i]?=some x->ss[j]?=some y->(tA tps x y↔qfB bs i j=true):=λhx Y=>by rw[s,qff hn hj hx Y];show(N.2.2 _ _).symm
  have hi:∀ a b,tA tps a b->a≠b:=λa b h e=>by
   subst e;rw[s] at h;rcases h with h | h <;>
   .obtain⟨q,hq,e⟩:=yQ.mp h;unfold nmP at e
    injection e with e1 e2
    have l:=hj.2.1 q hq;have z1:=qbd (ss:=ss) (i:=q.1) (by lk);have z2:=qbd (ss:=ss) (i:=q.2) (by lk);rw[e1] at z1;rw[e2] at z2;have:=qC hn z1 z2;lk
  show⟨_,(qc (qm (i:=2) Kx.nd rfl (yK rfl) (qB (qa qf qd)))
 (qc (qX yT rfl (qbG rfl T.b_range (qa qf (qa (qt zJ qf (pv 0)) qd))) (qu (i:=3) Kx.nd rfl (yK rfl))
 (qc (qm (i:=4) Kx.nd rfl (yK rfl) qf)
 (qc (qck yT (qj (zn (K:=K) rfl X) (qt zm (qt qbH (pv 3) (pv 4)) qf) qf (qy _))
 (qe (qm (i:=4) Kx.nd rfl (yK rfl) (qt (je (K:=K) rfl) (pv 4) qf))))
 (qc (qm (i:=5) Kx.nd rfl (yK rfl) (qt zm (pv 3) (qa0 qb6 (qt zJ qf (pv 4)))))
 (qc (qm (i:=6) Kx.nd rfl (yK rfl) (qo (qp (K:=K) rfl X) (pv 2) (pv 5) (λ_ _=>rfl)))
 (qc (qm (i:=7) Kx.nd rfl (yK rfl) (qt zm (pv 5) (qo (qp (K:=K) rfl X) (pv 1) (pv 4) (λ_ _=>rfl))))
 (qc (qX yT rfl (qbG rfl T.b_range (qa (qt (je (K:=K) rfl) (pv 4) qf) (qa (pv 0) qd))) (qu (i:=8) Kx.nd rfl (yK rfl))
 (qe (qI (qj (zn (K:=K) rfl X) (qt zm (qt qbH (pv 7) (pv 8)) qf) qf (qy _)) (qe (qm (i:=6) Kx.nd rfl (yK rfl) (qr (qbJ rfl) rfl T.b_max boot_max (qa (pv 6) (qa (qt (je (K:=K) rfl) qf (qo (qp (K:=K) rfl X) (pv 2) (qt zm (pv 5) (qa0 qb6 (qt zJ qf (pv 8)))) (λ_ _=>rfl))) qd))))) qw)))
 (qe (qE (qaX (K:=K) rfl yI yZ Yb qK (pv 2) (qa (pv 6) qd)))))))))))
 (qe (qq (pv 2))))),?_⟩
  apply⟨wqR,λl hl=>?_⟩;have s0:=qz (Sr H) (o:=.lst [.int 0]) hl
  have e0:upd H l (.lst [.int 0]) l=some (.lst (zB (tbL tps ss 1))):=by
   rw[qb];unfold tbL zB;rw[ky];simp[qeT]
  generalize upd H l (.lst [.int 0])=H0 at s0 e0;apply qfT ?_;apply vI ⟨by lk,by lk,by decide⟩ ?_;ext;have aa:(1*2 ^ ((ss.length:Int)).toNat:Int)=((2 ^ ss.length:Nat):Int):=by rw[yV,Km,Xl];rfl
  rw[aa];show⟨1,_,rfl,⟨by decide,by decide,by lk,by lk⟩,jO (λi σ J=>∃ x3 x4 x5 x6 x7 L,σ=[some (.int (ss.length:Int)),some (.ref lb),some (.ref l),x3,x4,x5,x6,x7,L]/\L2.Same H J/\J l=some (.lst (zB (tbL tps ss (i+1))))) ⟨none,none,none,none,none,none,rfl,s0,e0⟩ (λi σ J ak D=>?_) fun σ J D=>?_⟩
  .obtain⟨x3,x4,x5,x6,x7,L,rfl,sJ,t⟩:=D;obtain⟨m,hm⟩:∃ m,m=i+1:=⟨_,rfl⟩;have em:(1:Int)+(i:Int)=(m:Int):=by lk
   rw[em];rw[<- hm] at t ⊢;have al:0<m:=by lk
   have am:m<2 ^ ss.length:=by lk
   have O:=sJ _ _ ae;ext;obtain⟨Z,u⟩:∃ Z:Nat->L2.St->Hp->Prop,Z=λd σ J'=>J'=J/\∃ g:Nat,σ=[some (.int (ss.length:Int)),some (.ref lb),some (.ref l),some (.int (m:Int)),some (.int (g:Int)),x5,x6,x7,L]/\d=ss.length-g/\∀ j,j<g->m.testBit j=false:=⟨_,rfl⟩;show⟨Z,⟨_,by rw[u];show⟨rfl,0,rfl,rfl,λj h=>by lk⟩⟩,λd σ J' M=>?_⟩;rw[u] at M;obtain⟨rfl,g,rfl,hd,n⟩:=M
   have R:g<ss.length:=by
    apply Yn;intro h;obtain⟨j,B⟩:=Nat.exists_testBit_of_ne_zero (x:=m) (by lk);by_cases ad:j<g
    .rw [n j ad] at B;cases B
    .have:2 ^ ss.length<=m:=yi (xW (by decide) (show ss.length<=j by lk)) (Nat.ge_two_pow_of_testBit B);lk
   apply vI (by lk) ?_;apply qaA ?_;rw[qcn];show⟨_,rfl,?_⟩
   cases hb:m.testBit g with
   | false =>
    show zd ⟨λai H'=>∃ m',m'<d/\Z m' ai H',λ_ _ z=>z,?_⟩;apply⟨ss.length-(g+1),by lk,?_⟩;rw[u];show⟨rfl,g+1,by simp,rfl,λj h=>?_⟩;by_cases e:j=g
    .rw [e];show hb
    .show n j (by lk)
   | true =>
    show yr ?_;obtain⟨x,hx⟩:∃ x,ss[g]?=some x:=⟨_,yb R⟩;obtain⟨r,p⟩:∃ r,r=jy m (2 ^ g):=⟨_,rfl⟩;have W:r<m:=by rw[p];show qeS hb
    have pw:∀ k:Nat,(1*2 ^ ((k:Int)).toNat:Int)=((2 ^ k:Nat):Int):=λk=>by rw[yV,Km,Xl];rfl
    apply vI ⟨by lk,by lk,by decide⟩ ?_;apply vU ?_;ext;rw[pw,jX,<- p];ext
    have tg:∀ k,k<m->(zB (tbL tps ss m))[k]?=some (.int (tbQ tps ss k:Nat)):=λk hk=>by
     rw[jt (by rw[qcu];show hk),qeU hk]
    show .inl (j9 t (qk (tg r W)) ?_);apply .inl (j9 O (qk (jt (by rw[N.1];show R))) ?_);ext;rw[qeQ];obtain⟨I,C⟩:∃ I,I=r &&& bs.getD g 0:=⟨_,rfl⟩;rw[<- C]
    have af:∀ o y,ss[o]?=some y->(I.testBit o=true↔(r.testBit o=true/\tA tps x y)):=λo y Y=>by
     rw[C,xp,yO,ag hx Y];rfl
    have S:∀ o,o<=g->I.testBit o=false:=λo ho=>by
     rw[C,xp,p,jv,Yt];by_cases e:o=g
     .subst e;simp
     .rw [n o (by lk)];rfl
    apply qfT ?_;apply⟨_,_,rfl,⟨by lk,by lk,by lk,by lk⟩,jO (λi σ G=>G=J'/\∃(v:Nat) (L:Option V),σ=[some (.int (ss.length:Int)),some (.ref lb),some (.ref l),some (.int (m:Int)),some (.int (g:Int)),some (.int (r:Int)),some (.int (v:Int)),some (.int (I:Int)),L]/\IsM tps ss (λo=>I.testBit o) r (g+1+i) v) ⟨rfl,_,_,rfl,yh _,(λo ho h=>by rw[S o (by lk)] at h;cases h),.inl rfl⟩ (λi σ G aj D=>?_) fun σ G D=>?_⟩
    .obtain⟨rfl,v,y8,rfl,hv⟩:=D;obtain⟨o,ho⟩:∃ o,o=g+1+i:=⟨_,rfl⟩;have eo:(g:Int)+1+(i:Int)=(o:Int):=by lk
     have an:o<ss.length:=by lk
     rw[eo];rw[<- ho] at hv;have ac:g+1+(i+1)=o+1:=by lk
     rw[ac];apply vI (by lk) ?_;apply qaA ?_;rw[qba];apply qL (λA=>?_) λA=>⟨rfl,v,_,rfl,hv.skip A⟩;apply vI ⟨by lk,by lk,by decide⟩ ?_;apply vU ?_;ext;rw[pw,jX];have U:jy r (2 ^ o)<m:=Yj (by unfold jy;lk) W;show .inl (j9 t (qk (tg _ U)) ?_);apply⟨_,_,rfl,?_⟩;show⟨rfl,max v (1+tbQ tps ss (jy r (2 ^ o))),some (.int (o:Int)),?_,hv.take A⟩;have e:((max v (1+tbQ tps ss (jy r (2 ^ o))):Nat):Int)=if 1+(tbQ tps ss (jy r (2 ^ o)):Int)>(v:Int) then 1+(tbQ tps ss (jy r (2 ^ o)):Int) else(v:Int):=by split<;>lk
     rw[e];rfl
    .obtain⟨rfl,v,y8,rfl,hv⟩:=D;have et:g+1+((ss.length:Int)-((g:Int)+1)).toNat=ss.length:=by lk
     rw[et,p] at hv;have ev:=qeR hi hn hx hb (λo=>I.testBit o) (λo y Y=>by rw[<- p];show af o y Y) hv;apply⟨.inl ⟨rfl,_,.of t⟩,?_⟩;apply⟨l,_,_,rfl,rfl,t,by unfold zB;rw[ya,qcu];show qQ (by lk),?_⟩;show⟨_,_,_,_,_,_,rfl,λc o z=>?_,?_⟩
     .rw [qg (λz'=>by rw[z',hl] at z;cases z)];show sJ c o z
     .rw [qb,tbL_succ,ev];unfold zB;rw[yC];rfl
  .obtain⟨x3,x4,x5,x6,x7,L,rfl,sJ,t⟩:=D;ext;have e:((2 ^ ss.length:Nat)-1:Int).toNat+1=2 ^ ss.length:=by lk
   rw[e] at t;show q l J sJ hl t
theorem KW:FnScope ["_law_purse_here","_law_names_here","_law_pairs","_law_found","_law_one","_law_other","_law_turn"] wqe (qh qaT):=fS
theorem Pu.same(h:Pu H p)(s:L2.Same H H'):Pu H' p:=by
 obtain⟨a,b,c,e,r⟩:=h;show⟨a,b,c,s _ _ e,r⟩
def IPZ(H:Hp)(l:Addr)(a:List (Addr×(Nat×Nat))):Prop:=H l=some (.lst (a.map λz=>V.ref z.1))/\∀ z∈a,H z.1=some (iT z.2)
theorem IPZ.same{a:List (Addr×(Nat×Nat))}(h:IPZ H l a)(s:L2.Same H H'):IPZ H' l a:=⟨s _ _ h.1,λz b=>s _ _ (h.2 z b)⟩
def qd3(PI:List (Nat×Nat)):LN:=PI.flatMap λq=>[q.1,q.2]
theorem qaU(PI:List (Nat×Nat))(q:Nat×Nat):qd3 (PI++[q])=qd3 PI++[q.1,q.2]:=by
 unfold qd3;rw[xF];rfl
theorem nums_len(PI:List (Nat×Nat)):(qd3 PI).length=2*PI.length:=by
 induction PI with
 | nil=>rfl
 | cons q r ih =>
  show(q.1::q.2::qd3 r).length=_;rw[yB,yB,ih,yB];lk
abbrev sT(q:Str×Str):HO:=.tup [.str q.1,.str q.2]
def SPZ(H:Hp)(l:Addr)(a:List (Addr×(Str×Str))):Prop:=H l=some (.lst (a.map λz=>V.ref z.1))/\∀ z∈a,H z.1=some (sT z.2)
theorem SPZ.pl{c:List (Addr×(Str×Str))}(h:SPZ H l c):PL H l (c.map Prod.fst) (c.map Prod.snd):=by
 show⟨by rw[List.map_map];show h.1,by rw[ya,ya],λk a b d hb=>?_⟩;rw[yd] at d hb;obtain⟨z,e,rfl⟩:=yo.mp d;rw[e] at hb;cases hb;show h.2 z (ye e)
structure NdP(ss:LS)(TI PI:List (Nat×Nat))(qs:LP):Prop where
 inn:∀ q∈qs,(q∈TI.map (nmP ss)\/(q.2,q.1)∈TI.map (nmP ss))/\q.1∈ss/\q.2∈ss/\q.1≠q.2
 per:(qi qs).Perm ((qd3 PI).map (tn ss))
 len:qs.length=PI.length
theorem NdP.snoc{TI PI:List (Nat×Nat)}(h:NdP ss TI PI qs)(e:ss.Nodup)(d:TJ ss.length TI){q:Nat×Nat}(f:q∈TI){y:Str×Str}(c:y=nmP ss q\/y=((nmP ss q).2,(nmP ss q).1)):NdP ss TI (PI++[q]) (qs++[y]):=by
 have m:nmP ss q∈TI.map (nmP ss):=YO f;obtain⟨h1,a,b⟩:=qeP e d _ m;show⟨λz g=>?_,?_,by rw[yu,yu,h.len];rfl⟩
 .rcases yw.mp g with k | k
  .show h.inn z k
  .rw [yx.mp k];rcases c with rfl | rfl
   .show⟨.inl m,h1,a,b⟩
   .show⟨.inr m,a,h1,b.symm⟩
 .rw [zE,qaU,yC];show h.per.append ?_;rcases c with rfl | rfl
  .show List.Perm.refl _
  .show List.Perm.swap _ _ _
theorem NdP.go{TI PI:List (Nat×Nat)}{rs:LP}(h:NdP ss TI PI qs)(i:ss.Nodup)(g:TJ ss.length TI)(f:∀ q∈PI,q∈TI)(nd:(qd3 PI).Nodup)(m:PI.length<=8)(d:rs.Perm qs):PGo ss (TI.map (nmP ss)) rs:=by
 have hl:∀ k∈qd3 PI,k<ss.length:=λk a=>by
  unfold qd3 at a;obtain⟨q,c,a⟩:=Y4.mp a;have:=g.2.1 q (f q c);rcases yv.mp a with z | z
  .omega
  .have:=yx.mp z;lk
 show⟨λq c=>h.inn q (d.mem_iff.mp c),?_,by rw[d.length_eq,h.len];lk⟩;have e:(qi rs).Perm (qi qs):=d.flatMap_right _;rw[e.nodup_iff,h.per.nodup_iff];show Xq.mpr (nd.imp_of_mem λ{x y} j l b e=>b (qcf i (hl x j) (hl y l) e))
inductive spNdJ(vs:List V)(H:Hp)(Q:VK)(E:XK):Prop|mk (p n l:Addr) (ss:LS) (TI:List (Nat×Nat)) (zs:List (Addr×(Nat×Nat))) (_:vs=[.ref p,.ref n,.ref l]) (_:Pu H p) (_:H n=some (.lst (ss.map V.str))) (_:n≠p) (_:NOk ss) (_:TJ ss.length TI) (_:IPZ H l zs) (_:l≠p) (_:(∀ z∈zs,z.2∈TI)) (_:(qd3 (zs.map Prod.snd)).Nodup) (_:zs.length<=8) (_:∀(r:Addr) (us:LX) (qs:LP) (H':Hp),But p H H'->Pu H' p->PL H' r us qs->PGo ss (TI.map (nmP ss)) qs->qs.length=zs.length->Q (.ref r) H')
theorem ok_ndJ(F:Fun K "_law_named" "_law_named" qaT f fd)(T:Txt K mg cc cw)(Ks:wqN 1 "_law_take" wh spTkP):wqP 2 f fd wqe spNdJ:=by
 show F.ok KW λ_ _ _ _ H vs Q E hr h=>?_
 .obtain⟨p,n,l,ss,TI,X,rfl,hp,hn,ao,hO,hT,hZ,am,L,an,h8,q⟩:=h;have hu:=ze hr;show⟨_,(qc (qm (i:=3) KW.nd rfl (yK rfl) (qB qd))
 (qc (qX yT rfl (qbj (K:=K) rfl (pv 2)) (qbh rfl (qY (qu (i:=4) KW.nd rfl (yK rfl)) (qY (qu (i:=5) KW.nd rfl (yK rfl)) qaa)))
 (qe (qE (qaX (K:=K) rfl yI yZ Yb qK (pv 3) (qa (qo (qp (K:=K) rfl hu) (qB (qa (jm (qa (qo (qp (K:=K) rfl hu) (pv 1) (pv 4) (λ_ _=>rfl)) (qa (qo (qp (K:=K) rfl hu) (pv 1) (pv 5) (λ_ _=>rfl)) qd))) (qa (jm (qa (qo (qp (K:=K) rfl hu) (pv 1) (pv 5) (λ_ _=>rfl)) (qa (qo (qp (K:=K) rfl hu) (pv 1) (pv 4) (λ_ _=>rfl)) qd))) qd))) (qx Ks (hmR hr) qF (qa (pv 0) (qa qf qd))) (λ_ _=>rfl)) qd)))))
 (qc (qm (i:=6) KW.nd rfl (yK rfl) (qx Ks (hmR hr) qF (qa (pv 0) (qa (qr (qbJ rfl) rfl T.b_max boot_max (qa qf (qa (qr (zg (K:=K) rfl) rfl T.b_len YQ (qa (pv 3) qd)) qd))) qd))))
 (qe (qq (qt (je (K:=K) rfl) (qZ (qc8 (K:=K) rfl) (pv 3) (jk (pv 6)) jw) (qZ (qc8 (K:=K) rfl) (pv 3) jw (jk (pv 6))))))))),?_⟩
  apply⟨wqQ,λh hh=>?_⟩;have s1:=qz (Sr H) (o:=.lst []) hh;have eh:upd H h (.lst []) h=some (.lst []):=qb;generalize upd H h (.lst [])=H1 at s1 eh;have I:h≠p:=hp.apart hh;apply qcW ?_;ext;have au:∀{c:Addr} {q:Nat×Nat},H c=some (iT q)->c≠p:=λr z=>by obtain⟨x,y,w,e,_⟩:=hp;rw[z,e] at r;cases r
  show⟨l,_,rfl,.of (s1 _ _ hZ.1),qP (xs:=X.map λz=>V.ref z.1) (λi σ J=>But p H J/\Pu J p/\∃(a:List (Addr×(Str×Str))) (y4 y5:Option V),σ=[some (.ref p),some (.ref n),some (.ref l),some (.ref h),y4,y5,none]/\SPZ J h a/\NdP ss TI ((X.take i).map Prod.snd) (a.map Prod.snd)) ⟨λc o _ e=>s1 c o e,hp.same s1,[],_,_,rfl,⟨eh,λz O=>by cases O⟩,⟨λq W=>(by cases W),List.Perm.refl _,rfl⟩⟩ (λi σ J _ hp=>.of (hp.1 _ _ am hZ.1)) (λi y σ J hy N=>?_) fun σ J N=>?_⟩
  .obtain⟨Y,pJ,a,y4,y5,rfl,G,U⟩:=N;rw[yd] at hy;obtain⟨j,R,rfl⟩:=yo.mp hy;have u:=ye R;have W:=hT.2.1 j.2 (L j u);have ez:=Y _ _ (au (hZ.2 j u)) (hZ.2 j u);have s:=Y _ _ ao hn;have av:i<X.length:=(yc.mp R).1;have ad:a.length<=8:=by have:=U.len;rw[ya,ya,yU] at this;lk
   show⟨j.1,_,rfl,.of ez,rfl,_,_,rfl,_,_,rfl,rfl,?_⟩;apply⟨.inl ⟨rfl,_,.of G.1⟩,?_⟩;apply qbe s (by lk) ?_;apply qbe s W.2 ?_;apply⟨wqS,λA aq=>?_⟩;have s2:=qz (Sr J) (o:=.tup [.str (tn ss j.2.1),.str (tn ss j.2.2)]) aq;have aa:upd J A (.tup [.str (tn ss j.2.1),.str (tn ss j.2.2)]) A=some (sT (nmP ss j.2)):=qb;generalize upd J A (.tup [.str (tn ss j.2.1),.str (tn ss j.2.2)])=J2 at s2 aa;apply qbe (s2 _ _ s) W.2 ?_;apply qbe (s2 _ _ s) (by lk) ?_;apply⟨wqS,λB ar=>?_⟩;have C:=qz (Sr J2) (o:=.tup [.str (tn ss j.2.2),.str (tn ss j.2.1)]) ar;have ac:upd J2 B (.tup [.str (tn ss j.2.2),.str (tn ss j.2.1)]) B=some (sT ((nmP ss j.2).2,(nmP ss j.2).1)):=qb;generalize upd J2 B (.tup [.str (tn ss j.2.2),.str (tn ss j.2.1)])=J3 at C ac;apply⟨wqS,λg hg=>?_⟩;have D:=qz (Sr J3) (o:=.lst [.ref A,.ref B]) hg;have eg:upd J3 g (.lst [.ref A,.ref B]) g=some (.lst [.ref A,.ref B]):=qb;generalize upd J3 g (.lst [.ref A,.ref B])=J4 at D eg;have v:=(s2.trans C).trans D;have p4:=pJ.same v;apply⟨p,2,rfl,p4,by decide,by decide,λd J5 hd b5 p5=>?_⟩;have pT:∀{c:Addr} {q:Str×Str},J4 c=some (sT q)->J5 c=some (sT q):=λr=>b5 _ _ (λz=>by obtain⟨x,y,w,e,_⟩:=p4;rw[z,e] at r;cases r) r;have ak:g≠p:=((pJ.same s2).same C).apart hg
   obtain⟨t,y,al,ht,as⟩:∃(t:Addr) (y:Str×Str),[V.ref A,V.ref B][d]?=some (.ref t)/\J5 t=some (sT y)/\(y=nmP ss j.2\/y=((nmP ss j.2).2,(nmP ss j.2).1)):=by
    match d,hd with
    | 0,_=>show⟨A,_,rfl,pT (D _ _ (C _ _ aa)),.inl rfl⟩
    | 1,_=>show⟨B,_,rfl,pT (D _ _ ac),.inr rfl⟩
   show .inl (j9 (b5 _ _ ak eg) (qk al) ?_);have Z:=b5 _ _ I (v _ _ G.1);apply⟨h,_,_,rfl,rfl,Z,by rw[ya];show qv (by lk),?_⟩;have kT:∀{c:Addr} {q:Str×Str} {o:HO},J5 c=some (sT q)->upd J5 h o c=some (sT q):=λr=>by rw[qg (λz=>by rw[z,Z] at r;cases r)];show r
   show⟨λc o n e=>?_,?_,a++[(t,y)],_,_,rfl,⟨by rw[qb,yC];rfl,λz O=>?_⟩,?_⟩
   .rw [qg (λz=>by rw[z,hh] at e;cases e)];show b5 _ _ n (v _ _ (Y c o n e))
   .obtain⟨a1,a2,a3,e,rr⟩:=p5;show⟨a1,a2,a3,by rw[qg I.symm];show e,rr⟩
   .rcases yw.mp O with z' | z'
    .show kT (pT (v _ _ (G.2 z z')))
    .rw [yx.mp z'];show kT ht
   .rw [yY,R,yC,yC];show U.snoc hO.nd hT (L j u) as
  .obtain⟨Y,pJ,a,y4,y5,rfl,G,U⟩:=N;rw[show(X.map λz=>V.ref z.1).length=X.length from ya _,Ye] at U;have ad:a.length=X.length:=by have:=U.len;rwa[ya,ya] at this
   apply qac G.1 ?_;rw[ya];apply⟨_,_,rfl,?_⟩
   obtain⟨M,eM,af,ag⟩:∃ M:Nat,(if ((a.length:Nat):Int)>1 then((a.length:Nat):Int) else 1)=(M:Int)/\0<M/\M<1000:=by
    by_cases h1:1<a.length
    .rw [yG (by lk)];show⟨a.length,rfl,by lk,by lk⟩
    .rw [yF (by lk)];show⟨1,rfl,by decide,by decide⟩
   rw[eM];apply⟨p,M,rfl,pJ,af,ag,λb H2 aw b2 p2=>?_⟩;have pT:∀{c:Addr} {q:Str×Str},J c=some (sT q)->H2 c=some (sT q):=λr=>b2 _ _ (λz=>by obtain⟨x,y,w,e,_⟩:=pJ;rw[z,e] at r;cases r) r;have e2:=b2 _ _ I G.1;have ae:=Y.trans7 b2;apply .inl ⟨h,_,rfl,.of e2,λg1 ah=>?_⟩;have ed:qb9 (a.map λz=>V.ref z.1) (some (b:Int)) none=(a.drop b).map λz=>V.ref z.1:=by rw[qbU,List.map_drop]
   rw[ed];have C:=qz (Sr H2) (o:=.lst ((a.drop b).map λz=>V.ref z.1)) ah;have e3:upd H2 g1 (.lst ((a.drop b).map λz=>V.ref z.1)) g1=some (.lst ((a.drop b).map λz=>V.ref z.1)):=qb;generalize upd H2 g1 (.lst ((a.drop b).map λz=>V.ref z.1))=H3 at C e3;apply .inl ⟨h,_,rfl,.of (C _ _ e2),λg2 ai=>?_⟩;have et:qb9 (a.map λz=>V.ref z.1) none (some (b:Int))=(a.take b).map λz=>V.ref z.1:=by rw[qag,Ko]
   rw[et];have D:=qz (Sr H3) (o:=.lst ((a.take b).map λz=>V.ref z.1)) ai;have e4:upd H3 g2 (.lst ((a.take b).map λz=>V.ref z.1)) g2=some (.lst ((a.take b).map λz=>V.ref z.1)):=qb;generalize upd H3 g2 (.lst ((a.take b).map λz=>V.ref z.1))=H4 at D e4;ext;show qdd K (V.ref g1) (V.ref g2) H4 _;show .inl ⟨g1,g2,_,_,rfl,rfl,D _ _ e3,e4,by rw[ya,ya,YA,yU];show yS (qv (by lk)),λg3 aj=>?_⟩;have s5:=qz (Sr H4) (o:=.lst (((a.drop b).map λz=>V.ref z.1)++(a.take b).map λz=>V.ref z.1)) aj;have Z:upd H4 g3 (.lst (((a.drop b).map λz=>V.ref z.1)++(a.take b).map λz=>V.ref z.1)) g3=some (.lst ((a.drop b++a.take b).map λz=>V.ref z.1)):=by rw[qb,yC]
   generalize upd H4 g3 (.lst (((a.drop b).map λz=>V.ref z.1)++(a.take b).map λz=>V.ref z.1))=H5 at s5 Z
   have m:(a.drop b++a.take b).Perm a:=by
    have h1:=List.perm_append_comm (l₁:=a.drop b) (l₂:=a.take b)
    rwa[kg] at h1
   have S:=(C.trans D).trans s5;have hS:SPZ H5 g3 (a.drop b++a.take b):=⟨Z,λz O=>S _ _ (pT (G.2 z (m.mem_iff.mp O)))⟩;show q g3 _ _ H5 (λc o n e=>S _ _ (ae c o n e)) (p2.same S) hS.pl (U.go hO.nd hT (λq W=>?_) an (by rw[ya];show h8) (m.map Prod.snd)) (by rw[ya,m.length_eq,ad]);obtain⟨z,O,rfl⟩:=yQ.mp W;show L z O
theorem uN:FnScope wqg wqc (qh qaV):=fS
def frI(tps:LP)(ss:LS)(n:Nat):LN:=(List.range n).filter λk=>decide (tbQ tps ss (jy (2 ^ ss.length-1) (2 ^ k))=tbQ tps ss (2 ^ ss.length-1))
def nrI(bs a:LN)(k:Nat):Bool:=!decide (k∈a)&&!(a.filter λj=>qfB bs k j).isEmpty
theorem qd4(p:Nat->Bool)(i:Nat):(List.range (i+1)).filter p=(List.range i).filter p++(if p i=true then [i] else []):=by
 rw[ky,xv,Yc,xS]
theorem qcv(p:Nat->Bool)(i:Nat):((List.range i).filter p).length<=i:=yi (Yv _ _) (by rw[X7];show yh _)
theorem ne_nilI{z:Addr}{xs:LN}{Q:VK}(hl:H l=some (.lst (xs.map iV)))(a:H z=some (.lst []))(q:Q (.bl (!xs.isEmpty)) H):qeh K true (.ref l) (.ref z) H Q:=by
 cases xs with
 | nil=>show .inr (.inl ⟨l,z,true,1,rfl,rfl,by decide,EqT.lst (n:=0) (e:=λ_=>true) (SqL.of hl) (SqL.of a) rfl λj x y h=>by(simp at h),q⟩)
 | cons x r=>show .inr (.inl ⟨l,z,false,1,rfl,rfl,by decide,EqT.lstL (SqL.of hl) (SqL.of a) (by simp),q⟩)
theorem pwI(k:Nat):(1*2 ^ ((k:Int)).toNat:Int)=((2 ^ k:Nat):Int):=by rw[yV,Km,Xl];rfl
inductive spFeQ(vs:List V)(H:Hp)(Q:VK)(E:XK):Prop|mk (lb lt:Addr) (ss:LS) (tps:LP) (_:vs=[.int (ss.length:Int),.ref lb,.ref lt]) (_:ss.length<=12) (_:H lt=some (.lst (zB (tbL tps ss (2 ^ ss.length))))) (_:∀(l:Addr) (H':Hp),L2.Same H H'->H l=none->H' l=some (.lst ((frI tps ss ss.length).map iV))->Q (.ref l) H')
inductive spNrQ(vs:List V)(H:Hp)(Q:VK)(E:XK):Prop|mk (lb lf:Addr) (bs fr:LN) (_:vs=[.ref lb,.ref lf]) (_:bs.length<=14) (_:fr.length<=14) (_:H lb=some (.lst (zB bs))) (_:H lf=some (.lst (fr.map iV))) (_:∀(l:Addr) (H':Hp),L2.Same H H'->H l=none->H' l=some (.lst (((List.range bs.length).filter (nrI bs fr)).map iV))->Q (.ref l) H')
def wdI(tps:LP)(ss:LS)(bs:LN)(k:Nat):Str:=if k∈frI tps ss ss.length then "loose" else if nrI bs (frI tps ss ss.length) k=true then "held" else "fast"
inductive spWdQ(vs:List V)(H:Hp)(Q:VK)(E:XK):Prop|mk (lb:Addr) (ss:LS) (TI:List (Nat×Nat)) (bs:LN) (_:vs=[.int (ss.length:Int),.ref lb]) (_:ss.length<=12) (_:ss.Nodup) (_:TJ ss.length TI) (_:H lb=some (.lst (zB bs))) (_:BtJ ss.length TI bs) (_:∀(l:Addr) (H':Hp),L2.Same H H'->H l=none->H' l=some (.lst ((List.range ss.length).map λk=>V.str (wdI (TI.map (nmP ss)) ss bs k)))->Q (.ref l) H')
theorem ok_feQ(F:Fun K "_law_free" "_law_free" qaV f fd)(T:Txt K mg cc cw):wqP 1 f fd wqc spFeQ:=by
 show F.ok uN λ_ _ _ _ H vs Q E r h=>?_
 .obtain⟨v,lt,ss,tps,rfl,t,d,q⟩:=h;have j:=ze r;have x:0<2 ^ ss.length:=Xm _
  have m:∀ k,k<2 ^ ss.length->(zB (tbL tps ss (2 ^ ss.length)))[k]?=some (.int (tbQ tps ss k:Nat)):=λk l=>by
   rw[jt (by rw[qcu];show l),qeU l]
  show⟨_,(qc (qm (i:=3) uN.nd rfl (XC rfl) (qt qbi (qt zJ qf (pv 0)) qf))
 (qe (qq (jG (sc:=qh qaV) (XN:=wqg) wqD 1 [2,3] rfl rfl rfl (by room) rfl (by room)
  (jz rfl T.b_range (qa (pv 0) qd)) (λ_ _ _ _=>(qu (i:=0) (show(wqD:LS).Nodup by room) rfl (yK rfl))) jF
  (λ_ _ _ _=>(zf (qj (zn (K:=K) rfl j) (qo (qp (K:=K) rfl j) (pv 1) (qt zm (pv 2) (qa0 qb6 (qt zJ qf (pv 0)))) (λ_ _=>rfl)) (qo (qp (K:=K) rfl j) (pv 1) (pv 2) (λ_ _=>rfl)) (qy _))))
  (λ_ _ _ _=>(pv 0)))))),?_⟩
  apply vI ⟨by lk,by lk,by decide⟩ ?_;ext;rw[pwI];have p:((2 ^ ss.length:Nat):Int)-1=((2 ^ ss.length-1:Nat):Int):=by lk
  rw[p];obtain⟨a,b⟩:∃ a,a=2 ^ ss.length-1:=⟨_,rfl⟩;rw[<- b];apply⟨_,rfl,by lk,by lk,?_⟩;rw[yV];show qas (lo:=0) (λi ys J=>J=H/\ys=(frI tps ss i).map iV) ⟨rfl,rfl⟩ (λi ys J u g=>?_) λys J g=>?_
  .obtain⟨rfl,rfl⟩:=g;rw[XA];apply vI ⟨by lk,by lk,by decide⟩ ?_;apply vU ?_;ext;rw[pwI,jX];have e:jy a (2 ^ i)<2 ^ ss.length:=Yj (by unfold jy;lk) (show a<2 ^ ss.length by lk);show .inl (j9 d (qk (m _ e)) ?_);apply .inl (j9 d (qk (m a (by lk))) ?_);apply qaA ?_;ext
   have n:frI tps ss (i+1)=frI tps ss i++(if decide (tbQ tps ss (jy a (2 ^ i))=tbQ tps ss a)=true then [i] else []):=by
    unfold frI;rw[qd4,<- b]
   have o:decide ((tbQ tps ss (jy a (2 ^ i)):Int)=(tbQ tps ss a:Int))=decide (tbQ tps ss (jy a (2 ^ i))=tbQ tps ss a):=Ym.mpr (by lk);rw[n,o];have l1:(frI tps ss i).length<=i:=qcv _ i;show qL (λh=>?_) λh=>?_
   .rw [yG h];apply⟨by rw[ya];show qQ (by lk),rfl,by rw[yC];rfl⟩
   .rw [yF h,Ys];show⟨rfl,rfl⟩
  .obtain⟨rfl,rfl⟩:=g;have l1:(frI tps ss ss.length).length<=ss.length:=qcv _ _;show⟨by rw[ya];show yS (qQ (by lk)),λs c=>?_⟩;show q s _ (qz (Sr J) c) c qb
def qc3:V->Bool
 | .str x=>jf x
 | _=>false
def qda:V->Str
 | .str x=>x
 | _=>""
theorem qal{x:V}(h:qc3 x=true):x=.str (qda x)/\jf (qda x)=true/\(qda x).length<=6:=by
 cases x with
 | str y =>
  show⟨rfl,h,?_⟩;have h':jf y=true:=h;unfold jf at h';split at h'
  .rename_i z;show z.2
  .cases h'
 | _=>cases h
inductive Th(p:Addr)(H:Hp):Nat->V->Prop
 | flat {n:Nat} {v:V} (f:qay v=true) (l:∀ s,v=.str s->s.length<=100000):Th p H n v
 | lst {n:Nat} {a:Addr} {xs:List V} (e:H a=some (.lst xs)) (ne:a≠p) (h:∀ x∈xs,Th p H n x) (l:xs.length<=1000):Th p H (n+1) (.ref a)
 | tup {n:Nat} {a:Addr} {xs:List V} (e:H a=some (.tup xs)) (ne:a≠p) (h:∀ x∈xs,Th p H n x) (l:xs.length<=1000):Th p H (n+1) (.ref a)
 | dct {n:Nat} {a:Addr} {kvs:List (Key×V)} (e:H a=some (.dK kvs)) (ne:a≠p):Th p H n (.ref a)
theorem Th.mono:∀{n:Nat} {v:V},Th p H n v->Th p H (n+1) v
 | _,_,.flat f l=>.flat f l
 | _,_,.lst e ne h l=>.lst e ne (λx a=>(h x a).mono) l
 | _,_,.tup e ne h l=>.tup e ne (λx a=>(h x a).mono) l
 | _,_,.dct e ne=>.dct e ne
theorem Th.keep(k:∀ b o,b≠p->H b=some o->H' b=some o):∀{n:Nat} {v:V},Th p H n v->Th p H' n v
 | _,_,.flat f l=>.flat f l
 | _,_,.lst e ne h l=>.lst (k _ _ ne e) ne (λx a=>(h x a).keep k) l
 | _,_,.tup e ne h l=>.tup (k _ _ ne e) ne (λx a=>(h x a).keep k) l
 | _,_,.dct e ne=>.dct (k _ _ ne e) ne
theorem Th.same(h:Th p H n v)(s:L2.Same H H'):Th p H' n v:=h.keep λb o _ e=>s b o e
def isB:V->Bool
 | .bl _=>true
 | _=>false
theorem Th.ty(h:Th p H n v):∃ t∈wqb,TyOf K H v (.type t)/\(qey t "str"=true->∃ x,v=.str x/\x.length<=100000)/\(qey t "str"=false->qc3 v=false) /\
  (qey t "tuple"=true->∃ a xs,v=.ref a/\H a=some (.tup xs)/\xs.length<=1000/\∀ x∈xs,Th p H n x)/\(qey t "tuple"=false->∀ a xs,v=.ref a->H a≠some (.tup xs))/\qey t "bool"=isB v:=by
 have no:∀{P:Prop} {a b:String},qey a b=false->qey a b=true->P:=λh1 c=>by rw[h1] at c;cases c
 have d:∀{P:Prop} {a b:String},qey a b=true->qey a b=false->P:=λh1 c=>by rw[h1] at c;cases c
 cases h with
 | flat f l =>
  cases v with
  | non=>show⟨_,by simp,.non,no (by decide),λ_=>rfl,no (by decide),λ_ _ _ e=>by(cases e),rfl⟩
  | bl x=>show⟨_,by simp,.bl x,no (by decide),λ_=>rfl,no (by decide),λ_ _ _ e=>by(cases e),rfl⟩
  | int x=>show⟨_,by simp,.int x,no (by decide),λ_=>rfl,no (by decide),λ_ _ _ e=>by(cases e),rfl⟩
  | str x=>show⟨_,by simp,.str x,λ_=>⟨x,rfl,l x rfl⟩,d (by decide),no (by decide),λ_ _ _ e=>by(cases e),rfl⟩
  | _=>cases f
 | lst e ne h l=>show⟨_,by simp,.lst e,no (by decide),λ_=>rfl,no (by decide),λ_ _ _ z=>by(cases z;rw[e];intro y;cases y),rfl⟩
 | tup e ne h l=>show⟨_,by simp,.tup e,no (by decide),λ_=>rfl,λ_=>⟨_,_,rfl,e,l,λx g=>(h x g).mono⟩,d (by decide),rfl⟩
 | dct e ne=>show⟨_,by simp,.dK e,no (by decide),λ_=>rfl,no (by decide),λ_ _ _ z=>by(cases z;rw[e];intro y;cases y),rfl⟩
inductive spNameG(vs:List V)(H:Hp)(Q:VK)(E:XK):Prop|mk (p:Addr) (n:Nat) (v:V) (_:vs=[v]) (_:Th p H n v) (_:∀ H',L2.Same H H'->Q (.bl (qc3 v)) H')
theorem ok_nameG(F:Fun K "is_name" "is_name" zo f fd)(T:Txt K mg cc cw):wqP 1 f fd wqC spNameG:=by
 show F.ok uJ λ_ _ _ _ H vs Q E D h=>?_
 .obtain⟨p,n,v,rfl,hv,q⟩:=h;show⟨_,(qc (qI (PW.pt (zu (qU (qT (qr (qad (K:=K) rfl) rfl T.b_isinstance YD (qa (pv 0) (qa (jK (v:=.ty "str") rfl T.b_str boot_str rfl) qd))))) (zk (qU (qdz qfi qfi qf (qr (zg (K:=K) rfl) rfl T.b_len YQ (qa (pv 0) qd)) (qbo rfl T.g_LONGEST_NAME)))))) (qe (qq jd)) qw)
 (qe (qq (qr (qgg (K:=K) rfl rfl) rfl T.b_all boot_all (qa (jG (sc:=qh zo) (XN:=wqC) ["sign"] 1 [] rfl rfl rfl (by room) rfl (by room)
  (jh (K:=K) rfl (pv 0)) (λ_ _ _ _=>(qu (i:=0) (show(["sign"]:LS).Nodup by room) rfl (yK rfl))) jF
  (λ_ _ _ _=>jP)
  (λ_ _ _ _=>(qdy qfi qfi jJ (pv 0) jJ))) qd))))),?_⟩
  obtain⟨t,u,ty,s,A,_,_,_⟩:=hv.ty (K:=K);apply qa7 (.inl ty) rfl (zc K t u "str" (by simp)) ?_;apply qL (λh=>?_) λh=>?_
  .ext;have z:=q H (Sr H);rw[A (by simpa using h)] at z;show z
  .obtain⟨x,rfl,B⟩:=s (by simpa using h);apply qgf (yi B (by decide)) ?_;ext;have e:=q;simp only[qc3,jf] at e
   have a:¬ (1<=x.length/\x.length<=6)->∀ H',L2.Same H H'->Q (.bl false) H':=λhc H' s=>by
    have z:=e H' s;rw[yF hc] at z;show z
   show qL (λh1=>?_) λh1=>?_
   .ext;show qL (λg=>?_) λg=>?_
    .ext;show a (λh=>?_) H (Sr H);simp only[Y6,xj] at g;lk
    .ext
     have m:1<=x.length/\x.length<=6:=by
      have C:=yk h1;simp only[Y6,xj,Classical.not_not] at g;lk
     rw[yG m] at e;show qdJ (λi ys H'=>H'=H/\ys=((x.cps.toList.take i).map sg).map V.bl) ⟨rfl,by simp⟩ (λi c ys H' hc r=>?_) λys H' r=>?_
     .obtain⟨rfl,rfl⟩:=r;apply zd ?_;ext
      have hl:(List.map V.bl (List.map sg (List.take i x.cps.toList))).length<sizeLine:=by
       rw[ya,ya,yU];show qv (yi (kh _ _) (by simpa [Str.length] using(show x.length<=1000 by lk)))
      have d:∀ b,b=sg c->(List.map V.bl (List.map sg (List.take i x.cps.toList)))++[V.bl b]=List.map V.bl (List.map sg (List.take (i+1) x.cps.toList)):=by
       intro b hb;have y:x.cps.toList[i]?=some c:=by simpa using hc
       rw[hb,yY,y];simp
      show qL (λj=>?_) λj=>?_
      .ext;show⟨hl,rfl,d _ (by unfold sg;rw[yG j])⟩
      .show⟨hl,rfl,d _ (by unfold sg;rw[yF j])⟩
     .obtain⟨rfl,rfl⟩:=r;have u:x.cps.toList.take x.cps.size=x.cps.toList:=by rw[<- Y5,Ye]
      rw[u];show⟨?_,λl hl=>?_⟩
      .rw [ya,ya];show yS (qv (by simpa [Str.length] using(show x.length<=1000 by lk)))
      .ext;show⟨l,x.cps.toList.map sg,rfl,SqL.of qb,?_⟩;have z:=e _ (qz (Sr H') (o:=.lst ((x.cps.toList.map sg).map V.bl)) hl);rw[Kc];show z
   .ext;show a (λh=>h1 (yA (by lk))) H (Sr H)
def j7(ss:LS)(v:V):Bool:=if qc3 v=true then decide (qda v∈ss) else false
inductive spPlaceG(vs:List V)(H:Hp)(Q:VK)(E:XK):Prop|mk (p:Addr) (n:Nat) (d:Addr) (ss:LS) (v:V) (_:vs=[.ref d,v]) (_:H d=some (.dK (qbp ss 0))) (_:Th p H n v) (_:∀ H',L2.Same H H'->Q (.bl (j7 ss v)) H')
theorem ok_placeG(F:Fun K "is_place" "is_place" zL f fd)(g:wqN 1 "is_name" wqC spNameG):wqP 2 f fd wO spPlaceG:=by
 show F.ok uD λ_ _ _ _ H vs Q E b h=>?_
 .obtain⟨p,n,d,ss,v,rfl,i,hv,q⟩:=h;have j:=ze b;show⟨_,(qe (qq (qbg (qx g (hmR b) qF (qa (pv 1) qd)) (qbf (za (qaf (K:=K) rfl j) (pv 1) (pv 0) (by with_unfolding_all rfl)))))),?_⟩;apply⟨p,n,v,rfl,hv,λH1 c=>?_⟩;ext;have a:=q H1 c;unfold j7 at a;show qL (λhc=>?_) λhc=>?_
  .ext;rw[yG hc] at a;obtain⟨e,_,_⟩:=qal hc;generalize qda v=x at a e;subst e;show .inr (.inl ⟨d,_,rfl,DGet.k (k:=Sum.inr x) (c d _ i),?_⟩);rw[qaF];show a
  .rw [yF hc] at a;show a
def qdo(ss:LS)(y z:V):Bool:=j7 ss y&&j7 ss z&&!decide (qda y=qda z)
def qc4(H:Hp)(ss:LS)(x:V):Option (Str×Str):=match x with
 | .ref a=>(match H a with
  | some (.tup [y,z])=>if qdo ss y z=true then some (qda y,qda z) else none
  | _=>none)
 | _=>none
theorem qd5{a:Addr}{y z:V}(e:H a=some (.tup [y,z])):qc4 H ss (.ref a)=if qdo ss y z=true then some (qda y,qda z) else none:=by
 unfold qc4;dsimp only;rw[e]
theorem zH{x:V}(h:∀ a xs,x=.ref a->H a=some (.tup xs)->xs.length≠2):qc4 H ss x=none:=by
 unfold qc4
 cases x with
 | ref a =>
  dsimp only;split
  .rename_i y z e;show absurd rfl (h a _ rfl e)
  .rfl
 | _=>rfl
theorem qc5{x:V}(h:Th p H n x)(k:∀ b o,b≠p->H b=some o->H' b=some o):qc4 H' ss x=qc4 H ss x:=by
 cases h with
 | flat f l=>cases x<;>first | rfl | cases f
 | lst e ne h l=>rw[zH (H:=H') (λa xs z y=>by(cases z;rw[k _ _ ne e] at y;cases y)),zH (H:=H) λa xs z y=>by(cases z;rw[e] at y;cases y)]
 | tup e ne h l=>unfold qc4;dsimp only;rw[k _ _ ne e,e]
 | dct e ne=>rw[zH (H:=H') (λa xs z y=>by(cases z;rw[k _ _ ne e] at y;cases y)),zH (H:=H) λa xs z y=>by(cases z;rw[e] at y;cases y)]
theorem tieV_same{x:V}(h:Th p H n x)(s:L2.Same H H'):qc4 H' ss x=qc4 H ss x:=qc5 h λb o _ e=>s b o e
theorem zZ(h:j7 ss v=true):qc3 v=true/\qda v∈ss:=by
 unfold j7 at h;split at h
 .rename_i z;show⟨z,yk h⟩
 .cases h
inductive spTwoG(vs:List V)(H:Hp)(Q:VK)(E:XK):Prop|mk (p:Addr) (n:Nat) (d:Addr) (ss:LS) (v:V) (_:vs=[.ref d,v]) (_:H d=some (.dK (qbp ss 0))) (_:Th p H n v) (_:∀ H',L2.Same H H'->Q (.bl (qc4 H ss v).isSome) H')
theorem ok_twoG(F:Fun K "are_two_places" "are_two_places" ji f fd)(T:Txt K mg cc cw)(A:wqN 2 "is_place" wO spPlaceG):wqP 3 f fd wO spTwoG:=by
 show F.ok KE λ_ _ _ _ H vs Q E x h=>?_
 .obtain⟨p,n,d,ss,v,rfl,D,hv,q⟩:=h;have g:=ze x;show⟨_,(qc (qI (PW.pt (zu (qU (qT (qr (qad (K:=K) rfl) rfl T.b_isinstance YD (qa (pv 1) (qa (jK (v:=.ty "tuple") rfl T.b_tuple kJ rfl) qd))))) (zk (qj (qae (K:=K) rfl g) (qr (zg (K:=K) rfl) rfl T.b_len YQ (qa (pv 1) qd)) qf (qy _))))) (qe (qq jd)) qw)
 (qc (qm (i:=2) KE.nd rfl (yK rfl) (qbg (qx A (hmR x) qF (qa (pv 0) (qa (qo (qp (K:=K) rfl g) (pv 1) qf (λ_ _=>rfl)) qd))) (qbf (qx A (hmR x) qF (qa (pv 0) (qa (qo (qp (K:=K) rfl g) (pv 1) qf (λ_ _=>rfl)) qd))))))
 (qe (qq (qbg (pv 2) (qbf (za (qae (K:=K) rfl g) (qo (qp (K:=K) rfl g) (pv 1) qf (λ_ _=>rfl)) (qo (qp (K:=K) rfl g) (pv 1) qf (λ_ _=>rfl)) (qy _)))))))),?_⟩
  obtain⟨t,M,ty,_,_,h1,J,_⟩:=hv.ty (K:=K);apply qa7 (.inl ty) rfl (zc K t M "tuple" (by simp)) ?_;apply qL (λh=>?_) λh=>?_
  .ext;have z:=q H (Sr H);rw[zH (λa xs e y=>absurd y (J (by simpa using h) a xs e))] at z;show z
  .obtain⟨a,xs,rfl,b,_,u⟩:=h1 (by simpa using h);apply qfN b ?_;apply .inl ⟨rfl,rfl,?_⟩;apply qL (λh=>?_) λh=>?_
   .ext;have z:=q H (Sr H)
    rw[zH (λW U e y=>by
     cases e;rw[b] at y;cases y;intro I;rw[I] at h;simp[eqV] at h)] at z
    show z
   .have hl:xs.length=2:=by
     simp only[Xy,eqV,Y6,Bool.not_eq_false'] at h;have h':((xs.length:Int)==2)=true:=by simpa using h
     have:=eq_of_beq h';lk
    match xs,hl,b,u with
    | [y,z],_,b,u =>
     have N:=u y (by simp);have O:=u z (by simp);rw[qd5 b] at q;apply .inl (qaH b rfl ?_);apply⟨p,n,d,ss,y,rfl,D,N,λH1 c=>?_⟩;ext
     have l:∀ H2,L2.Same H H2->¬ (j7 ss y=true/\j7 ss z=true)->Q (.bl false) H2:=λH2 j L=>by
      have:=q H2 j;rw[yF (λe=>L (by unfold qdo at e;simp only[yO] at e;show⟨e.1.1,e.1.2⟩))] at this;show this
     show qL (λr=>?_) λr=>?_
     .ext;show .inl (qaH (c _ _ b) rfl ?_);apply⟨p,n,d,ss,z,rfl,c _ _ D,O.same c,λH2 j=>?_⟩;apply qL (λs=>?_) λs=>?_
      .ext;show .inl (qaH (j _ _ (c _ _ b)) rfl ?_);apply .inl (qaH (j _ _ (c _ _ b)) rfl ?_);obtain⟨R,_⟩:=zZ r;obtain⟨S,_⟩:=zZ s;obtain⟨B,_,_⟩:=qal R;obtain⟨C,_,_⟩:=qal S;have m:=q H2 (c.trans j);unfold qdo at m;rw[r,s] at m;generalize qda y=o at B m;generalize qda z=sz at C m;subst B C;show .inl ⟨rfl,rfl,?_⟩
       have e:(if true=true then !eqV (V.str o) (V.str sz) else eqV (V.str o) (V.str sz))=(if (true&&true&&!decide (o=sz))=true then some (o,sz) else none).isSome:=by
        by_cases G:o=sz
        .subst G;simp[eqV]
        .simp [eqV,G]
       rw[e];show m
      .show l H2 (c.trans j) λe=>s e.2
     .ext;show yr ?_;show l H1 c λe=>r e.1
theorem qb1{x:V}{t:Str×Str}(h:qc4 H ss x=some t):∃ a,x=.ref a/\H a=some (.tup [.str t.1,.str t.2])/\jf t.1=true/\jf t.2=true/\t.1.length<=6/\t.2.length<=6/\t.1∈ss/\t.2∈ss/\t.1≠t.2:=by
 unfold qc4 at h;split at h
 .rename_i a
  split at h
  .rename_i y z e
   split at h
   .rename_i hp
    cases h;unfold qdo at hp;simp only[yO] at hp;obtain⟨⟨h1,g⟩,i⟩:=hp;obtain⟨l,m1⟩:=zZ h1;obtain⟨m,j⟩:=zZ g;obtain⟨b,d,l1⟩:=qal l;obtain⟨c,f,l2⟩:=qal m;show⟨a,rfl,?_,d,f,l1,l2,m1,j,?_⟩
    .show H a=some (.tup [.str (qda y),.str (qda z)]);rw[<- b,<- c];show e
    .simpa using i
   .cases h
  .cases h
 .cases h
def qaB(H:Hp)(ss:LS)(tps:LP)(x:V):Option (Str×Str):=match qc4 H ss x with
 | some ab=>if ab∈tps\/(ab.2,ab.1)∈tps then some ab else none
 | none=>none
theorem tieT_same{x:V}(h:Th p H n x)(s:L2.Same H H'):qaB H' ss tps x=qaB H ss tps x:=by unfold qaB;rw[tieV_same h s]
theorem qc6{x:V}(h:qaB H ss tps x=some ab):qc4 H ss x=some ab/\(ab∈tps\/(ab.2,ab.1)∈tps):=by
 unfold qaB at h
 cases e:qc4 H ss x with
 | none=>rw[e] at h;cases h
 | some q =>
  rw[e] at h;dsimp only at h;split at h
  .cases h;show⟨rfl,by assumption⟩
  .cases h
def apL(H:Hp)(ss:LS)(tps:LP):LS->List V->Bool
 | _,[]=>true
 | seen,x::r=>match qaB H ss tps x with
  | none=>false
  | some ab=>if ab.1∈seen\/ab.2∈seen then false else apL H ss tps (seen++[ab.1,ab.2]) r
def apV(H:Hp)(ss:LS)(tps:LP)(v:V):Bool:=match v with
 | .ref a=>(match H a with
  | some (.lst xs)=>apL H ss tps [] xs
  | _=>false)
 | _=>false
theorem qaG{a:Addr}(e:H a=some (.lst xs)):apV H ss tps (.ref a)=apL H ss tps [] xs:=by
 unfold apV;dsimp only;rw[e]
theorem qaC(h:∀ a xs,v=.ref a->H a≠some (.lst xs)):apV H ss tps v=false:=by
 unfold apV;split
 .split
  .rename_i a _ xs e;show absurd e (h a xs rfl)
  .rfl
 .rfl
theorem tieT_keep{x:V}(h:Th p H n x)(k:∀ b o,b≠p->H b=some o->H' b=some o):qaB H' ss tps x=qaB H ss tps x:=by unfold qaB;rw[qc5 h k]
theorem qd6(k:∀ b o,b≠p->H b=some o->H' b=some o):∀{xs:List V} {seen:LS},(∀ y∈xs,∃ n,Th p H n y)->apL H' ss tps seen xs=apL H ss tps seen xs
 | [],_,_=>rfl
 | x::r,seen,h=>by
  show(match qaB H' ss tps x with | none=>false | some ab=>if ab.1∈seen\/ab.2∈seen then false else apL H' ss tps (seen++[ab.1,ab.2]) r)=(match qaB H ss tps x with | none=>false | some ab=>if ab.1∈seen\/ab.2∈seen then false else apL H ss tps (seen++[ab.1,ab.2]) r);rw[tieT_keep (h x yL).choose_spec k]
  cases qaB H ss tps x with
  | none=>rfl
  | some ab=>dsimp only;rw[qd6 k λy a=>h y (yE _ a)]
theorem qd7(h:Th p H n v)(k:∀ b o,b≠p->H b=some o->H' b=some o):apV H' ss tps v=apV H ss tps v:=by
 cases h with
 | flat f l =>
  have no:∀{G:Hp} (a:Addr) (xs:List V),v=.ref a->G a≠some (.lst xs):=λa xs e=>by rw[e] at f;cases f
  rw[qaC no,qaC no]
 | lst e ne h l=>rw[qaG e,qaG (k _ _ ne e),qd6 k λy g=>⟨_,h y g⟩]
 | tup e ne h l=>rw[qaC (λa xs d c=>by cases d;rw[k _ _ ne e] at c;cases c),qaC (λa xs d c=>by cases d;rw[e] at c;cases c)]
 | dct e ne=>rw[qaC (λa xs d c=>by cases d;rw[k _ _ ne e] at c;cases c),qaC (λa xs d c=>by cases d;rw[e] at c;cases c)]
theorem qcw(h:Th p H n v)(s:L2.Same H H'):apV H' ss tps v=apV H ss tps v:=qd7 h λb o _ e=>s b o e
inductive spHtG(cw:Addr)(vs:List V)(H:Hp)(Q:VK)(E:XK):Prop|mk (p x:Addr) (k:Nat) (ss:LS) (ns:LN) (tps:LP) (v:V) (_:vs=[.ref x,v]) (_:WebAt cw H x ss ns) (_:Adj ss ns tps) (_:Th p H (k+1) v) (_:∀ H',L2.Same H H'->Q (.bl (qaB H ss tps v).isSome) H')
inductive spApG(cw:Addr)(vs:List V)(H:Hp)(Q:VK)(E:XK):Prop|mk (p x:Addr) (ss:LS) (ns:LN) (tps:LP) (v:V) (_:vs=[.ref x,v]) (_:WebAt cw H x ss ns) (_:Adj ss ns tps) (_:Th p H 3 v) (_:∀ H',L2.Same H H'->Q (.bl (apV H ss tps v)) H')
theorem ok_htG(F:Fun K "has_tie" "Web.has_tie" jR f fd)(T:Txt K mg cc cw)(y:wqN 3 "are_two_places" wO spTwoG)(L:wqO 6 cw "tied" wqd (spTied cw)):wqP 7 f fd wX (spHtG cw):=by
 show F.ok uq λ_ _ _ _ H vs Q E g h=>?_
 .obtain⟨p,x,k,ss,ns,tps,v,rfl,s,B,hv,q⟩:=h;have t:=ze g;obtain⟨u,n,ol,O,hb,d,G,D,hw⟩:=id s;show⟨_,(qe (qq (qbg (qx y (hmR g) qF (qa (qA (K:=K) rfl (pv 0) rfl) (qa (pv 1) qd))) (qbf (qH L (hmR g) (pv 0) (qa (qo (qp (K:=K) rfl t) (pv 1) qf (λ_ _=>rfl)) (qa (qo (qp (K:=K) rfl t) (pv 1) qf (λ_ _=>rfl)) qd))))))),?_⟩;apply .inl ⟨x,cw,u,_,.ref n,rfl,hb,T.wcl,T.wn,zj,?_⟩;apply⟨p,k+1,n,ss,v,rfl,d,hv,λH1 c=>?_⟩
  cases i:qc4 H ss v with
  | none =>
   have e:(qaB H ss tps v).isSome=false:=by unfold qaB;rw[i];rfl
   have:=q H1 c;rw[e] at this;show⟨false,rfl,qL (λh=>by cases h) λ_=>?_⟩;show this
  | some ab =>
   obtain⟨a,rfl,A,M,N,l1,l2,m1,I,C⟩:=qb1 i;show⟨true,rfl,zd ?_⟩;have b:=c _ _ A;apply⟨x,u,_,rfl,c _ _ hb,qaz (by room),?_⟩;apply .inl (qaH b (v:=.str ab.1) (qk (j:=0) rfl) ?_);apply .inl (qaH b (v:=.str ab.2) (qk (j:=1) rfl) ?_);ext;obtain⟨m,r⟩:=yf m1;obtain⟨l,o⟩:=yf I;show⟨x,ss,ns,ab.1,ab.2,m,l,rfl,s.same c,r,o,λH2 J=>?_⟩
   have e:(qaB H ss tps (.ref a)).isSome=(ns.getD m 0).testBit l:=by
    unfold qaB;rw[i];dsimp only;rw[Y9,B m l ab.1 ab.2 r o];split
    .rename_i h;show⟨λ_=>h,λ_=>rfl⟩
    .rename_i h;show⟨(λz=>by cases z),λz=>absurd z h⟩
   rw[<- e];show q H2 (c.trans J)
theorem ok_apG(F:Fun K "are_pairs" "are_pairs" zq f fd)(T:Txt K mg cc cw)(K5:wqO 7 cw "has_tie" wX (spHtG cw)):wqP 8 f fd wqF (spApG cw):=by
 show F.ok KF λ_ _ _ _ H vs Q E hr h=>?_
 .obtain⟨p,x,ss,ns,tps,v,rfl,hW,hA,hv,q⟩:=h;have B:=ze hr;obtain⟨wx,dd,ol,nn,hb,ag,ai,ah,hw⟩:=id hW;show⟨_,(qc (qI (qU (qT (qr (qad (K:=K) rfl) rfl T.b_isinstance YD (qa (pv 1) (qa (jK (v:=.ty "list") rfl T.b_list xz rfl) qd))))) (qe (qq jd)) qw)
 (qc (qm (i:=2) KF.nd rfl (yK rfl) jr)
 (qc (qX yT rfl (jh (K:=K) rfl (pv 1)) (qu (i:=3) KF.nd rfl (yK rfl))
 (qc (qI (PW.pt (zu (qU (qT (qH K5 (hmR hr) (pv 0) (qa (pv 3) qd)))) (zu (qj (qaf (K:=K) rfl B) (qo (qp (K:=K) rfl B) (pv 3) qf (λ_ _=>rfl)) (pv 2) (by with_unfolding_all rfl)) (zk (qj (qaf (K:=K) rfl B) (qo (qp (K:=K) rfl B) (pv 3) qf (λ_ _=>rfl)) (pv 2) (by with_unfolding_all rfl)))))) (qe (qq jd)) qw)
 (qc (jN jd (jM (pv 2) (qo (qp (K:=K) rfl B) (pv 3) qf (λ_ _=>rfl)) (jQ B)))
 (qe (jN jd (jM (pv 2) (qo (qp (K:=K) rfl B) (pv 3) qf (λ_ _=>rfl)) (jQ B)))))))
 (qe (qq jd))))),?_⟩
  ext;by_cases n:∃ a xs,v=.ref a/\H a=some (.lst xs)
  .obtain⟨a,xs,rfl,C⟩:=n
   obtain⟨af,ae,aj⟩:a≠p/\(∀ y∈xs,Th p H 2 y)/\xs.length<=1000:=by
    cases hv with
    | lst e ne h l=>rw[C] at e;cases e;show⟨ne,h,l⟩
    | tup e ne h l=>rw[C] at e;cases e
    | dct e ne=>rw[C] at e;cases e
    | flat f l=>cases f
   rw[qaG C] at q;show qa7 (.inl (.lst C)) rfl (zc K "list" (by simp) "list" (by simp)) ?_;apply yr ?_;ext;intro d M;have s1:=qz (Sr H) (o:=.dK []) M;have ed:upd H d (.dK []) d=some (.dK (qbl [])):=qb;generalize upd H d (.dK [])=H1 at s1 ed;apply .inl ⟨⟨_,.of (s1 _ _ C)⟩,qP (xs:=xs) (λi σ J=>L2.Same H J/\∃ y3 seen,σ=[some (.ref x),some (.ref a),some (.ref d),y3]/\J d=some (.dK (qbl seen))/\seen.length=2*i/\apL H ss tps [] xs=apL H ss tps seen (xs.drop i)) ⟨s1,_,[],rfl,ed,rfl,rfl⟩ (λi σ J _ S=>.of (S.1 _ _ C)) (λi y σ J hy S=>?_) fun σ J S=>?_⟩
   .obtain⟨G,y3,seen,rfl,A,ad,g⟩:=S;have aa:i<xs.length:=(yc.mp hy).1
    have Z:xs.drop i=y::xs.drop (i+1):=by
     rw[List.drop_eq_getElem_cons aa];have:=(yc.mp hy).2;rw[this]
    rw[Z] at g;have W:=ae y (ye hy)
    have s:∀ m,L2.Same H m->apL H ss tps [] xs=false->Q (.bl false) m:=λm I e=>by
     have:=q m I
     rwa[e] at this
    apply⟨x,wx,_,rfl,G _ _ hb,qaz (by room),?_⟩;apply⟨p,x,1,ss,ns,tps,y,rfl,hW.same G,hA,W.same G,λm I=>?_⟩;rw[tieT_same W G];have r:=G.trans I
    cases U:qaB H ss tps y with
    | none =>
     apply zd ?_;apply s m r ?_;rw[g];show(match qaB H ss tps y with | none=>false | some ab=>_)=_;rw[U]
    | some ab =>
     obtain⟨t1,t2⟩:=qc6 U;obtain⟨b,rfl,X,n1,n2,l1,l2,m1,m2,ac⟩:=qb1 t1;have u:=r _ _ X
     have c:apL H ss tps [] xs=if ab.1∈seen\/ab.2∈seen then false else apL H ss tps (seen++[ab.1,ab.2]) (xs.drop (i+1)):=by
      rw[g];show(match qaB H ss tps (.ref b) with | none=>false | some ab=>_)=_;rw[U]
     apply yr ?_;apply .inl (qaH u (v:=.str ab.1) (qk (j:=0) rfl) ?_);apply .inr (.inl ⟨d,_,rfl,DGet.k (k:=Sum.inr ab.1) (I _ _ A),?_⟩);rw[yF (by decide),zO];apply qL (λD=>?_) λD=>?_
     .ext;show zd ?_;apply s m r (by rw[c,yG (.inl (yk D))])
     .have N:ab.1∉seen:=λe=>D (yA e);apply .inl (qaH u (v:=.str ab.2) (qk (j:=1) rfl) ?_);apply .inr (.inl ⟨d,_,rfl,DGet.k (k:=Sum.inr ab.2) (I _ _ A),?_⟩);rw[yF (by decide),zO];apply qL (λD=>?_) λD=>?_
      .ext;show s m r (by rw[c,yG (.inr (yk D))])
      .have O:ab.2∉seen:=λe=>D (yA e);rw[yF (λh=>h.elim N O)] at c;apply .inl (qaH u (v:=.str ab.1) (qk (j:=0) rfl) ?_);apply .inr ⟨d,_,rfl,DPut.k (k:=Sum.inr ab.1) (I _ _ A) (by unfold qbl;rw[ya,YT];lk),?_⟩;rw[qbt N];have s3:=qa9 r (o:=.dK (qbl (seen++[ab.1]))) M;have e3:upd m d (.dK (qbl (seen++[ab.1]))) d=some (.dK (qbl (seen++[ab.1]))):=qb;have Y:b≠d:=λz=>by rw[z] at X;rw[X] at M;cases M
       have L:upd m d (.dK (qbl (seen++[ab.1]))) b=some (.tup [.str ab.1,.str ab.2]):=by rw[qg Y];show u
       generalize upd m d (.dK (qbl (seen++[ab.1])))=J3 at s3 e3 L;apply .inl (qaH L (v:=.str ab.2) (qk (j:=1) rfl) ?_);apply .inr ⟨d,_,rfl,DPut.k (k:=Sum.inr ab.2) e3 (by unfold qbl;rw[ya,yu,YT];simp only[yB,Yk];lk),?_⟩;rw[qbt (λz=>by rcases yw.mp z with z | z;show O z;show ac (yx.mp z).symm)];show⟨qa9 s3 M,_,seen++[ab.1]++[ab.2],rfl,qb,by simp only[yu,yB,Yk];lk,by rw[c,Yp];rfl⟩
   .obtain⟨G,y3,seen,rfl,A,ad,g⟩:=S;rw[kY] at g;ext;have:=q J G
    rwa[g] at this
  .have R:∀(a:Addr) (xs:List V),v=.ref a->H a≠some (.lst xs):=λa xs e e'=>n ⟨a,xs,e,e'⟩;rw[qaC R] at q
   obtain⟨t,U,he,ty⟩:∃ t:String,t∈wqb/\qey t "list"=false/\TyOf K H v (.type t):=by
    cases hv with
    | flat f l =>
     cases v with
     | non=>show⟨_,by simp,rfl,.non⟩
     | bl b=>show⟨"bool",by simp,rfl,.bl b⟩
     | int i=>show⟨"int",by simp,rfl,.int i⟩
     | str z=>show⟨"str",by simp,rfl,.str z⟩
     | _=>cases f
    | lst e ne h l=>show absurd e (R _ _ rfl)
    | tup e ne h l=>show⟨"tuple",by simp,rfl,.tup e⟩
    | dct e ne=>show⟨"dict",by simp,rfl,.dK e⟩
   show qa7 (.inl ty) rfl (zc K t U "list" (by simp)) ?_;rw[he];apply zd ?_;apply q H (Sr H)
def BdA(p cw:Addr)(H:Hp)(x:Addr)(ss:LS)(ns:LN)(tps:LP)(v:V):Prop:=WebAt cw H x ss ns/\Adj ss ns tps/\Th p H 3 v/\apV H ss tps v=false
inductive spPnB(cc:Nat->Addr)(cw:Addr)(vs:List V)(H:Hp)(u2_:VK)(E:XK):Prop|mk (p x:Addr) (ss:LS) (ns:LN) (tps:LP) (v:V) (_:vs=[.ref x,v]) (_:BdA p cw H x ss ns tps v) (_:Rz cc H E (0,v))
inductive spFiB(cc:Nat->Addr)(cw:Addr)(vs:List V)(H:Hp)(u2_:VK)(E:XK):Prop|mk (G:Hp) (p y dx x:Addr) (ss:LS) (ns:LN) (tps:LP) (v:V) (_:vs=[.ref y,.ref x,v]) (_:H y=some (.ins (cc 9) dx [])) (_:G y=none) (_:L2.Same G H) (_:BdA p cw G x ss ns tps v) (_:Rz cc G E (0,v))
theorem BdA.same(h:BdA p cw H x ss ns tps v)(s:L2.Same H H'):BdA p cw H' x ss ns tps v:=⟨h.1.same s,h.2.1,h.2.2.1.same s,(qcw h.2.2.1 s).trans h.2.2.2⟩
theorem ok_pnB(F:Fun K "partners_in" "partners_in" jS f fd)(T:Txt K mg cc cw)(l:XMakeOk P w K mg base 2 (cc 0) "NoPairs" wZ (spX (cc 0) (qe1 0)))(m:wqN 8 "are_pairs" wqF (spApG cw)):FnOk P w K mg base (CX1 P w) 9 f fd wqG (spPnB cc cw):=by
 show F.ok1 KB (λvs H Q E h=>?_) λ_ _ _ _ H vs Q E c h=>?_
 .cases h;subst_vars;rfl
 .obtain⟨p,x,ss,ns,tps,v,rfl,⟨g,d,hv,b⟩,e⟩:=h;have a:=ze c;show⟨_,(qc (qI (qU (qT (qx m (hmR c) qF (qa (pv 0) (qa (pv 1) qd))))) (qe (qdf (K:=K) rfl qaN (qfO l (hmR c) (qa (pv 1) qd)))) qw)
 (qc (qm (i:=2) KB.nd rfl (yK rfl) jr)
 (qc (qX PassesOwn.leaving rfl (jh (K:=K) rfl (pv 1)) (qu (i:=3) KB.nd rfl (yK rfl))
 (qc (jN (qo (qp (K:=K) rfl a) (pv 3) qf (λ_ _=>rfl)) (jM (pv 2) (qo (qp (K:=K) rfl a) (pv 3) qf (λ_ _=>rfl)) (jQ a)))
 (qe (jN (qo (qp (K:=K) rfl a) (pv 3) qf (λ_ _=>rfl)) (jM (pv 2) (qo (qp (K:=K) rfl a) (pv 3) qf (λ_ _=>rfl)) (jQ a))))))
 (qe (qq (pv 2)))))),?_⟩
  apply⟨p,x,ss,ns,tps,v,rfl,g,d,hv,λH1 j=>?_⟩;rw[b];apply zd ?_;apply qa8 (T.xat 0 (by decide)) (e.later j)
theorem ok_fiB(F:Fun K "__init__" "Forest.__init__" jU f fd)(T:Txt K mg cc cw)(c:DefOk P w K mg base (CX1 P w) 9 "partners_in" wqG (spPnB cc cw))(d:wqO 8 (cc 9) "grow" wql (spGw cc cw)):FnOk P w K mg base (CX1 P w) 10 f fd wqa (spFiB cc cw):=by
 show F.ok1 uu (λvs H Q E h=>?_) λ_ _ _ _ H vs Q E a h=>?_
 .cases h;subst_vars;rfl
 .obtain⟨G,p,y,dx,x,ss,ns,tps,v,rfl,i,g,j,hb,e⟩:=h;have l:=ze a;show⟨_,(qc (qS (K:=K) rfl (pv 0) (pv 1) rfl)
 (qc (qS (K:=K) rfl (pv 0) (qeC c (hmR a) qaN (qa (pv 1) (qa (pv 2) qd))) rfl)
 (qc (qS (K:=K) rfl (pv 0) jr rfl)
 (qc (qS (K:=K) rfl (pv 0) jr rfl)
 (qc (qS (K:=K) rfl (pv 0) jr rfl)
 (qc (qS (K:=K) rfl (pv 0) (qB qd) rfl)
 (qc (qS (K:=K) rfl (pv 0) (qB qd) rfl)
 (qc (qS (K:=K) rfl (pv 0) j6 rfl)
 (qe (qE (zK d (hmR a) (pv 0)))))))))))),?_⟩
  apply .inl ⟨y,cc 9,dx,_,rfl,i,T.fcl,T.fa _ (by decide),by decide,?_⟩;have b:L2.Same G (upd H y (.ins (cc 9) dx (qG "board" (.ref x) []))):=qa9 j g;apply⟨p,x,ss,ns,tps,v,rfl,hb.same b,e.later b⟩
theorem KI:FnScope ["_law_names_here","_law_bits_here","_law_thing","_law_seen","_law_pair","_law_one","_law_other"] wV (qh zi):=fS
theorem qdp{g:Addr}{b:LN}{k:Nat}{Q:VK}(h:H g=some (.lst (b.map iV)))(q:Q (.bl (decide (k∈b))) H):qe0 K false (iV k) (.ref g) H Q:=by
 classical
 show .inr (.inr ⟨g,b.map iV,λz=>eqV z (iV k),1,rfl,SqL.of h,by decide,λz c=>?_,?_⟩)
 .obtain⟨j,d,rfl⟩:=yQ.mp c;show .flat rfl rfl
 .have e:(b.map iV).any (λz=>eqV z (iV k))=decide (k∈b):=by
   rw[Y9,xu,yR];constructor
   .rintro ⟨z,c,e⟩;obtain⟨j,d,rfl⟩:=yQ.mp c;have a:=zG (j:Int) (k:Int);rw[yF (by decide)] at a;rw[a,yR] at e;have:j=k:=by lk
    show this ▸ d
   .intro f;show⟨iV k,yQ.mpr ⟨k,f,rfl⟩,?_⟩;have a:=zG (k:Int) (k:Int);rw[yF (by decide)] at a;rw[a];show yA rfl
  rw[yF (by decide),e];show q
theorem qcx{m:Addr}{l:LS}{Q:VK}(e:H m=some (.lst (l.map V.str)))(q:Q (.bl (!decide (s∈l))) H):qe0 K true (.str s) (.ref m) H Q:=
 .inl ⟨m,_,rfl,.inl (SqL.of e),rfl,YY.mpr λx a=>by(obtain⟨s,_,rfl⟩:=yQ.mp a;rfl),by rw[yG rfl,qeH];show q⟩
theorem idx_inj(b:s∈ss)(c:t∈ss)(e:ss.idxOf s=ss.idxOf t):s=t:=by
 have h1:ss[ss.idxOf s]?=some s:=by rw[yb (yW b),Yx]
 have a:ss[ss.idxOf t]?=some t:=by rw[yb (yW c),Yx]
 rw[e,a] at h1;show(yn h1).symm
def PeQ(H:Hp)(ss:LS)(x:V):Prop:=(∃ t a b,x=.ref t/\H t=some (.tup [.str a,.str b])/\a∈ss/\b∈ss)\/∃ t xs,x=.ref t/\H t=some (.lst xs)
theorem PeQ.same{x:V}(h:PeQ H ss x)(s:L2.Same H H'):PeQ H' ss x:=h.imp (λ⟨t,a,b,e,c,r⟩=>⟨t,a,b,e,s _ _ c,r⟩) λ⟨t,xs,e,c⟩=>⟨t,xs,e,s _ _ c⟩
theorem qeV{t:Addr}(j:∀ a b,tA tps a b->a≠b)(nm:∀ s∈ss,jf s=true)(e:H t=some (.tup [.str a,.str b]))(l:a∈ss)(m:b∈ss):(tA tps a b->qaB H ss tps (.ref t)=some (a,b))/\(¬ tA tps a b->qaB H ss tps (.ref t)=none):=by
 have pl:∀{s},s∈ss->j7 ss (.str s)=true:=λ{s} g=>by
  unfold j7;rw[yG (show qc3 (.str s)=true from nm s g)];show yA g
 have p:a≠b->qc4 H ss (.ref t)=some (a,b):=λh=>by
  have pv:qdo ss (.str a) (.str b)=true:=by
   unfold qdo;rw[pl l,pl m];show(!decide (a=b))=true;rw[ym h];rfl
  rw[qd5 e,yG pv];rfl
 show⟨λh=>?_,λh=>?_⟩
 .unfold qaB;rw[p (j a b h)];show yG h
 .cases k:qaB H ss tps (.ref t) with
  | none=>rfl
  | some ab =>
   obtain⟨n,o⟩:=qc6 k;obtain⟨c,i,f,_⟩:=qb1 n;cases i;rw[e] at f;have d:=HO.tup.inj (yn f);simp only[List.cons.injEq,V.str.injEq,and_true] at d;show(h (by show(a,b)∈tps\/(b,a)∈tps;rw[d.1,d.2];show o)).elim
theorem qaW{x:V}{r:List V}(h:qaB H ss tps x=none):apL H ss tps seen (x::r)=false:=by
 show(match qaB H ss tps x with | none=>false | some ab=>if ab.1∈seen\/ab.2∈seen then false else apL H ss tps (seen++[ab.1,ab.2]) r)=false;rw[h]
theorem qbC{x:V}{r:List V}(h:qaB H ss tps x=some ab):apL H ss tps seen (x::r)=if ab.1∈seen\/ab.2∈seen then false else apL H ss tps (seen++[ab.1,ab.2]) r:=by
 show(match qaB H ss tps x with | none=>false | some ab=>if ab.1∈seen\/ab.2∈seen then false else apL H ss tps (seen++[ab.1,ab.2]) r)=_;rw[h]
theorem qd8{t:Addr}(e:H t=some (.lst xs)):qaB H ss tps (.ref t)=none:=by
 unfold qaB;rw[zH λa ys z y=>by cases z;rw[e] at y;cases y]
theorem qgt(g:∀ a b,tA tps a b->a≠b)(nm:∀ s∈ss,jf s=true):∀{us:LX} {qs:LP} {seen:LS},All2 (λt ab=>H t=some (.tup [.str ab.1,.str ab.2])) us qs->(∀ q∈qs,tA tps q.1 q.2/\q.1∈ss/\q.2∈ss)->(qi qs).Nodup->(∀ x∈qi qs,x∉seen)->apL H ss tps seen (us.map V.ref)=true
 | [],_,_,_,_,_,_=>rfl
 | _::_,[],_,h,_,_,_=>by have:=h.len;cases this
 | u::us,q::qs,seen,h,hq,hn,hs=>by
  have e:(q.1::q.2::qi qs).Nodup:=hn;have c:∀ x∈q.1::q.2::qi qs,x∉seen:=hs;obtain⟨l,m,n⟩:=hq q yL;have i:=(qeV (tps:=tps) g nm (h.at_ 0 u q rfl rfl) m n).1 l;obtain⟨m1,o⟩:=yp.mp e;obtain⟨p,r⟩:=yp.mp o;show apL H ss tps seen (.ref u::us.map V.ref)=true;rw[qbC i,yF (λz=>z.elim (c _ (by simp)) (c _ (by simp)))];show qgt g nm ⟨Nat.succ.inj h.len,λk x y d j=>h.at_ (k+1) x y d j⟩ (λq' f=>hq q' (yE _ f)) r λx d z=>?_;rcases yw.mp z with z | z
  .show c x (by simp[d]) z
  .simp only[yv,yJ,Yo] at z;rcases z with rfl | rfl
   .show m1 (by simp[d])
   .show p d
theorem PL.ap(W:Wt cw G x ss ns tps)(h:PL H l us qs)(g:PGo ss tps qs):apL H ss tps [] (us.map V.ref)=true:=
 qgt W.ir W.wok.nm h.2 (λq d=>by obtain⟨a,b,c,_⟩:=g.inn q d;show⟨a,b,c⟩) g.nd λ_ _ z=>by cases z
theorem PL.pe(h:PL H l us qs)(g:PGo ss tps qs):∀ x∈us.map V.ref,PeQ H ss x:=λx f=>by
 obtain⟨u,e,rfl⟩:=yQ.mp f;obtain⟨i,a⟩:=yf e;obtain⟨q,d⟩:∃ q,qs[i]?=some q:=⟨_,yb (by rw[<- h.2.len];show(yc.mp a).1)⟩;obtain⟨_,b,c,_⟩:=g.inn q (ye d);show .inl ⟨u,q.1,q.2,rfl,h.2.at_ i u q a d,b,c⟩
inductive spArQ(vs:List V)(H:Hp)(Q:VK)(E:XK):Prop|mk (n bb l:Addr) (ss:LS) (TI:List (Nat×Nat)) (bs:LN) (xs:List V) (_:vs=[.ref n,.ref bb,.ref l]) (_:H n=some (.lst (ss.map V.str))) (_:ss.Nodup) (_:(∀ s∈ss,jf s=true)) (_:TJ ss.length TI) (_:H bb=some (.lst (zB bs))) (_:BtJ ss.length TI bs) (_:H l=some (.lst xs)) (_:xs.length<=31) (_:(∀ x∈xs,PeQ H ss x)) (_:∀ H',L2.Same H H'->Q (.bl (apL H ss (TI.map (nmP ss)) [] xs)) H')
theorem ok_arQ(F:Fun K "_law_are_pairs" "_law_are_pairs" zi f fd)(T:Txt K mg cc cw):wqP 1 f fd wV spArQ:=by
 show F.ok KI λ_ _ _ s H vs Q E hr h=>?_
 .obtain⟨n,bb,l,ss,TI,bs,xs,rfl,hn,Y,nm,hj,ac,M,hl,few,ad,q⟩:=h;have r:=ze hr;show⟨_,(qc (qI (qU (qT (qr (qad (K:=K) rfl) rfl T.b_isinstance YD (qa (pv 2) (qa (jK (v:=.ty "list") rfl T.b_list xz rfl) qd))))) (qe (qq jd)) qw)
 (qc (qm (i:=3) KI.nd rfl (yK rfl) (qB qd))
 (qc (qX yT rfl (jh (K:=K) rfl (pv 2)) (qu (i:=4) KI.nd rfl (yK rfl))
 (qc (qI (PW.pt (zu (qU (qT (qr (qad (K:=K) rfl) rfl T.b_isinstance YD (qa (pv 4) (qa (jK (v:=.ty "tuple") rfl T.b_tuple kJ rfl) qd))))) (zu (qj (qae (K:=K) rfl r) (qr (zg (K:=K) rfl) rfl T.b_len YQ (qa (pv 4) qd)) qf (qy _)) (zu (qj (j0 (K:=K) rfl r) (qo (qp (K:=K) rfl r) (pv 4) qf (λ_ _=>rfl)) (pv 0) (by with_unfolding_all rfl)) (zk (qj (j0 (K:=K) rfl r) (qo (qp (K:=K) rfl r) (pv 4) qf (λ_ _=>rfl)) (pv 0) (by with_unfolding_all rfl))))))) (qe (qq jd)) qw)
 (qc (qm (i:=5) KI.nd rfl (yK rfl) (qaX (K:=K) rfl yI YI YS (qaE (K:=K) rfl) (pv 0) (qa (qo (qp (K:=K) rfl r) (pv 4) qf (λ_ _=>rfl)) qd)))
 (qc (qm (i:=6) KI.nd rfl (yK rfl) (qaX (K:=K) rfl yI YI YS (qaE (K:=K) rfl) (pv 0) (qa (qo (qp (K:=K) rfl r) (pv 4) qf (λ_ _=>rfl)) qd)))
 (qc (qI (PW.pt (zu (qj (qaf (K:=K) rfl r) (pv 5) (pv 3) (by with_unfolding_all rfl)) (zu (qj (qaf (K:=K) rfl r) (pv 6) (pv 3) (by with_unfolding_all rfl)) (zk (qj (zn (K:=K) rfl r) (qt zm (qt qbH (qo (qp (K:=K) rfl r) (pv 1) (pv 5) (λ_ _=>rfl)) (pv 6)) qf) qf (qy _)))))) (qe (qq jd)) qw)
 (qe (qE (qaX (K:=K) rfl yI XF XG qa6 (pv 3) (qa (qB (qa (pv 5) (qa (pv 6) qd))) qd)))))))))
 (qe (qq jd))))),?_⟩
  have hi:∀ a b,tA (TI.map (nmP ss)) a b->a≠b:=λa b h e=>by
   rcases h with h | h
   .show(qeP Y hj _ h).2.2 e
   .show(qeP Y hj _ h).2.2 e.symm
  apply qa7 (.inl (.lst hl)) rfl (zc K "list" (by simp) "list" (by simp)) ?_;apply yr ?_;apply⟨wqQ,λd hd=>?_⟩;have s0:=qz (Sr H) (o:=.lst []) hd;have ed:upd H d (.lst []) d=some (.lst ((([]:LS).map λs=>ss.idxOf s).map iV)):=qb;generalize upd H d (.lst [])=H1 at s0 ed;apply .inl ⟨⟨_,.of (s0 _ _ hl)⟩,qP (xs:=xs) (λi σ J=>L2.Same H J/\∃(S:LS) (y4 y5 y6:Option V),σ=[some (.ref n),some (.ref bb),some (.ref l),some (.ref d),y4,y5,y6]/\J d=some (.lst ((S.map λs=>ss.idxOf s).map iV))/\(∀ s∈S,s∈ss)/\S.length<=2*i/\apL H ss (TI.map (nmP ss)) [] xs=apL H ss (TI.map (nmP ss)) S (xs.drop i)) ⟨s0,[],_,_,_,rfl,ed,λs h=>(by cases h),Yy _,rfl⟩ (λi σ J _ O=>.of (O.1 _ _ hl)) (λi y σ J W O=>?_) fun σ J O=>?_⟩
  .obtain⟨x,S,y4,y5,y6,rfl,p,Z,aa,B⟩:=O;have N:i<xs.length:=(yc.mp W).1
   have X:xs.drop i=y::xs.drop (i+1):=by
    rw[List.drop_eq_getElem_cons N]
    congr 1
    rw[yb N] at W;show yn W
   rw[X] at B;have m:=x _ _ hn;have L:=x _ _ ac;rcases ad y (ye W) with⟨t,a,b,rfl,I,m1,G⟩ | ⟨t,ys,rfl,I⟩
   .have g:=x _ _ I;obtain⟨tt,tf⟩:=qeV (H:=H) hi nm I m1 G;apply qa7 (.inl (.tup g)) rfl (zc K "tuple" (by simp) "tuple" (by simp)) ?_;apply yr ?_;apply qfN g ?_;apply .inl ⟨rfl,rfl,?_⟩;apply yr ?_;apply .inl (qaH g (v:=.str a) (qk (j:=0) rfl) ?_);apply qcx m ?_;rw[yA m1];apply yr ?_;apply .inl (qaH g (v:=.str b) (qk (j:=1) rfl) ?_);apply qcx m ?_;rw[yA G];apply yr ?_;apply⟨.inl ⟨rfl,_,.of m⟩,?_⟩;apply .inl (qaH g (v:=.str a) (qk (j:=0) rfl) ?_);apply⟨n,ss,_,rfl,rfl,.of m,m1,?_⟩;apply⟨.inl ⟨rfl,_,.of m⟩,?_⟩;apply .inl (qaH g (v:=.str b) (qk (j:=1) rfl) ?_);apply⟨n,ss,_,rfl,rfl,.of m,G,?_⟩
    have u:∀{s:Str},s∈ss->(ss.idxOf s∈S.map (λs=>ss.idxOf s)↔s∈S):=λ{s} hs=>⟨λz=>by
     obtain⟨t,ht,e⟩:=yQ.mp z;rw[<- idx_inj (Z t ht) hs e];show ht,λh=>YO h⟩
    have D:apL H ss (TI.map (nmP ss)) [] xs=false->Q (.bl false) J:=λh=>by have:=q J x;rwa[h] at this
    have A:(bs.getD (ss.idxOf a) 0).testBit (ss.idxOf b)=true↔tA (TI.map (nmP ss)) a b:=by
     have i1:ss[ss.idxOf a]?=some a:=by rw[yb (yW m1),Yx]
     have i2:ss[ss.idxOf b]?=some b:=by rw[yb (yW G),Yx]
     show(M.2.2 _ _).trans (qff Y hj i1 i2).symm
    have seen:a∈S\/b∈S->apL H ss (TI.map (nmP ss)) [] xs=false:=λh=>by
     rw[B];by_cases C:tA (TI.map (nmP ss)) a b
     .rw [qbC (tt C),yG h]
     .show qaW (tf C)
    apply qdp p ?_;by_cases R:a∈S
    .rw [yA ((u m1).mpr R)];apply zd ?_;apply D (seen (.inl R))
    rw[ym (λz=>R ((u m1).mp z))];apply yr ?_;apply qdp p ?_;by_cases U:b∈S
    .rw [yA ((u G).mpr U)];apply zd ?_;apply D (seen (.inr U))
    rw[ym (λz=>U ((u G).mp z))];apply yr ?_;ext;have l1:ss.idxOf a<ss.length:=yW m1;show .inl (j9 L (qk (jt (by rw[M.1];show l1))) ?_);apply vI (by lk) ?_;apply qaA ?_;rw[qcn];by_cases C:tA (TI.map (nmP ss)) a b
    .rw [A.mpr C];apply yr ?_;apply⟨.inl ⟨rfl,_,.of p⟩,?_⟩;apply⟨wqS,λe he=>?_⟩;have s3:=qz (Sr J) (o:=.lst [iV (ss.idxOf a),iV (ss.idxOf b)]) he;have ee:upd J e (.lst [iV (ss.idxOf a),iV (ss.idxOf b)]) e=some (.lst [iV (ss.idxOf a),iV (ss.idxOf b)]):=qb;generalize upd J e (.lst [iV (ss.idxOf a),iV (ss.idxOf b)])=J3 at s3 ee;apply⟨d,e,_,_,rfl,rfl,s3 _ _ p,ee,?_,?_⟩
     .rw [ya,ya];show yS (qQ (by show _+2<=5000;lk))
     .show⟨λc o z=>?_,S++[a,b],_,_,_,rfl,?_,λs hs=>?_,?_,?_⟩
      .rw [qg (λz'=>by rw[z',hd] at z;cases z)];show s3 _ _ (x c o z)
      .rw [qb,yC,yC];rfl
      .rcases yw.mp hs with h | h
       .show Z s h
       .simp only[yv,yJ,Yo] at h;rcases h with rfl | rfl
        .show m1
        .show G
      .rw [yu];show _+2<=_;lk
      .rw [B,qbC (tt C),yF (λz=>z.elim R U)]
    .rw [XW.mpr (λz=>C (A.mp z))];apply zd ?_;apply D (by rw[B];show qaW (tf C))
   .ext;show qa7 (.inl (.lst (x _ _ I))) rfl (zc K "list" (by simp) "tuple" (by simp)) ?_;apply zd ?_;ext;have:=q J x;rw[B,qaW (qd8 I)] at this;show this
  .obtain⟨x,S,y4,y5,y6,rfl,p,Z,aa,B⟩:=O;ext;have:=q J x;rw[B,kY] at this;show this
def qaY(p:Addr)(H:Hp):Hp:=λb=>if b=p then none else H b
theorem jx{b:Addr}(h:b≠p):qaY p H b=H b:=yF h
theorem qax(p:Addr)(H:Hp):L2.Same (qaY p H) H:=λb o e=>by
 unfold qaY at e;split at e
 .cases e
 .show e
theorem qcy(b:But p H H'):L2.Same (qaY p H) (qaY p H'):=λc o e=>by
 by_cases h:c=p
 .unfold qaY at e;rw[yG h] at e;cases e
 .rw [jx h] at e ⊢;show b c o h e
def Sn(p:Addr)(H:Hp)(v:V)(n m:Nat):Prop:=∃ d,Dat (qaY p H) v d/\Shw d n m
theorem Sn.but(h:Sn p H v n m)(b:But p H H'):Sn p H' v n m:=h.elim λd h=>⟨d,h.1.same (qcy b),h.2⟩
theorem name_small{x:Str}(h:jf x=true):∀ c∈x.cps.toList,c<16 ^ 8:=by
 intro c hc;unfold jf at h;split at h
 .have a:=YY.mp h c hc;by_cases b:c<16 ^ 8
  .show b
  .exfalso;unfold sg at a;split at a
   .have d:("z":Str).cps.toList=[122]:=rfl;rw[d] at a;have:([122]:LN) < [c]:=List.Lex.rel (by lk);simp[this] at a
   .cases a
 .cases h
theorem qcz:∀{xs:List V},(∀ y∈xs,Sn p J y n m)->∃ a,DatS (qaY p J) xs a/\ShwS a ((n+1)*xs.length) m
 | [],_=>⟨[],.nil,ShwS.nil⟩
 | x::xs,h=>by
  obtain⟨d,b,c⟩:=h x yL;obtain⟨a,e,f⟩:=qcz λy g=>h y (yE _ g);show⟨d::a,.cons b e,(ShwS.cons c f).mono ?_ (yh _)⟩;rw[yB,Nat.mul_succ];lk
theorem Sn.lst{a:Addr}(e:J a=some (.lst xs))(b:a≠p)(h:∀ y∈xs,Sn p J y n m):Sn p J (.ref a) ((n+1)*xs.length) (m+1):=by
 obtain⟨f,c,d⟩:=qcz h;show⟨_,.lst (by rw[jx b];show e) c,d.list⟩
theorem Sn.tup{a:Addr}(e:J a=some (.tup xs))(b:a≠p)(h:∀ y∈xs,Sn p J y n m):Sn p J (.ref a) ((n+1)*xs.length) (m+1):=by
 obtain⟨f,c,d⟩:=qcz h;show⟨_,.tup (by rw[jx b];show e) c,d.tuple⟩
theorem Sn.mono(h:Sn p J v n m)(b:n<=n')(a:m<=m'):Sn p J v n' m':=h.elim λd h=>⟨d,h.1,h.2.mono b a⟩
def Ok(p:Addr)(J:Hp)(k n m:Nat)(v:V):Prop:=Th p J k v/\Sn p J v n m
theorem Ok.but{k:Nat}(h:Ok p J k n m v)(b:But p J J'):Ok p J' k n m v:=⟨h.1.keep b,h.2.but b⟩
theorem Ok.same{k:Nat}(h:Ok p J k n m v)(s:L2.Same J J'):Ok p J' k n m v:=h.but λc o _ e=>s c o e
theorem Ok.mono{k:Nat}(h:Ok p J k n m v)(b:n<=n')(a:m<=m'):Ok p J k n' m' v:=⟨h.1,h.2.mono b a⟩
theorem Ok.deep{k:Nat}(h:Ok p J k n m v):Ok p J (k+1) n m v:=⟨h.1.mono,h.2⟩
theorem Ok.name{k:Nat}(h:jf s=true):Ok p J k 6 m (.str s):=by
 have:=nameS_len h;show⟨.flat rfl (λu e=>by cases e;lk),_,.str _,(Shw.str (name_small h)).mono this (yh _)⟩
theorem Ok.non{k:Nat}:Ok p J k n m .non:=⟨.flat rfl (λu e=>by cases e),_,.non,Shw.non.mono (Yy _) (yh _)⟩
theorem Ok.bl{k:Nat}{b:Bool}:Ok p J k n m (.bl b):=⟨.flat rfl (λu e=>by cases e),_,.bl _,Shw.bl.mono (Yy _) (yh _)⟩
theorem Ok.int{k:Nat}{i:Int}(h1:-999999999999<=i)(a:i<=999999999999):Ok p J k n m (.int i):=⟨.flat rfl (λu e=>by cases e),_,.int _,(Shw.int h1 a).mono (Yy _) (yh _)⟩
theorem Ok.str{k:Nat}(h:∀ c∈s.cps.toList,c<16 ^ 8)(hl:s.length<=n)(a:s.length<=1000):Ok p J k n m (.str s):=⟨.flat rfl (λu e=>by cases e;lk),_,.str _,(Shw.str h).mono hl (yh _)⟩
theorem Ok.lst{a:Addr}{k:Nat}(d:J a=some (.lst xs))(b:a≠p)(hl:xs.length<=1000)(h:∀ y∈xs,Ok p J k n m y):Ok p J (k+1) ((n+1)*xs.length) (m+1) (.ref a):=⟨.lst d b (λy c=>(h y c).1) hl,.lst d b λy c=>(h y c).2⟩
theorem Ok.tup{a:Addr}{k:Nat}(d:J a=some (.tup xs))(b:a≠p)(hl:xs.length<=1000)(h:∀ y∈xs,Ok p J k n m y):Ok p J (k+1) ((n+1)*xs.length) (m+1) (.ref a):=⟨.tup d b (λy c=>(h y c).1) hl,.tup d b λy c=>(h y c).2⟩
theorem Ok.dnil{a:Addr}{k:Nat}(c:J a=some (.dK []))(b:a≠p):Ok p J k n (m+1) (.ref a):=⟨.dct c b,_,.dnil (by rw[jx b];show c),(Shw.dnil (m:=m)).mono (Yy _) (yh _)⟩
theorem qfW{P:V->Prop}{a:V}(h1:P a):∀ y∈[a],P y:=λy b=>by rw[yx.mp b];show h1
theorem qgA{P:V->Prop}{a b:V}(h1:P a)(c:P b):∀ y∈[a,b],P y:=λy d=>by rcases yv.mp d with rfl | h;show h1;show qfW c y h
theorem ud:FnScope wy wy (qh jq):=fS
theorem K9:FnScope ["web","pairs","place","forest"] wqj (qh qam):=fS
def rtN(S:FS)(lo:V)(s:Str):Option (LS):=if lo=.non then S.rows s else none
inductive spRo(cc:Nat->Addr)(cw:Addr)(vs:List V)(H:Hp)(Q:VK)(E:XK):Prop|mk (H0:Hp) (a:Fo) (ss:LS) (ns:LN) (qs:LP) (S:FS) (dn wt:LS) (lo:V) (A:Str->Str->Prop) (z:Str) (_:vs=[.ref a.x,.str z]) (_:FoD (cc 9) cw H0 H a ss ns qs S dn wt lo A) (_:z∈ss) (_:(rtN S lo z=none->∀ H',L2.Same H H'->Q .non H')) (_:∀ r,rtN S lo z=some r->∀(l:Addr) (H':Hp),L2.Same H H'->H l=none->H' l=some (.lst (r.map V.str))->Q (.ref l) H')
theorem FnOk.or{P:Program}{w:World}{base:Heap}{CX:CXT}{k:Nat}{f:Addr}{fd:FuncData}{d:LS}{b c:Sp}(e:FnOk P w K mg base CX k f fd d b)(g:FnOk P w K mg base CX k f fd d c):FnOk P w K mg base CX k f fd d (λvs H Q E=>b vs H Q E\/c vs H Q E):=
 ⟨λvs H Q E h=>h.elim (e.len vs H Q E) (g.len vs H Q E),λA a s H args us vs Q E j i hb hv l=>l.elim (e.run A a s H args us vs Q E j i hb hv) (g.run A a s H args us vs Q E j i hb hv)⟩
def qgu(cc:Nat->Addr)(cw:Addr):Sp:=λvs H Q E=>spFi cc cw vs H Q E\/spFiB cc cw vs H Q E
inductive spHasT(cw:Addr)(vs:List V)(H:Hp)(Q:VK)(E:XK):Prop|mk (p:Addr) (k:Nat) (x:Addr) (ss:LS) (ns:LN) (v:V) (_:vs=[.ref x,v]) (_:WebAt cw H x ss ns) (_:Th p H k v) (_:∀ H',L2.Same H H'->Q (.bl (j7 ss v)) H')
inductive spNumT(cc:Nat->Addr)(cw:Addr)(vs:List V)(H:Hp)(u2_:VK)(E:XK):Prop|mk (p:Addr) (k:Nat) (x:Addr) (ss:LS) (ns:LN) (v:V) (_:vs=[.ref x,v]) (_:WebAt cw H x ss ns) (_:Th p H k v) (_:j7 ss v=false) (_:Rz cc H E (1,v))
inductive spRoT(cc:Nat->Addr)(cw:Addr)(vs:List V)(H:Hp)(u2_:VK)(E:XK):Prop|mk (p:Addr) (k:Nat) (H0:Hp) (a:Fo) (ss:LS) (ns:LN) (qs:LP) (S:FS) (dn wt:LS) (lo:V) (A:Str->Str->Prop) (v:V) (_:vs=[.ref a.x,v]) (_:FoD (cc 9) cw H0 H a ss ns qs S dn wt lo A) (_:Th p H k v) (_:j7 ss v=false) (_:Rz cc H E (1,v))
def Gst(ss:LS)(tps qs:LP):Prop:=∀ rs,PGo ss tps rs->rs.length<=qs.length
def RoT(tps qs:LP)(ss:LS)(z:Str)(H:Hp)(v:V)(H':Hp):Prop:=L2.Same H H'/\∃ S:FS,Fn (tA tps) (pt qs) S ss/\((S.rows z=none/\v=.non)\/∃ r l,S.rows z=some r/\v=.ref l/\H l=none/\H' l=some (.lst (r.map V.str)))
inductive spRO(cw:Addr)(vs:List V)(H:Hp)(Q:VK)(E:XK):Prop|mk (x l:Addr) (ss:LS) (ns:LN) (us:LX) (tps qs:LP) (z:Str) (_:vs=[.ref x,.ref l,.str z]) (_:Wt cw H x ss ns tps) (_:PL H l us qs) (_:PGo ss tps qs) (_:Gst ss tps qs) (_:z∈ss) (_:∀ v H',RoT tps qs ss z H v H'->Q v H')
def RoB(cc:Nat->Addr)(p cw x:Addr)(H:Hp)(ss:LS)(ns:LN)(tps:LP)(v u:V)(r:Nat×V):Prop:=
 (BdA p cw H x ss ns tps v/\r=(0,v))\/(∃ l us qs,v=.ref l/\PL H l us qs/\PGo ss tps qs/\¬ Gst ss tps qs/\r=(0,v))\/∃ l us qs k,v=.ref l/\PL H l us qs/\PGo ss tps qs/\Gst ss tps qs/\Th p H k u/\j7 ss u=false/\r=(1,u)
inductive spROB(cc:Nat->Addr)(cw:Addr)(vs:List V)(H:Hp)(u2_:VK)(E:XK):Prop|mk (p x:Addr) (ss:LS) (ns:LN) (tps:LP) (v u:V) (r:Nat×V) (_:vs=[.ref x,v,u]) (_:Wt cw H x ss ns tps) (_:RoB cc p cw x H ss ns tps v u r) (_:Rz cc H E r)
theorem ok_ro(F:Fun K "row_to" "Forest.row_to" jq f fd)(T:Txt K mg cc cw)(u:wqO 4 cw "number_of" wy (spNum cw)):wqP 5 f fd wy (spRo cc cw):=by
 show F.ok ud λ_ _ _ _ H vs Q E o h=>?_
 .obtain⟨H0,a,ss,ns,qs,S,dn,wt,lo,B,z,rfl,n,A,i,q⟩:=h;have p:=ze o;show⟨_,(qc (qE (qH u (hmR o) (qA (K:=K) rfl (pv 0) rfl) (qa (pv 1) qd)))
 (qc (qI (PW.pt (zu (qj qa1 (qA (K:=K) rfl (pv 0) rfl) j6 (qy _)) (zk (qj (j0 (K:=K) rfl p) (pv 1) (qA (K:=K) rfl (pv 0) rfl) (by with_unfolding_all rfl))))) (qe (qq j6)) qw)
 (qe (qq (qV (zV (K:=K) rfl rfl) rfl T.b_list xz (qa (qo (qp (K:=K) rfl p) (qA (K:=K) rfl (pv 0) rfl) (pv 1) (λ_ _=>rfl)) qd)))))),?_⟩
  have h:=n.fo;have d:=h.web.same h.sm;obtain⟨G,I,ol,J,hb,_⟩:=id d;obtain⟨j,y⟩:=yf A;apply .inl (h.obj.rd T 0 rfl ?_);show⟨a.b,G,_,rfl,hb,qaz (by room),?_⟩;apply⟨a.b,ss,ns,z,j,rfl,d,y,λH1 g=>?_⟩;have h1:=h.same g;apply .inl (h1.obj.rd T 7 rfl ?_);ext;rcases n.en with⟨rfl,_⟩ | ⟨t,r,rfl,_⟩
  .show⟨rfl,_,rfl,qL (λh=>by simp at h) λ_=>?_⟩;apply .inl (h1.obj.rd T 2 rfl ?_);obtain⟨C,s,_,D⟩:=h1.row;have c:=D z;have v:rtN S .non z=S.rows z:=yG rfl;rw[v] at i q;show .inr (.inl ⟨a.dr,_,rfl,DGet.k (k:=Sum.inr z) s,?_⟩)
   cases e:S.rows z with
   | none =>
    rw[e] at c;rw[show zv C (.inr z:Key)=none from c];show⟨_,rfl,zd ?_⟩;apply i e H1 g
   | some r =>
    rw[e] at c;obtain⟨t,k,x,_⟩:=c;rw[k];show⟨_,rfl,qL (λh=>by cases h) λ_=>?_⟩;apply .inl (h1.obj.rd T 2 rfl ?_);ext;have m:=DGet.k (k:=Sum.inr z) s;rw[k] at m;show .inr ⟨a.dr,.ref t,rfl,m,?_⟩;apply .inl ⟨t,_,rfl,.inl (.of x),λl hl=>q r e l _ (g.trans (qz (Sr H1) hl)) (g.free hl) qb⟩
  .show⟨rfl,_,rfl,zd (zd ?_)⟩;apply i (yF (λz=>by cases z)) H1 g
theorem ok_hasT(F:Fun K "has_place" "Web.has_place" jo f fd)(T:Txt K mg cc cw)(a:wqN 2 "is_place" wO spPlaceG):wqP 3 f fd wX (spHasT cw):=by
 show F.ok ua λ_ _ _ _ H vs Q E c h=>?_
 .obtain⟨p,k,x,ss,ns,v,rfl,⟨dx,d,ol,n,e,b,i,g,hw⟩,hv,q⟩:=h;show⟨_,(qe (qq (qx a (hmR c) qF (qa (qA (K:=K) rfl (pv 0) rfl) (qa (pv 1) qd))))),?_⟩;apply .inl ⟨x,cw,dx,_,.ref d,rfl,e,T.wcl,T.wn,zj,?_⟩;apply⟨p,k,d,ss,v,rfl,b,hv,q⟩
theorem ok_numT(F:Fun K "number_of" "Web.number_of" jp f fd)(T:Txt K mg cc cw)(e:wqO 3 cw "has_place" wX (spHasT cw))
  (m:XMakeOk P w K mg base 2 (cc 1) "NoPlace" wZ (spX (cc 1) (qe1 1))):FnOk P w K mg base (CX1 P w) 4 f fd wy (spNumT cc cw):=by
 show F.ok1 ub (λvs H Q E h=>?_) λ_ _ _ _ H vs Q E b h=>?_
 .cases h;subst_vars;rfl
 .obtain⟨p,k,x,ss,ns,v,rfl,c,hv,a,j⟩:=h;have g:=ze b;obtain⟨dx,d,ol,n,i,o,r,q,hw⟩:=id c;show⟨_,(qc (qI (qU (qT (qH e (hmR b) (pv 0) (qa (pv 1) qd)))) (qe (qdf (K:=K) rfl qaN (qfO m (hmR b) (qa (pv 1) qd)))) qw)
 (qe (qq (qo (qp (K:=K) rfl g) (qA (K:=K) rfl (pv 0) rfl) (pv 1) (λ_ _=>rfl))))),?_⟩
  apply⟨x,dx,_,rfl,i,qaz (by room),?_⟩;apply⟨p,k,x,ss,ns,v,rfl,c,hv,λH1 l=>?_⟩;rw[a];apply zd ?_;apply qa8 (T.xat 1 (by decide)) (j.later l)
theorem ok_roT(F:Fun K "row_to" "Forest.row_to" jq f fd)(T:Txt K mg cc cw)(i:MethOk P w K mg base (CX1 P w) 4 cw "number_of" wy (spNumT cc cw)):FnOk P w K mg base (CX1 P w) 5 f fd wy (spRoT cc cw):=by
 show F.ok1 ud (λvs H Q E h=>?_) λ_ _ _ _ H vs Q E e h=>?_
 .cases h;subst_vars;rfl
 .obtain⟨p,k,H0,a,ss,ns,qs,S,dn,wt,lo,B,v,rfl,j,hv,d,l⟩:=h;have g:=ze e;show⟨_,(qc (qE (qdP i (hmR e) qaN (qA (K:=K) rfl (pv 0) rfl) (qa (pv 1) qd)))
 (qc (qI (PW.pt (zu (qj qa1 (qA (K:=K) rfl (pv 0) rfl) j6 (qy _)) (zk (qj (j0 (K:=K) rfl g) (pv 1) (qA (K:=K) rfl (pv 0) rfl) (by with_unfolding_all rfl))))) (qe (qq j6)) qw)
 (qe (qq (qV (zV (K:=K) rfl rfl) rfl T.b_list xz (qa (qo (qp (K:=K) rfl g) (qA (K:=K) rfl (pv 0) rfl) (pv 1) (λ_ _=>rfl)) qd)))))),?_⟩
  have h:=j.fo;have c:=h.web.same h.sm;obtain⟨m,n,ol,o,hb,_⟩:=id c;apply .inl (h.obj.rd T 0 rfl ?_);show⟨a.b,m,_,rfl,hb,qaz (by room),?_⟩;apply⟨p,k,a.b,ss,ns,v,rfl,c,hv,d,l⟩
theorem Gst.no(W:Wt cw H x ss ns tps)(g:PGo ss tps qs)(G:Gst ss tps qs)(a:Aug (tA tps) (pt qs) r)(hl:r.length<=1000):False:=by
 obtain⟨b,c⟩:=turn_ok W.wok W.adj W.ok g a hl;have:=G _ b;lk
theorem Gst.row{a:Fo}(W:Wt cw H x ss ns tps)(g:PGo ss tps qs)(c:FoD (cc 9) cw H0 H2 a ss ns qs S dn wt lo (tA tps))(G:Gst ss tps qs):lo=.non:=by
 rcases c.en with⟨e,_⟩ | ⟨t,r,_,_,_,b,hl⟩
 .show e
 .show(G.no W g b (by lk)).elim
theorem ok_RO(F:Fun K "row_out" "row_out" qam f fd)(T:Txt K mg cc cw)(C:MakeOk P w K mg base CX0 10 (cc 9) "Forest" wqa (spFi cc cw))(D:wqO 1 (cc 9) "row" wql (spFr cc cw))(p:wqO 5 (cc 9) "row_to" wy (spRo cc cw)):wqP 12 f fd wqj (spRO cw):=by
 show F.ok K9 λ_ _ _ _ H vs Q E c h=>?_
 .obtain⟨x,l,ss,ns,us,tps,qs,z,rfl,W,v,g,G,B,q⟩:=h;have I:=ze c;show⟨_,(qc (qm (i:=3) K9.nd rfl (yK rfl) (qdQ C (hmR c) (qa (pv 0) (qa (pv 1) qd))))
 (qc (qI (qj qa1 (zK D (hmR c) (pv 3)) j6 (qy _)) (qe jL) qw)
 (qe (qq (qH p (hmR c) (pv 3) (qa (pv 2) qd)))))),?_⟩
  apply λy dx A j m=>qgs W v g A j m λH0 H2 a S dn wt lo s b n=>⟨rfl,?_⟩;subst s;have d:=G.row W g b;subst d;have Fn0:=qgr b (W.wb g);apply b.fo.obj.me (by decide) ?_;apply⟨H0,a,ss,ns,qs,S,dn,wt,.non,tA tps,rfl,b,(λ_=>?_),λt r z=>by cases z⟩;apply⟨rfl,⟨_,rfl,qL (λh=>by cases h) λ_=>?_⟩⟩;apply b.fo.obj.me (by decide) ?_;ext;have o:rtN S .non z=S.rows z:=yG rfl;show⟨H0,a,ss,ns,qs,S,dn,wt,.non,tA tps,z,rfl,b,B,λe H' s'=>?_,λr e l' H' s' u h1=>?_⟩
  .show q _ _ ⟨n.trans s',S,Fn0,.inl ⟨o ▸ e,rfl⟩⟩
  .show q _ _ ⟨n.trans s',S,Fn0,.inr ⟨r,l',o ▸ e,rfl,n.free u,h1⟩⟩
theorem ok_ROB(F:Fun K "row_out" "row_out" qam f fd)(T:Txt K mg cc cw)(R:XMakeOk P w K mg base 2 (cc 0) "NoPairs" wZ (spX (cc 0) (qe1 0)))(U:MakeOk P w K mg base (CX1 P w) 10 (cc 9) "Forest" wqa (qgu cc cw))(X:wqO 1 (cc 9) "row" wql (spFr cc cw))(L:MethOk P w K mg base (CX1 P w) 5 (cc 9) "row_to" wy (spRoT cc cw)):FnOk P w K mg base (CX1 P w) 12 f fd wqj (spROB cc cw):=by
 show F.ok1 K9 (λvs H Q E h=>?_) λ_ _ _ _ H vs Q E j h=>?_
 .cases h;subst_vars;rfl
 .obtain⟨p,x,ss,ns,tps,v,u,r,rfl,W,hB,B⟩:=h;have hu:=ze j;show⟨_,(qc (qm (i:=3) K9.nd rfl (yK rfl) (pe_makeS U (hmR j) qaN (qa (pv 0) (qa (pv 1) qd))))
 (qc (qI (qj qa1 (zK X (hmR j) (pv 3)) j6 (qy _)) (qe (qdf (K:=K) rfl qaN (qfO R (hmR j) (qa (pv 1) qd)))) qw)
 (qe (qq (qdP L (hmR j) qaN (pv 3) (qa (pv 2) qd)))))),?_⟩
  ext;intro y dx J c d;rcases hB with⟨hb,rfl⟩ | hB
  .have m:=qz (qz (Sr H) (o:=.own y) c) (o:=.ins (cc 9) dx []) (show upd H dx (.own y) y=none by rw[qg (Yh d)];show J);show .inr ⟨H,p,y,dx,x,ss,ns,tps,v,rfl,qb,J,m,hb,B⟩
  .obtain⟨l,us,qs,rfl,N,g,hB⟩:∃ l us qs,v=.ref l/\PL H l us qs/\PGo ss tps qs/\((¬ Gst ss tps qs/\r=(0,v))\/∃ k,Gst ss tps qs/\Th p H k u/\j7 ss u=false/\r=(1,u)):=by
    rcases hB with⟨l,us,qs,e,h1,q,s,A⟩ | ⟨l,us,qs,k,e,h1,q,s,A⟩
    .show⟨l,us,qs,e,h1,q,.inl ⟨s,A⟩⟩
    .show⟨l,us,qs,e,h1,q,.inr ⟨k,s,A⟩⟩
   show .inl (qgs W N g J c d λH0 H2 a S dn wt lo M b m=>⟨rfl,?_⟩);subst M;apply b.fo.obj.me (by decide) ?_;ext;rcases hB with⟨O,rfl⟩ | ⟨k,G,I,D,rfl⟩
   .show⟨H0,a,ss,ns,qs,S,dn,wt,lo,tA tps,rfl,b,λe=>?_,λt r e Y Z l2 C=>?_⟩
    .subst e;have Fn0:=qgr b (W.wb g);show absurd (λrs h=>mx_le W.ir W.wok.nd g ⟨S,Fn0⟩ h) O
    .ext;show⟨rfl,⟨_,rfl,zd ?_⟩⟩;apply qa8 (T.xat 0 (by decide)) (B.later (qz m C))
   .have n:=G.row W g b;subst n;show⟨H0,a,ss,ns,qs,S,dn,wt,.non,tA tps,rfl,b,(λ_=>?_),λt r z=>by cases z⟩;apply⟨rfl,⟨_,rfl,qL (λh=>by cases h) λ_=>?_⟩⟩;apply b.fo.obj.me (by decide) ?_;apply⟨p,k,H0,a,ss,ns,qs,S,dn,wt,.non,tA tps,u,rfl,b,I.same m,D,B.later m⟩
theorem Ku:FnScope wI wS (qh jH):=fS
theorem qeW{z:Addr}{Q:VK}(hl:H l=some (.lst xs))(a:H z=some (.lst []))(q:Q (.bl xs.isEmpty) H):qeh K false (.ref l) (.ref z) H Q:=by
 cases xs with
 | nil=>show .inr (.inl ⟨l,z,true,1,rfl,rfl,by decide,EqT.lst (n:=0) (e:=λ_=>true) (SqL.of hl) (SqL.of a) rfl λj x y h=>by(simp at h),q⟩)
 | cons x r=>show .inr (.inl ⟨l,z,false,1,rfl,rfl,by decide,EqT.lstL (SqL.of hl) (SqL.of a) (by simp),q⟩)
theorem qha:∀{l m:LN},l.Nodup->(∀ x∈l,x∈m)->l.length<=m.length
 | [],_,_,_=>Yy _
 | x::r,m,hn,hs=>by
  obtain⟨h1,c⟩:=yp.mp hn;have a:=hs x yL;have:=qha (l:=r) (m:=m.erase x) c λy b=>(Xs (λe=>h1 (by rw[<- e];show b))).mpr (hs y (yE _ b));rw[YN a] at this;have:0<m.length:=YF a;simp only[yB];lk
section
variable{tps:LP}{ss:LS}
theorem IsM.some{nb:Nat->Bool}{r:Nat}:∀ top,∃ v,IsM tps ss nb r top v
 | 0=>⟨_,yh _,(λo a=>by lk),.inl rfl⟩
 | top+1=>by
  obtain⟨v,h⟩:=IsM.some (nb:=nb) (r:=r) top;by_cases e:nb top=true
  .show⟨_,h.take e⟩
  .show⟨_,h.skip e⟩
theorem qdq:rmN ss (2 ^ ss.length-1)=ss:=by
 unfold rmN;show kC.mpr λs a=>?_;rw[Nat.testBit_two_pow_sub_one];show yA (yW a)
structure GsI(tps:LP)(ss:LS)(TI:List (Nat×Nat))(i room:Nat)(PI:List (Nat×Nat)):Prop where
 lo:∀ j,j<i->room.testBit j=false
 lt:room<2 ^ ss.length
 inn:∀ q∈PI,q∈TI
 nd:(qd3 PI).Nodup
 off:∀ k∈qd3 PI,room.testBit k=false
 bd:∀ k∈qd3 PI,k<ss.length
 cnt:PI.length+tbQ tps ss room=tbQ tps ss (2 ^ ss.length-1)
theorem GsI.skip{TI PI:List (Nat×Nat)}(h:GsI tps ss TI i room PI)(e:room.testBit i=false):GsI tps ss TI (i+1) room PI:=
 ⟨λj a=>by
  by_cases z:j=i
  .rw [z];show e
  .show h.lo j (by lk),h.lt,h.inn,h.nd,h.off,h.bd,h.cnt⟩
theorem GsI.drop{TI PI:List (Nat×Nat)}(h:GsI tps ss TI i room PI)(e:tbQ tps ss (jy room (2 ^ i))=tbQ tps ss room):GsI tps ss TI (i+1) (jy room (2 ^ i)) PI:=
 ⟨λj b=>by
  rw[jv,Yt];by_cases z:j=i
  .subst z;simp
  .rw [h.lo j (by lk)];rfl,Yj (by unfold jy;lk) h.lt,h.inn,h.nd,λk a=>by rw[jv,h.off k a];rfl,h.bd,by rw[e];show h.cnt⟩
theorem GsI.pair{TI PI:List (Nat×Nat)}{o:Nat}(h:GsI tps ss TI i room PI)(r:i<ss.length)(t:o<ss.length)(b:room.testBit i=true)(d:(jy room (2 ^ i)).testBit o=true)(n:(i,o)∈TI)(e:1+tbQ tps ss (jy (jy room (2 ^ i)) (2 ^ o))=tbQ tps ss room):GsI tps ss TI (i+1) (jy (jy room (2 ^ i)) (2 ^ o)) (PI++[(i,o)]):=by
 rw[jv,Yt,yO] at d;have g:i≠o:=λz=>by have:=d.2;rw[yA z] at this;cases this
 have c:∀ k,room.testBit k=false->(jy (jy room (2 ^ i)) (2 ^ o)).testBit k=false:=λk z=>by rw[jv,jv,z];rfl
 show⟨λj s=>?_,Yj (by unfold jy;lk) h.lt,λq f=>?_,?_,λk a=>?_,λk a=>?_,?_⟩
 .by_cases z:j=i
  .subst z;rw[jv,jv,Yt,yA rfl];simp
  .show c j (h.lo j (by lk))
 .rcases yw.mp f with z | z
  .show h.inn q z
  .rw [yx.mp z];show n
 .rw [qaU];show Yg.mpr ⟨h.nd,by simp[g],λx p y l m=>?_⟩;subst m;have:=h.off x p;simp only[yv,yJ,Yo] at l;rcases l with rfl | rfl
  .rw [b] at this;cases this
  .rw [d.1] at this;cases this
 .rw [qaU] at a;rcases yw.mp a with z | z
  .show c k (h.off k z)
  .simp only[yv,yJ,Yo] at z;rcases z with rfl | rfl
   .rw [jv,jv,Yt,yA rfl];simp
   .rw [jv,Yt,yA rfl];simp
 .rw [qaU] at a;rcases yw.mp a with z | z
  .show h.bd k z
  .simp only[yv,yJ,Yo] at z;rcases z with rfl | rfl<;>assumption
 .rw [yu,ke];have:=h.cnt;lk
theorem GsI.done{TI PI:List (Nat×Nat)}(h:GsI tps ss TI ss.length room PI):PI.length=mo tps ss.length ss:=by
 have a:room=0:=by
  show Xv λj=>?_;rw[Ka];by_cases z:j<ss.length
  .show h.lo j z
  .show Nat.testBit_lt_two_pow (yj h.lt (xW (by decide) (by lk)))
 have:=h.cnt;rw[a,qeT] at this;unfold tbQ at this;rw[qdq] at this;lk
theorem GsI.few{TI PI:List (Nat×Nat)}(h:GsI tps ss TI i room PI):2*PI.length<=ss.length:=by
 rw[<- nums_len];have:=qha h.nd (m:=List.range ss.length) λk a=>xk.mpr (h.bd k a)
 rwa[X7] at this
end
inductive spGsQ(vs:List V)(H:Hp)(Q:VK)(E:XK):Prop|mk (p lb lt:Addr) (ss:LS) (TI:List (Nat×Nat)) (bs:LN) (_:vs=[.ref p,.int (ss.length:Int),.ref lb,.ref lt]) (_:Pu H p) (_:lb≠p) (_:lt≠p) (_:ss.length<=12) (_:ss.Nodup) (_:TJ ss.length TI) (_:H lb=some (.lst (zB bs))) (_:BtJ ss.length TI bs) (_:H lt=some (.lst (zB (tbL (TI.map (nmP ss)) ss (2 ^ ss.length))))) (_:∀(l:Addr) (zs:List (Addr×(Nat×Nat))) (H':Hp),But p H H'->Pu H' p->H l=none->l≠p->IPZ H' l zs->(∀ z∈zs,z.2∈TI)->(qd3 (zs.map Prod.snd)).Nodup->2*zs.length<=ss.length->zs.length=mo (TI.map (nmP ss)) ss.length ss->Q (.ref l) H')
theorem ok_gsQ(F:Fun K "_law_greatest" "_law_greatest" jH f fd)(T:Txt K mg cc cw)(Ks:wqN 1 "_law_take" wh spTkP):wqP 2 f fd wS spGsQ:=by
 show F.ok Ku λ_ _ _ _ H vs Q E hr h=>?_
 .obtain⟨p,lb,lt,ss,TI,bs,rfl,hp,bg,bh,be,hn,hj,ay,ag,ao,q⟩:=h;have C:=ze hr;obtain⟨tps,N⟩:∃ tps,tps=TI.map (nmP ss):=⟨_,rfl⟩;rw[<- N] at q ao;have br:2 ^ ss.length<=4096:=xW (by decide) be;have p0:0<2 ^ ss.length:=Xm _;have bb:∀{i j:Nat} {x y:Str},ss[i]?=some x->ss[j]?=some y->(tA tps x y↔qfB bs i j=true):=λhx hy=>by rw[N,qff hn hj hx hy];show(ag.2.2 _ _).symm
  have hi:∀ a b,tA tps a b->a≠b:=λa b h e=>by
   subst e;rw[N] at h;rcases h with h | h <;>
   .obtain⟨q,hq,e⟩:=yQ.mp h;unfold nmP at e
    injection e with e1 U
    have l:=hj.2.1 q hq;have z1:=qbd (ss:=ss) (i:=q.1) (by lk);have z2:=qbd (ss:=ss) (i:=q.2) (by lk);rw[e1] at z1;rw[U] at z2;have:=qC hn z1 z2;lk
  have tg:∀ k,k<2 ^ ss.length->(zB (tbL tps ss (2 ^ ss.length)))[k]?=some (.int (tbQ tps ss k:Nat)):=λk hk=>by
   rw[jt (by rw[qcu];show hk),qeU hk]
  show⟨_,(qc (qm (i:=4) Ku.nd rfl (XC rfl) (qt qbi (qt zJ qf (pv 1)) qf))
 (qc (qm (i:=5) Ku.nd rfl (yK rfl) (qB qd))
 (qc (qX yT rfl (jz rfl T.b_range (qa (pv 1) qd)) (qu (i:=6) Ku.nd rfl (XC rfl))
 (qe (qI (qj (zn (K:=K) rfl C) (qt zm (qt qbH (pv 4) (pv 6)) qf) qf (qy _)) (qc (qm (i:=7) Ku.nd rfl (XC rfl) (qt zm (pv 4) (qa0 qb6 (qt zJ qf (pv 6)))))
 (qc (qbQ (sc:=qh jH) (XN:=wI) wqu 1 [7,2,6] rfl rfl rfl (by room) rfl (by room) (i:=8) Ku.nd rfl rfl
  (jz rfl T.b_range (qa (pv 1) qd)) (λ_ _ _ _=>(qu (i:=0) (show(wqu:LS).Nodup by room) rfl (yK rfl))) jF
  (λ_ _ _ _=>(zf (qj (zn (K:=K) rfl C) (qt zm (qt qbH (qt zm (pv 1) (qo (qp (K:=K) rfl C) (pv 2) (pv 3) (λ_ _=>rfl))) (pv 0)) qf) qf (qy _))))
  (λ_ _ _ _=>(pv 0)))
 (qc (qbQ (sc:=qh jH) (XN:=wI) wqr 1 [3,4,7] rfl rfl rfl (by room) rfl (by room) (i:=9) Ku.nd rfl rfl
  (jh (K:=K) rfl (pv 8)) (λ_ _ _ _=>(qu (i:=0) (show(wqr:LS).Nodup by room) rfl (yK rfl))) jF
  (λ_ _ _ _=>(zf (qj (zn (K:=K) rfl C) (qt (je (K:=K) rfl) qf (qo (qp (K:=K) rfl C) (pv 1) (qt zm (pv 3) (qa0 qb6 (qt zJ qf (pv 0)))) (λ_ _=>rfl))) (qo (qp (K:=K) rfl C) (pv 1) (pv 2) (λ_ _=>rfl)) (qy _))))
  (λ_ _ _ _=>(pv 0)))
 (qe (qI (PW.pt (zu (qj (zn (K:=K) rfl C) (pv 9) (qB qd) (qy _)) (zk (PW.pt (qb5 (qj (zn (K:=K) rfl C) (qo (qp (K:=K) rfl C) (pv 3) (pv 7) (λ_ _=>rfl)) (qo (qp (K:=K) rfl C) (pv 3) (pv 4) (λ_ _=>rfl)) (qy _)) (qcj (qj (zn (K:=K) rfl C) (qx Ks (hmR hr) qF (qa (pv 0) (qa qf qd))) qf (qy _)))))))) (qe (qm (i:=4) Ku.nd rfl (XC rfl) (pv 7))) (qc (qm (i:=10) Ku.nd rfl (yK rfl) (qo (qp (K:=K) rfl C) (pv 9) (qx Ks (hmR hr) qF (qa (pv 0) (qa (qr (zg (K:=K) rfl) rfl T.b_len YQ (qa (pv 9) qd)) qd))) (λ_ _=>rfl)))
 (qc (qE (qaX (K:=K) rfl yI yZ Yb qK (pv 5) (qa (jm (qa (pv 6) (qa (pv 10) qd))) qd)))
 (qe (qm (i:=4) Ku.nd rfl (XC rfl) (qt zm (pv 7) (qa0 qb6 (qt zJ qf (pv 10))))))))))))) qw)))
 (qe (qq (pv 5)))))),?_⟩
  apply vI ⟨by lk,by lk,by decide⟩ ?_;ext;rw[pwI];have eF:((2 ^ ss.length:Nat):Int)-1=((2 ^ ss.length-1:Nat):Int):=by lk
  rw[eF];apply⟨wqQ,λA X=>?_⟩;have Z:A≠p:=λz=>by obtain⟨_,_,_,e,_⟩:=hp;rw[<- z,X] at e;cases e
  have s0:=qz (Sr H) (o:=.lst []) X;have e0:upd H A (.lst []) A=some (.lst []):=qb;generalize upd H A (.lst [])=H0 at s0 e0;apply⟨_,rfl,by lk,by lk,?_⟩;rw[yV];show jO (lo:=0) (λi σ J=>But p H J/\Pu J p/\∃(room:Nat) (t:List (Addr×(Nat×Nat))) (x6 x7 x8 x9 S:Option V),σ=[some (.ref p),some (.int (ss.length:Int)),some (.ref lb),some (.ref lt),some (.int (room:Int)),some (.ref A),x6,x7,x8,x9,S]/\IPZ J A t/\(∀ z∈t,z.1≠p)/\GsI tps ss TI i room (t.map Prod.snd)) ⟨λc o n e=>s0 _ _ e,hp.same s0,2 ^ ss.length-1,[],_,_,_,_,_,rfl,⟨e0,λz hz=>by cases hz⟩,(λz hz=>by cases hz),⟨(λj hj=>by lk),by lk,(λq h=>by cases h),List.nodup_nil,(λk h=>by cases h),(λk h=>by cases h),by simp⟩⟩ (λi σ J ah ai=>?_) fun σ J ai=>?_
  .obtain⟨bJ,pJ,room,t,x6,x7,x8,x9,S,rfl,hz,B,I⟩:=ai;rw[XA];have ad:=bJ _ _ bh ao;have an:=bJ _ _ bg ay;apply vI (by lk) ?_;apply qaA ?_;rw[qba];show⟨_,rfl,qL (λhb=>?_) λhb=>⟨bJ,pJ,room,t,_,_,_,_,_,rfl,hz,B,I.skip (by simpa using hb)⟩⟩;have hb:room.testBit i=true:=hb;obtain⟨x,hx⟩:∃ x,ss[i]?=some x:=⟨_,yb ah⟩;obtain⟨r,g⟩:∃ r,r=jy room (2 ^ i):=⟨_,rfl⟩;have ae:r<2 ^ ss.length:=Nat.lt_trans (by rw[g];show qeS hb) I.lt;apply vI ⟨by lk,by lk,by decide⟩ ?_;apply vU ?_;ext;rw[pwI,jX,<- g];ext;obtain⟨nr,Y⟩:∃ nr,nr=r &&& bs.getD i 0:=⟨_,rfl⟩
   have ba:∀ o y,ss[o]?=some y->(nr.testBit o=true↔(r.testBit o=true/\tA tps x y)):=λo y hy=>by
    rw[Y,xp,yO,bb hx hy];rfl
   obtain⟨nl,M⟩:∃ nl:Nat->LN,nl=λm=>(List.range m).filter λo=>nr.testBit o:=⟨_,rfl⟩;show⟨_,rfl,by lk,by lk,?_⟩;rw[yV];show qas (lo:=0) (λj ys G=>G=J/\ys=(nl j).map iV) ⟨rfl,by rw[M];rfl⟩ (λj ys G bo s=>?_) λys G s=>?_
   .obtain⟨rfl,rfl⟩:=s;rw[XA];apply .inl (j9 an (qk (jt (by rw[ag.1];show ah))) ?_);ext;rw[qeQ,<- Y];show vI (by lk) ?_;apply qaA ?_;rw[qba];have e1:nl (j+1)=nl j++(if nr.testBit j=true then [j] else []):=by rw[M];show qd4 _ j
    have l1:(nl j).length<=j:=by rw[M];show qcv _ j
    rw[e1];show⟨_,rfl,qL (λh=>?_) λh=>?_⟩
    .rw [yG h];apply⟨by rw[ya];show qQ (by lk),rfl,by rw[yC];rfl⟩
    .rw [yF h,Ys];show⟨rfl,rfl⟩
   .obtain⟨rfl,rfl⟩:=s;have l1:(nl ss.length).length<=ss.length:=by rw[M];show qcv _ _
    have R:∀ o,o∈nl ss.length↔o<ss.length/\nr.testBit o=true:=λo=>by rw[M,yq,xk]
    generalize nl ss.length=ne at l1 R;show⟨by rw[ya];show yS (qQ (by lk)),λln az=>?_⟩;have s1:=qz (Sr G) (o:=.lst (ne.map iV)) az;have e1:upd G ln (.lst (ne.map iV)) ln=some (.lst (ne.map iV)):=qb;generalize upd G ln (.lst (ne.map iV))=J1 at s1 e1;have aa:=s1 _ _ ad;obtain⟨L,aj⟩:∃ L:Nat->Bool,L=λo=>decide (1+tbQ tps ss (jy r (2 ^ o))=tbQ tps ss room):=⟨_,rfl⟩;apply .inl ⟨⟨_,.of e1⟩,jg (xs:=ne.map iV) (λj ys G2=>G2=J1/\ys=((ne.take j).filter L).map iV) ⟨rfl,rfl⟩ (λj ys G2 _ s=>by rw[s.1];show .of e1) (λj y ys G2 hy s=>?_) λys G2 s=>?_⟩
    .obtain⟨rfl,rfl⟩:=s;rw[yd] at hy;obtain⟨o,ho,rfl⟩:=yo.mp hy;have bp:=(yc.mp ho).1;have bq:=((R o).mp (ye ho)).1;apply vI ⟨by lk,by lk,by decide⟩ ?_;apply vU ?_;ext;rw[pwI,jX];have as:jy r (2 ^ o)<2 ^ ss.length:=Yj (by unfold jy;lk) ae;show .inl (j9 aa (qk (tg _ as)) ?_);apply .inl (j9 aa (qk (tg _ I.lt)) ?_);apply qaA ?_;have U:decide ((1:Int)+(tbQ tps ss (jy r (2 ^ o)):Nat)=(tbQ tps ss room:Nat))=L o:=by rw[aj];show Ym.mpr (by lk)
     rw[U];have l2:((ne.take j).filter L).length<=j:=yi (Yv _ _) (by rw[yU];lk);rw[yY,ho,xv];show⟨_,rfl,qL (λh=>?_) λh=>?_⟩
     .ext;show⟨by rw[ya];show qQ (by lk),rfl,?_⟩;show _=List.map iV (_++[o].filter L);rw[Yc,yG h,yC];rfl
     .show⟨rfl,?_⟩;show _=List.map iV (_++[o].filter L);rw[Yc,yF h,xS,Ys]
    .obtain⟨rfl,rfl⟩:=s;rw[show(ne.map iV).length=ne.length from ya _,Ye];have l2:(ne.filter L).length<=ss.length:=yi (Yv _ _) l1
     have au:∀ o∈ne.filter L,o<ss.length/\nr.testBit o=true/\1+tbQ tps ss (jy r (2 ^ o))=tbQ tps ss room:=λo h=>by
      obtain⟨k1,k2⟩:=yq.mp h;rw[aj] at k2;show⟨((R o).mp k1).1,((R o).mp k1).2,yk k2⟩
     have non:ne.filter L=[]->tbQ tps ss r=tbQ tps ss room:=λh=>by
      obtain⟨v,hv⟩:=IsM.some (tps:=tps) (ss:=ss) (nb:=λo=>nr.testBit o) (r:=r) ss.length;have ev:=qeR hi hn hx hb (λo=>nr.testBit o) (λo y hy=>by rw[<- g];show ba o y hy) (g ▸ hv);rcases hv.at_ with e | ⟨o,ho,k1,k2⟩
      .omega
      .have:o∈ne.filter L:=yq.mpr ⟨(R o).mpr ⟨ho,k1⟩,by rw[aj];show yA (by lk)⟩;rw[h] at this;cases this
     generalize ne.filter L=D at l2 au non;show⟨by rw[ya];show yS (qQ (by lk)),λlw aq=>?_⟩;have s2:=qz s1 (o:=.lst (D.map iV)) aq;have U:upd G2 lw (.lst (D.map iV)) lw=some (.lst (D.map iV)):=qb;generalize upd G2 lw (.lst (D.map iV))=J2 at s2 U;apply⟨wqQ,λlz ar=>?_⟩;have s3:=qz s2 (o:=.lst []) ar;have e3:upd J2 lz (.lst []) lz=some (.lst []):=qb;have U:=qz (Sr J2) (o:=.lst []) ar _ _ U;generalize upd J2 lz (.lst [])=J3 at s3 e3 U;have av:lw≠p:=λz=>by obtain⟨_,_,_,e,_⟩:=pJ.same s1;rw[<- z,aq] at e;cases e
     have p3:=pJ.same s3;have b3:But p H J3:=λc o n e=>s3 _ _ (bJ c o n e);have z3:=hz.same s3;show .inl (.inl (qeW U e3 ?_));have go:∀{G:Hp} {y7 y8 y9 bj:Option V},But p J3 G->Pu G p->tbQ tps ss r=tbQ tps ss room->But p H G/\Pu G p/\∃(room:Nat) (t:List (Addr×(Nat×Nat))) (x6 x7 x8 x9 S:Option V),[some (V.ref p),some (.int (ss.length:Int)),some (.ref lb),some (.ref lt),some (.int (r:Int)),some (.ref A),some (.int (i:Int)),y7,y8,y9,bj]=[some (.ref p),some (.int (ss.length:Int)),some (.ref lb),some (.ref lt),some (.int (room:Int)),some (.ref A),x6,x7,x8,x9,S]/\IPZ G A t/\(∀ z∈t,z.1≠p)/\GsI tps ss TI (i+1) room (t.map Prod.snd):=λb pg e=>⟨λc o n e=>b c o n (b3 c o n e),pg,r,t,_,_,_,_,_,rfl,⟨b _ _ Z z3.1,λz h=>b _ _ (B z h) (z3.2 z h)⟩,B,g ▸ I.drop (g ▸ e)⟩;show⟨_,rfl,qL (λh=>?_) λh=>?_⟩
     .have bc:D=[]:=by
       cases D with
       | nil=>rfl
       | cons _ _=>cases h
      show zd ?_;apply go (λc o _ e=>e) p3 (non bc)
     .have bd:0<D.length:=by
       cases D with
       | nil=>show absurd rfl h
       | cons _ _=>show Nat.succ_pos _
      show(?cA:∀ KK:Bool->Hp->Prop,(∀ G,But p J3 G->Pu G p->tbQ tps ss r=tbQ tps ss room->KK true G)->(∀ G,But p J3 G->Pu G p->KK false G)->qgB _ _ _ J3 KK) _ (λG bG pG e=>?_) (λG bG pG=>?_)
      case' cA =>
       intro KK k1 k2;have ac:=s3 _ _ ad;apply .inl (j9 ac (qk (tg _ ae)) ?_);apply .inl (j9 ac (qk (tg _ I.lt)) ?_);apply qaA ?_;show⟨_,rfl,qL (λh=>?_) λh=>k2 _ (λc o _ e=>e) p3⟩;have h:=yk h;apply⟨p,2,rfl,p3,by decide,by decide,λd J4 hd b4 p4=>?_⟩;apply qaA ?_;show⟨_,rfl,?_⟩
       cases bm:decide ((d:Int)=0) with
       | true=>show k1 _ b4 p4 (by lk)
       | false=>show k2 _ b4 p4
      .show zd ?_;apply go bG pG e
      .show yr ?_;have al:=bG _ _ av U;apply qac al ?_;rw[ya];apply⟨p,D.length,rfl,pG,bd,by lk,λd J5 hd b5 p5=>?_⟩;have ed:D[d]?=some D[d]:=yb hd;obtain⟨o,eo⟩:∃ o,o=D[d]:=⟨_,rfl⟩;rw[<- eo] at ed;obtain⟨o1,o2,o3⟩:=au o (ye ed);have af:But p J3 J5:=λc o n e=>b5 c o n (bG c o n e);have aw:=b5 _ _ av al;apply .inl (j9 aw (v:=iV o) (qk (by rw[yd,ed];rfl)) ?_);ext;have z5:IPZ J5 A t:=⟨af _ _ Z z3.1,λz h=>af _ _ (B z h) (z3.2 z h)⟩;show⟨.inl ⟨rfl,_,.of z5.1⟩,?_⟩;apply⟨wqS,λtt O=>?_⟩;have s6:=qz (Sr J5) (o:=.tup [.int (i:Int),iV o]) O;have e6:upd J5 tt (.tup [.int (i:Int),iV o]) tt=some (iT (i,o)):=qb;have bi:tt≠p:=λz=>by obtain⟨_,_,_,e,_⟩:=p5;rw[<- z,O] at e;cases e
       generalize upd J5 tt (.tup [.int (i:Int),iV o])=J6 at s6 e6;have z6:=z5.same s6;have p6:=p5.same s6;have zl:t.length<=12:=by have:=I.few;rw[ya] at this;lk
       show⟨A,_,_,rfl,rfl,z6.1,by rw[ya];show qQ (by lk),?_⟩;apply vI ⟨by lk,by lk,by decide⟩ ?_;apply vU ?_;ext;rw[pwI,jX];have bf:tt≠A:=λz=>by rw[z] at O;rw[z5.1] at O;cases O
       have W:r.testBit o=true:=by rw[Y,xp,yO] at o2;show o2.1
       have am:qfB bs i o=true:=by rw[Y,xp,yO] at o2;show o2.2
       have bn:i<o:=by
        rw[g,jv,Yt,yO] at W;show Yn λc=>?_;by_cases z:o=i
        .have:=W.2;rw[yA z.symm] at this;cases this
        .have:=I.lo o (by lk);rw[W.1] at this;cases this
       have ax:(i,o)∈TI:=by
        rcases(ag.2.2 i o).mp am with z | z
        .show z
        .have:=hj.2.1 _ z;simp at this;lk
       show⟨λc u n e=>?_,?_,jy r (2 ^ o),t++[(tt,(i,o))],_,_,_,_,_,rfl,⟨?_,λz ak=>?_⟩,λz ak=>?_,?_⟩
       .rw [qg (λz=>by rw[z,X] at e;cases e)];show s6 _ _ (af c u n (b3 c u n e))
       .obtain⟨x1,x2,x3,e,k⟩:=p6;show⟨x1,x2,x3,by rw[qg (Yh Z)];show e,k⟩
       .rw [qb,yC];rfl
       .rcases yw.mp ak with z | z
        .have e9:=z6.2 _ z;rw[qg λy=>by rw[y,z6.1] at e9;cases e9];show e9
        .rw [yx.mp z,qg bf];show e6
       .rcases yw.mp ak with z | z
        .show B _ z
        .rw [yx.mp z];show bi
       .rw [yC];show g ▸ I.pair ah o1 hb (g ▸ W) ax (g ▸ o3)
  .obtain⟨bJ,pJ,room,t,x6,x7,x8,x9,S,rfl,hz,B,I⟩:=ai;apply q A t J bJ pJ X Z hz (λz h=>I.inn _ (YO h)) I.nd (by have:=I.few;rwa[ya] at this) (by have:=I.done;rwa[ya] at this)
theorem qfC{a:Addr}{Q:VK}(h:PL H l ts tps)(w:H a=some (.tup [.str s,.str t]))(q:Q (.bl (!decide ((s,t)∈tps))) H):qe0 K true (.ref a) (.ref l) H Q:=by
 have z:=qgo (K:=K) (Q:=λv H'=>v=.bl (decide ((s,t)∈tps))/\H'=H) h w ⟨rfl,rfl⟩;rcases z with⟨p,xs,d,_,c,_⟩ | ⟨p,o,e,g,c,_⟩ | ⟨p,xs,e,n,d,c,f,i,j,_⟩
 .cases c
 .cases e;rcases g with⟨kvs,k,e | ⟨x,e⟩,_⟩ | ⟨kvs,k,b,e | ⟨x,e⟩,_⟩<;>(rw[h.1] at e;cases e)
 .show .inr (.inr ⟨p,xs,e,n,d,c,f,i,?_⟩)
  have m:xs.any e=decide ((s,t)∈tps):=by
   have:=j;rw[yF (by decide)] at this;cases r:xs.any e<;>cases u:decide ((s,t)∈tps)<;>rw[r,u] at this<;>first | rfl | (cases this)
  rw[yG rfl,m];show q
def kpN(qs st:LP):LP:=qs.filter λq=>!decide (q∈st)&&!decide ((q.2,q.1)∈st)
def nwN(qs st:LP):LP:=st.filter λq=>!tB qs q.1 q.2
theorem mem_stp:q∈stp r↔∃ j:Nat,r[j]?=some q.1/\r[j+1]?=some q.2:=by
 unfold stp;rw[kf];constructor
 .rintro ⟨j,h⟩;rw[xO,Xh] at h;show⟨j,h⟩
 .rintro ⟨j,h1,a⟩;show⟨j,?_⟩;rw[xO,Xh];show⟨h1,a⟩
theorem qfU(c:(qi qs).Nodup):tB qs a b=true↔pt qs a=some b:=by
 unfold tB;rw[Xk,yR,yR];show(qdZ c).symm
structure Trn(A:Str->Str->Prop)(f:Str->Option Str)(r:LS):Prop where
 nd:r.Nodup
 st:Turns A f r
 par:∀(i:Nat) s b,r[i]?=some s->f s=some b->(i % 2=1/\r[i+1]?=some b)\/(i % 2=0/\0<i/\r[i-1]?=some b)
theorem trn_of(f:(qi qs).Nodup)(nd:r.Nodup)(st:Turns A (pt qs) r)(d:∀ s,r[0]?=some s->pt qs s=none)(tl:∀ s,r.length % 2=0->r[r.length-1]?=some s->pt qs s=none):Trn A (pt qs) r:=by
 show⟨nd,st,λi s b g e=>?_⟩;have j:=(yc.mp g).1;rcases YX i with z | z
 .have c:0<i:=Nat.pos_of_ne_zero λh=>by
   subst h;rw[d s g] at e;cases e
  have a:r[i-1]?=some r[i-1]:=yb (by lk);have:=(st (i-1) _ _ a (by rw[show i-1+1=i by lk];show g)).2.mpr (by lk);rw[qbk f,e] at this;cases this;show .inr ⟨z,c,a⟩
 .by_cases hl:i+1<r.length
  .have a:r[i+1]?=some r[i+1]:=yb hl;have:=(st i _ _ g a).2.mpr z;rw[e] at this;cases this;show .inl ⟨z,a⟩
  .rw [tl s (by lk) (by rw[show r.length-1=i by lk];show g)] at e;cases e
theorem qan(h:Trn A (pt qs) r)(c:(qi qs).Nodup):q∈nwN qs (stp r)↔∃ j:Nat,j % 2=0/\r[j]?=some q.1/\r[j+1]?=some q.2:=by
 unfold nwN;rw[yq,mem_stp,Y6,XW,Ne,qfU c];constructor
 .rintro ⟨⟨j,h1,a⟩,b⟩;show⟨j,?_,h1,a⟩;have:=(h.st j _ _ h1 a).2;rcases YX j with e | e
  .show e
  .show absurd (this.mpr e) b
 .rintro ⟨j,e,h1,a⟩;show⟨⟨j,h1,a⟩,λz=>?_⟩;have:=(h.st j _ _ h1 a).2.mp z;lk
theorem qbD(h:Trn A (pt qs) r)(m:(qi qs).Nodup)(e:pt qs a=some b)(j:a∈r):(a,b)∈stp r\/(b,a)∈stp r:=by
 obtain⟨i,f,d⟩:=xn j;have c:r[i]?=some a:=by rw[yb f,d]
 rcases h.par i a b c e with⟨_,g⟩ | ⟨_,l,g⟩
 .show .inl (mem_stp.mpr ⟨i,c,g⟩)
 .show .inr (mem_stp.mpr ⟨i-1,g,by rw[show i-1+1=i by lk];show c⟩)
theorem qb2(h:Trn A (pt qs) r)(b:(qi qs).Nodup):q∈kpN qs (stp r)↔q∈qs/\q.1∉r/\q.2∉r:=by
 unfold kpN;rw[yq,yO,Y6,Y6,xj,xj];constructor
 .rintro ⟨c,h1,a⟩;have e:pt qs q.1=some q.2:=qfd b (.inl c);show⟨c,λz=>?_,λz=>?_⟩
  .show(qbD h b e z).elim h1 a
  .show(qbD h b ((qbk b).mp e) z).elim a h1
 .rintro ⟨c,h1,a⟩;show⟨c,λz=>?_,λz=>?_⟩
  .obtain⟨j,g,_⟩:=mem_stp.mp z;show h1 (ye g)
  .obtain⟨j,g,_⟩:=mem_stp.mp z;show a (ye g)
def ApN(q r:Str×Str):Prop:=q.1≠r.1/\q.1≠r.2/\q.2≠r.1/\q.2≠r.2
theorem qd9:∀{qs:LP},(qi qs).Nodup->(∀ q∈qs,q.1≠q.2)/\qs.Pairwise ApN
 | [],_=>⟨λq h=>(by cases h),.nil⟩
 | q::r,h=>by
  have h:(q.1::q.2::qi r).Nodup:=h;obtain⟨h1,c⟩:=yp.mp h;obtain⟨a,d⟩:=yp.mp c;obtain⟨f,g⟩:=qd9 d;show⟨λx hx=>?_,List.pairwise_cons.mpr ⟨λx hx=>?_,g⟩⟩
  .rcases yv.mp hx with rfl | hx
   .show λe=>h1 (e ▸ yL)
   .show f x hx
  .have m1:x.1∈qi r:=Y4.mpr ⟨x,hx,by simp⟩;have b:x.2∈qi r:=Y4.mpr ⟨x,hx,by simp⟩;show⟨λe=>h1 (e ▸ yE _ m1),λe=>h1 (e ▸ yE _ b),λe=>a (e ▸ m1),λe=>a (e ▸ b)⟩
theorem qgv(h:Trn A (pt qs) r)(c:(qi qs).Nodup):(qi (kpN qs (stp r)++nwN qs (stp r))).Nodup:=by
 obtain⟨M,N⟩:=qd9 c
 have inj:∀(i j:Nat) s,r[i]?=some s->r[j]?=some s->i=j:=λi j s u v=>by
  obtain⟨G,C⟩:=yc.mp u;obtain⟨H,D⟩:=yc.mp v;rcases kQ i j with z | z | z
  .show absurd (C.trans D.symm) ((YL.mp h.nd) i j G H z)
  .show z
  .show absurd (D.trans C.symm) ((YL.mp h.nd) j i H G z)
 show qbc (λq f=>?_) (List.pairwise_append.mpr ⟨N.sublist kD,?_,λq f x w=>?_⟩)
 .rcases yw.mp f with z | z
  .show M q ((qb2 h c).mp z).1
  .obtain⟨j,_,l,n⟩:=(qan h c).mp z;intro e;rw[e] at l;have:=inj _ _ _ l n;lk
 .have y:(stp r).Pairwise λq x=>(∃ j:Nat,j % 2=0/\r[j]?=some q.1/\r[j+1]?=some q.2)->(∃ j:Nat,j % 2=0/\r[j]?=some x.1/\r[j+1]?=some x.2)->ApN q x:=by
   rw[YL];intro i j u v L;rintro⟨a,O,d,g⟩ ⟨b,P,m,B⟩;have o:(stp r)[i]?=some (stp r)[i]:=yb u;have t:(stp r)[j]?=some (stp r)[j]:=yb v;unfold stp at o t;rw[xO,Xh] at o t;have J:=inj _ _ _ d o.1;have K:=inj _ _ _ m t.1;subst J K;show⟨λe=>?_,λe=>?_,λe=>?_,λe=>?_⟩
   .rw [e] at d;have:=inj _ _ _ d m;lk
   .rw [e] at d;have:=inj _ _ _ d B;lk
   .rw [e] at g;have:=inj _ _ _ g m;lk
   .rw [e] at g;have:=inj _ _ _ g B;lk
  have:=(y.sublist (kD (p:=λq=>!tB qs q.1 q.2)));show this.imp_of_mem λf w z=>z ((qan h c).mp f) ((qan h c).mp w)
 .obtain⟨_,E,F⟩:=(qb2 h c).mp f;obtain⟨j,_,l,n⟩:=(qan h c).mp w;have m1:=ye l;have I:=ye n;show⟨λe=>E (e ▸ m1),λe=>E (e ▸ I),λe=>F (e ▸ m1),λe=>F (e ▸ I)⟩
theorem mem_names:s∈qi qs↔∃ q∈qs,s=q.1\/s=q.2:=by
 unfold qi;rw[Y4];simp
def tlN(qs:LP)(r:LS):LP:=kpN qs (stp r)++nwN qs (stp r)
theorem Trn.names(T:Trn A (pt qs) r)(d:(qi qs).Nodup):s∈qi (tlN qs r)↔(s∉r/\s∈qi qs)\/(s∈r/\(r.length % 2=1->r[r.length-1]?≠some s)):=by
 have inj:∀(i j:Nat) s,r[i]?=some s->r[j]?=some s->i=j:=λi j s a b=>qC T.nd a b
 have app:s∈qi (tlN qs r)↔s∈qi (kpN qs (stp r))\/s∈qi (nwN qs (stp r)):=by
  unfold tlN qi;rw[xF,yw]
 rw[app];constructor
 .rintro (k | k)
  .obtain⟨q,h,e⟩:=mem_names.mp k;obtain⟨f,m,t⟩:=(qb2 T d).mp h;show .inl ⟨by rcases e with rfl | rfl<;>assumption,mem_names.mpr ⟨q,f,e⟩⟩
  .obtain⟨q,h,e⟩:=mem_names.mp k;obtain⟨j,p,l,c⟩:=(qan T d).mp h;have l2:=(yc.mp c).1;rcases e with rfl | rfl
   .show .inr ⟨ye l,λ_ e=>by have:=inj _ _ _ l e;lk⟩
   .show .inr ⟨ye c,λ_ e=>by have:=inj _ _ _ c e;lk⟩
 .rintro (⟨f,m⟩ | ⟨f,m⟩)
  .obtain⟨q,h,e⟩:=mem_names.mp m
   have st:∀{x y:Str},(x,y)∈stp r\/(y,x)∈stp r->x∈r/\y∈r:=λz=>by
    rcases z with z | z<;>obtain⟨j,l,c⟩:=mem_stp.mp z
    .show⟨ye l,ye c⟩
    .show⟨ye c,ye l⟩
   have ep:pt qs q.1=some q.2:=qfd d (.inl h);show .inl (mem_names.mpr ⟨q,(qb2 T d).mpr ⟨h,λy=>?_,λy=>?_⟩,e⟩)
   .have:=st (qbD T d ep y);rcases e with rfl | rfl
    .show f this.1
    .show f this.2
   .have:=st (qbD T d ((qbk d).mp ep) y);rcases e with rfl | rfl
    .show f this.2
    .show f this.1
  .obtain⟨i,o,n⟩:=xn f;have g:r[i]?=some s:=by rw[yb o,n]
   rcases YX i with y | y
   .have hl:i+1<r.length:=Yn λz=>m (by lk) (by rw[show r.length-1=i by lk];show g);have c:r[i+1]?=some r[i+1]:=yb hl;show .inr (mem_names.mpr ⟨(s,r[i+1]),(qan T d).mpr ⟨i,y,g,c⟩,.inl rfl⟩)
   .have c:r[i-1]?=some r[i-1]:=yb (by lk);show .inr (mem_names.mpr ⟨(r[i-1],s),(qan T d).mpr ⟨i-1,by lk,c,by rw[show i-1+1=i by lk];show g⟩,.inr rfl⟩)
theorem row_names(st:Turns A (pt qs) r)(b:(qi qs).Nodup)(g:r[i]?=some s)(c:0<i)(hl:i % 2=1->i+1<r.length):s∈qi qs:=Yn λz=>by
 have en:=pt_none.mpr z;have d:=(yc.mp g).1;rcases YX i with y | y
 .have a:r[i-1]?=some r[i-1]:=yb (by lk);have:=(st (i-1) _ _ a (by rw[show i-1+1=i by lk];show g)).2.mpr (by lk);rw[qbk b,en] at this;cases this
 .have:=(st i _ _ g (yb (hl y))).2.mpr y;rw[en] at this;cases this
theorem atI_lastV{c:V}(h:xs≠[])(e:xs[xs.length-1]?=some c):atI xs (-1)=some c:=by
 have:0<xs.length:=XD.mpr h;unfold atI
 have a:ixN xs.length (-1)=some (xs.length-1):=by
  unfold ixN;rw[yF (by decide),yG (by lk)]
  congr 1
  lk
 rw[a];show e
theorem Alt.trn(h:Alt A (pt qs) r z)(a:(qi qs).Nodup):Trn A (pt qs) r:=trn_of a h.nd h.st h.hd λs e=>by have:=h.odd;lk
section
variable{ss:LS}{tps qs:LP}{r:LS}{z:Str}
theorem Alt.lst(h:Alt (tA tps) (pt qs) r z):r[r.length-1]?=some z:=by
 obtain⟨a,e⟩:=h.tl;rw[e,yu,ke,Nat.add_sub_cancel,yH (yh _),kE];rfl
theorem Alt.names(h:Alt (tA tps) (pt qs) r z)(a:(qi qs).Nodup):s∈qi (tlN qs r)↔(s∉r/\s∈qi qs)\/(s∈r/\s≠z):=by
 have b:=h.odd;rw[(h.trn a).names a,h.lst];show or_congr Iff.rfl (and_congr_right λ_=>⟨λk e=>k b (by rw[e]),λk _ e=>k (yn e).symm⟩)
theorem Alt.tln(h:Alt (tA tps) (pt qs) r z)(g:PGo ss tps qs):(tlN qs r).length=qs.length:=by
 have c:=g.nd;have T:=h.trn c;have H:=h.odd;have f:=h.lst
 have t:∀ s∈r,r[0]?≠some s->s∈qi qs:=λs E C=>by
  obtain⟨i,D,A⟩:=xn E;have u:r[i]?=some s:=by rw[yb D,A]
  have n:0<i:=Nat.pos_of_ne_zero λe=>C (by rw[<- e];show u);show row_names h.st c u n λ_=>by lk
 have one:pt qs z=none->r=[z]:=λe=>by
  by_cases h1:r.length=1
  .match r,h1,f with
   | [x],_,f=>rw[yn f]
  .have B:r[r.length-1-1]?=some r[r.length-1-1]:=yb (by lk);have:=(h.st (r.length-1-1) _ _ B (by rw[show r.length-1-1+1=r.length-1 by lk];show f)).2.mpr (by lk);rw[qbk c,e] at this;cases this
 obtain⟨a,l⟩:∃ a,r[0]?=some a:=⟨_,yb (by lk)⟩;have d:a∉qi qs:=pt_none.mp (h.hd a l);have m:a∈r:=ye l;have o:z∈r:=ye f;have p:(qi (tlN qs r)).Nodup:=qgv T c;have nm:=λs=>h.names c (s:=s);by_cases j:pt qs z=none
 .have e:=one j;have w:tlN qs r=kpN qs []++nwN qs []:=by rw[e];rfl
  rw[w];unfold kpN nwN;simp
 .have b:z∈qi qs:=pt_some.mpr (Option.isSome_iff_ne_none.mpr j);have F:a≠z:=λe=>d (e ▸ b);have q:(a::(qi qs).erase z).Nodup:=yp.mpr ⟨λy=>d (List.mem_of_mem_erase y),c.erase z⟩
  have G:=(List.perm_ext_iff_of_nodup p q).mpr λs=>by
   rw[nm,yv,c.mem_erase_iff];constructor
   .rintro (⟨k1,k2⟩ | ⟨k1,k2⟩)
    .show .inr ⟨λy=>k1 (y ▸ o),k2⟩
    .by_cases y:s=a
     .show .inl y
     .show .inr ⟨k2,t s k1 λv=>y (by rw[l] at v;show(yn v).symm)⟩
   .rintro (rfl | ⟨k1,k2⟩)
    .show .inr ⟨m,F⟩
    .by_cases y:s∈r
     .show .inr ⟨y,k1⟩
     .show .inl ⟨y,k2⟩
  have:=G.length_eq;rw[yB,YN b,jW,jW] at this;have:=YF b;rw[jW] at this;lk
theorem Alt.tgo(h:Alt (tA tps) (pt qs) r z)(g:PGo ss tps qs)(inn:∀ a b,tA tps a b->a∈ss/\b∈ss/\a≠b):PGo ss tps (tlN qs r):=by
 have T:=h.trn g.nd;show⟨λq c=>?_,qgv T g.nd,by rw[h.tln g];show g.few⟩;unfold tlN at c;rcases yw.mp c with y | y
 .show g.inn q ((qb2 T g.nd).mp y).1
 .obtain⟨j,_,d,e⟩:=(qan T g.nd).mp y;have t:=(h.st j _ _ d e).1;show⟨t,inn _ _ t⟩
def evS:LS->LP
 | a::b::r=>(a,b)::evS r
 | _=>[]
def odS(r:LS):LP:=evS r.tail
def tuN(qs:LP)(r:LS):LP:=(qs.filter λq=>!decide (q∈odS r)&&!decide ((q.2,q.1)∈odS r))++evS r
theorem qfD:∀{r:LS} {q:Str×Str},q∈evS r↔∃ j:Nat,j % 2=0/\r[j]?=some q.1/\r[j+1]?=some q.2
 | [],q=>⟨(λh=>by cases h),λ⟨j,_,h,_⟩=>by simp at h⟩
 | [a],q=>⟨(λh=>by cases h),λ⟨j,_,_,h⟩=>by simp at h⟩
 | a::b::r,q=>by
  show q∈(a,b)::evS r↔_;rw[yv,qfD (r:=r)];constructor
  .rintro (rfl | ⟨j,d,h1,c⟩)
   .show⟨0,rfl,rfl,rfl⟩
   .show⟨j+2,by lk,by simpa using h1,by simpa using c⟩
  .rintro ⟨j,d,h1,c⟩
   match j,d,h1,c with
   | 0,_,h1,c =>
    left;simp at h1 c;rw[h1,c]
   | 1,d,_,_=>cases d
   | j+2,d,h1,c=>show .inr ⟨j,by lk,by simpa using h1,by simpa using c⟩
theorem odS_at:q∈odS r↔∃ j:Nat,j % 2=1/\r[j]?=some q.1/\r[j+1]?=some q.2:=by
 unfold odS;rw[qfD];simp only[Xh];show⟨λ⟨j,b,h1,a⟩=>⟨j+1,by lk,h1,a⟩,λ⟨j,b,h1,a⟩=>match j,b,h1,a with | j+1,b,h1,a=>⟨j,by lk,h1,a⟩⟩
theorem qgw:∀(r:LS) (o:Nat),o % 2=0->(∀(j:Nat) a b,r[j]?=some a->r[j+1]?=some b->(tB qs a b=true↔(o+j) % 2=1))->nwN qs (stp r)=evS r
 | [],_,_,_=>rfl
 | [a],_,_,_=>rfl
 | [a,b],o,ho,h=>by
  have f:=h 0 a b rfl rfl
  have d:tB qs a b=false:=by
   cases e:tB qs a b with
   | false=>rfl
   | true=>have:=f.mp e;lk
  show List.filter _ [(a,b)]=[(a,b)];rw[Yc,yG (by simp[d])];rfl
 | a::b::c::r,o,ho,h=>by
  have f:=h 0 a b rfl rfl;have h1:=h 1 b c rfl rfl
  have d:tB qs a b=false:=by
   cases e:tB qs a b with
   | false=>rfl
   | true=>have:=f.mp e;lk
  have g:tB qs b c=true:=h1.mpr (by lk)
  have m:nwN qs (stp (c::r))=evS (c::r):=qgw (c::r) (o+2) (by lk) λj x y i l=>by
   have:=h (j+2) x y (by simpa using i) (by simpa using l);rw[this];lk
  have es:nwN qs (stp (a::b::c::r))=List.filter (λq=>!tB qs q.1 q.2) ((a,b)::(b,c)::stp (c::r)):=rfl;rw[es,Yc,yG (by simp[d]),Yc,yF (by simp[g])];show(a,b)::nwN qs (stp (c::r))=(a,b)::evS (c::r);rw[m]
theorem Alt.tuN(h:Alt (tA tps) (pt qs) r z)(g:PGo ss tps qs):tuN qs r=tlN qs r:=by
 have c:∀(j:Nat) a b,r[j]?=some a->r[j+1]?=some b->(tB qs a b=true↔j % 2=1):=λj a b d hb=>by
  rw[qfU g.nd];show(h.st j a b d hb).2
 unfold K48.tuN tlN;rw[qgw r 0 rfl λj a b d hb=>by rw[c j a b d hb];lk]
 congr 1
 unfold kpN;show kc λq i=>?_
 have e:∀{p:Str×Str},tB qs p.1 p.2=true->(p∈odS r↔p∈stp r):=λ{p} l=>by
  rw[odS_at,mem_stp];show⟨λ⟨j,_,h⟩=>⟨j,h⟩,λ⟨j,h1,f⟩=>⟨j,(c j _ _ h1 f).mp l,h1,f⟩⟩
 have m:tB qs q.1 q.2=true:=by unfold tB;rw[yA (show(q.1,q.2)∈qs from i)];rfl
 have n:tB qs q.2 q.1=true:=by unfold tB;rw[yA (show(q.1,q.2)∈qs from i),XY]
 rw[Ym.mpr (e m),Ym.mpr (e (p:=(q.2,q.1)) n)]
end
theorem uo:FnScope wW wqI (qh jY):=fS
theorem qdr:∀ r:LS,(evS r).length=r.length / 2
 | []=>rfl
 | [a]=>by unfold evS;simp
 | a::b::r=>by
  show(evS r).length+1=(r.length+2) / 2;rw[qdr r];lk
theorem qfE:∀{r:LS} {i:Nat} {a b:Str},r[2*i]?=some a->r[2*i+1]?=some b->(evS r)[i]?=some (a,b)
 | [],i,a,b,h,_=>by simp at h
 | [x],i,a,b,_,h=>by simp at h
 | x::y::r,0,a,b,h1,h2=>by cases h1;cases h2;rfl
 | x::y::r,i+1,a,b,h1,h2=>qfE (r:=r) (i:=i) (by simpa [Nat.mul_add] using h1) (by simpa [Nat.mul_add] using h2)
theorem qcg{lo:Nat}{y:Option V}{Q:VK}(s:H x=some (.lst (r.map V.str)))(h1:lo<=1)(A:r.length=2*m+1)(u:r.length<=14)(q:∀(l:Addr) (ks:LX) (H':Hp),L2.Same H H'->H l=none->PL H' l ks (evS (r.drop lo))->Q (.ref l) H'):qec (Itw lo m) (qb3 0) qgJ (qgG (qe8 (tOp (qfV K) (qfG 1) (qfG 0)) (qe8 (tOp (qfV K) (qfG 1) (tOp (qdd K) (qfG 0) (tC (V.int 1)))) qf7))) [y,some (.ref x)] H Q:=by
 have B:(evS (r.drop lo)).length=m:=by rw[qdr,YA];lk
 show comp_two (λi ys J=>L2.Same H J/\∃ ks:LX,ys=ks.map V.ref/\ks.length<=i/\All2 (λt q=>J t=some (.tup [.str q.1,.str q.2])) ks ((evS (r.drop lo)).take i)) ⟨L2.Same.refl _,[],rfl,yh _,.nil⟩ (λi ys J w j=>?_) λys J j=>?_
 .obtain⟨g,ks,rfl,c,h⟩:=j;obtain⟨a,n⟩:∃ a,r[lo+2*i]?=some a:=⟨_,yb (by lk)⟩;obtain⟨b,hb⟩:∃ b,r[lo+2*i+1]?=some b:=⟨_,yb (by lk)⟩;have e:(evS (r.drop lo))[i]?=some (a,b):=qfE (by rw[XM];show n) (by rw[XM];show hb);have d:=g _ _ s;apply zd ?_;apply .inl (j9 d (v:=.str a) (qk (by rw[yd,n];rfl)) ?_);ext;rw[show((lo+2*i:Nat):Int)+1=((lo+2*i+1:Nat):Int) from rfl];show .inl (j9 d (v:=.str b) (qk (by rw[yd,hb];rfl)) ?_);apply⟨wqS,λt p=>?_⟩;have f:=qz (Sr J) (o:=.tup [.str a,.str b]) p;show⟨by rw[ya];show qQ (by lk),g.trans f,ks++[t],by rw[yC];rfl,by rw[yu];show kS c,?_⟩;rw[yY,e];show(h.mono λ_ _ z=>f _ _ z).snoc qb
 .obtain⟨g,ks,rfl,c,h⟩:=j;rw[YM (by lk)] at h;show⟨by rw[ya];show yS (qQ (by lk)),λl hl=>?_⟩;have f:=qz (Sr J) (o:=.lst (ks.map V.ref)) hl;show q l ks _ (g.trans f) (g.free hl) ⟨qb,h.mono λ_ _ z=>f _ _ z⟩
inductive spTuR(vs:List V)(H:Hp)(Q:VK)(E:XK):Prop|mk (u x:Addr) (us:LX) (qs:LP) (r:LS) (_:vs=[.ref u,.ref x]) (_:PL H u us qs) (_:qs.length<=30) (_:H x=some (.lst (r.map V.str))) (_:r.length % 2=1) (_:r.length<=14) (_:∀(l:Addr) (ls:LX) (H':Hp),L2.Same H H'->H l=none->PL H' l ls (tuN qs r)->Q (.ref l) H')
theorem ok_tuR(F:Fun K "_law_turned" "_law_turned" jY f fd)(T:Txt K mg cc cw):wqP 1 f fd wqI spTuR:=by
 show F.ok uo λ_ _ _ _ H vs Q E hr h=>?_
 .obtain⟨u,x,us,qs,r,rfl,hP,ag,hx,am,X,q⟩:=h;have R:=ze hr;obtain⟨m,hm⟩:∃ m,r.length=2*m+1:=⟨r.length / 2,by lk⟩;have em:(r.length:Int)-1=((2*m:Nat):Int):=by lk
  show⟨_,(qc (qm (i:=2) uo.nd rfl (XC rfl) (jG (sc:=qh jY) (XN:=wW) wqz 1 [1] rfl rfl rfl (by room) rfl (by room)
  (qfx rfl T.b_range (qa qf (qa (qt qbi (qr (zg (K:=K) rfl) rfl T.b_len YQ (qa (pv 1) qd)) qf) (qa qf qd)))) (λ_ _ _ _=>(qu (i:=0) (show(wqz:LS).Nodup by room) rfl (yK rfl))) jF
  (λ_ _ _ _=>jP)
  (λ_ _ _ _=>(jm (qa (qo (qp (K:=K) rfl R) (pv 1) (pv 0) (λ_ _=>rfl)) (qa (qo (qp (K:=K) rfl R) (pv 1) (qt (je (K:=K) rfl) (pv 0) qf) (λ_ _=>rfl)) qd))))))
 (qc (qbQ (sc:=qh jY) (XN:=wW) wqm 2 [2] rfl rfl rfl (by room) rfl (by room) (i:=3) uo.nd rfl rfl
  (qbj (K:=K) rfl (pv 0)) (λ_ _ _ _=>(qbh (n:=2) rfl (qY (qu (i:=0) (show(wqm:LS).Nodup by room) rfl (yK rfl)) (qY (qu (i:=1) (show(wqm:LS).Nodup by room) rfl (yK rfl)) qaa)))) qcX
  (λ_ _ _ _=>(zf (PW.pt (qb5 (qj (j0 (K:=K) rfl R) (jm (qa (pv 0) (qa (pv 1) qd))) (pv 2) (by with_unfolding_all rfl)) (qcj (qj (j0 (K:=K) rfl R) (jm (qa (pv 1) (qa (pv 0) qd))) (pv 2) (by with_unfolding_all rfl)))))))
  (λ_ _ _ _=>(jm (qa (pv 0) (qa (pv 1) qd)))))
 (qe (qq (qt (je (K:=K) rfl) (pv 3) (jG (sc:=qh jY) (XN:=wW) wqz 1 [1] rfl rfl rfl (by room) rfl (by room)
  (qfx rfl T.b_range (qa qf (qa (qt qbi (qr (zg (K:=K) rfl) rfl T.b_len YQ (qa (pv 1) qd)) qf) (qa qf qd)))) (λ_ _ _ _=>(qu (i:=0) (show(wqz:LS).Nodup by room) rfl (yK rfl))) jF
  (λ_ _ _ _=>jP)
  (λ_ _ _ _=>(jm (qa (qo (qp (K:=K) rfl R) (pv 1) (pv 0) (λ_ _=>rfl)) (qa (qo (qp (K:=K) rfl R) (pv 1) (qt (je (K:=K) rfl) (pv 0) qf) (λ_ _=>rfl)) qd)))))))))),?_⟩
  apply qg9 ?_;apply qac hx ?_;rw[ya];ext;rw[em];show⟨1,m,rfl,by decide,by lk,qcg hx (by decide) hm X λg sa H2 s2 hg hS=>?_⟩;have eo:evS (r.drop 1)=odS r:=by unfold odS;rw[List.drop_one]
  rw[eo] at hS;have I:=hP.same s2;have B:=hP.2.len;have W:=s2 _ _ hx;ext;obtain⟨L,d⟩:∃ L:LP->LP,L=λl=>l.filter λq=>!decide (q∈odS r)&&!decide ((q.2,q.1)∈odS r):=⟨_,rfl⟩;show qcW ?_;apply⟨u,_,rfl,.of I.1,jg (xs:=us.map V.ref) (λj ys G=>L2.Same H2 G/\∃ b:LX,ys=b.map V.ref/\All2 (λt ab=>G t=some (.tup [.str ab.1,.str ab.2])) b (L (qs.take j))) ⟨L2.Same.refl H2,[],rfl,by rw[d];show .nil⟩ (λj ys G _ e=>.of (e.1 _ _ I.1)) (λj y ys G hy e=>?_) λys G e=>?_⟩
  .obtain⟨C,b,rfl,a⟩:=e;rw[yd] at hy;obtain⟨t,J,rfl⟩:=yo.mp hy;have hj:j<qs.length:=by rw[<- B];show(yc.mp J).1
   have D:qs[j]?=some qs[j]:=yb hj;generalize qs[j]=ab at D;have et:=C _ _ (I.2.at_ j t ab J D);have al:=a.len;have ah:(L (qs.take j)).length<=j:=by rw[d];show yi (Yv _ _) (by rw[yU];lk)
   have ac:L (qs.take (j+1))=L (qs.take j)++if (!decide (ab∈odS r)&&!decide ((ab.2,ab.1)∈odS r))=true then [ab] else []:=by
    rw[d];show List.filter _ _=List.filter _ _++_;rw[yY,D,xv];show _++[ab].filter _=_;rw[Yc,xS]
   rw[ac];apply⟨t,_,rfl,.of et,rfl,_,_,rfl,_,_,rfl,rfl,?_⟩;apply⟨wqS,λt1 ad=>?_⟩;have s:=qz (Sr G) (o:=.tup [.str ab.1,.str ab.2]) ad;have U:upd G t1 (.tup [.str ab.1,.str ab.2]) t1=some (.tup [.str ab.1,.str ab.2]):=qb;generalize upd G t1 (.tup [.str ab.1,.str ab.2])=S at s U;apply qfC ((hS.same C).same s) U ?_;show⟨_,rfl,?_⟩;rw[show decide ((ab.1,ab.2)∈odS r)=decide (ab∈odS r) from rfl]
   cases ai:decide (ab∈odS r) with
   | true=>show qL (λh=>by cases h) λ_=>qL (λh=>by cases h) λ_=>⟨C.trans s,b,rfl,by simpa using a.mono λ_ _ z=>s _ _ z⟩
   | false =>
    show zd ?_;apply⟨wqS,λt2 ae=>?_⟩;have O:=qz (Sr S) (o:=.tup [.str ab.2,.str ab.1]) ae;have e5:upd S t2 (.tup [.str ab.2,.str ab.1]) t2=some (.tup [.str ab.2,.str ab.1]):=qb;generalize upd S t2 (.tup [.str ab.2,.str ab.1])=G5 at O e5;have N:=s.trans O;apply qfC (((hS.same C).same s).same O) e5 ?_;show⟨_,rfl,?_⟩
    cases aj:decide ((ab.2,ab.1)∈odS r) with
    | true=>show qL (λh=>by cases h) λ_=>⟨C.trans N,b,rfl,by simpa using a.mono λ_ _ z=>N _ _ z⟩
    | false =>
     show zd ?_;apply⟨wqS,λt3 af=>?_⟩;have s6:=qz N (o:=.tup [.str ab.1,.str ab.2]) af;show⟨by rw[ya];show qQ (by lk),C.trans s6,b++[t3],by rw[yC];rfl,?_⟩;show(a.mono λ_ _ z=>s6 _ _ z).snoc qb
  .obtain⟨C,b,rfl,a⟩:=e;rw[show(us.map V.ref).length=qs.length by rw[ya,B],Ye] at a;have kl:b.length<=30:=by rw[a.len,d];show yi (Yv _ _) ag
   show⟨by rw[ya];show yS (qQ (by lk)),λZ aa=>?_⟩;have s:=qz (Sr G) (o:=.lst (b.map V.ref)) aa;have U:upd G Z (.lst (b.map V.ref)) Z=some (.lst (b.map V.ref)):=qb;have A:=a.mono λ_ (ab:Str×Str) (z:G _=some (.tup [.str ab.1,.str ab.2]))=>s _ _ z;generalize upd G Z (.lst (b.map V.ref))=S at s U A;have M:=C.trans s;apply qg9 ?_;apply qac (M _ _ W) ?_;rw[ya];ext;rw[em];show⟨0,m,rfl,by decide,by lk,qcg (M _ _ W) (by decide) hm X λg2 sb H5 O ak v=>?_⟩;have Y:=s2.trans (M.trans O);show .inl ⟨Z,g2,_,_,rfl,rfl,O _ _ U,v.1,?_,λz hz=>?_⟩
   .have l2:=v.2.len;rw[Kl,qdr] at l2;rw[ya,ya];show yS (qQ (by lk))
   .have s7:=qz (Sr H5) (o:=.lst (b.map V.ref++sb.map V.ref)) hz;show q z (b++sb) _ (Y.trans s7) (Y.free hz) ⟨by rw[qb,yC],?_⟩;have e9:tuN qs r=L qs++evS r:=by unfold tuN;rw[d]
    rw[e9];rw[Kl] at v;have h1:=A.mono λ_ (ab:Str×Str) (y:S _=some (.tup [.str ab.1,.str ab.2]))=>s7 _ _ (O _ _ y);have h2:=v.2.mono λ_ (ab:Str×Str) (y:H5 _=some (.tup [.str ab.1,.str ab.2]))=>s7 _ _ y;show⟨by rw[yu,yu,h1.len,h2.len],λk t p J e=>?_⟩;have hl:=h1.len;by_cases c:k<b.length
    .rw [yX c] at J;rw[yX (by lk)] at e;show h1.at_ k t p J e
    .rw [yH (by lk)] at J;rw[yH (by lk)] at e;rw[<- hl] at e;show h2.at_ _ t p J e
theorem KP:FnScope wl wR (qh jZ):=fS
inductive spIrR(vs:List V)(H:Hp)(Q:VK)(E:XK):Prop|mk (n bb u x:Addr) (ss:LS) (TI:List (Nat×Nat)) (bs:LN) (us:LX) (qs:LP) (r:LS) (z:Str) (_:vs=[.ref n,.ref bb,.ref u,.ref x,.str z]) (_:H n=some (.lst (ss.map V.str))) (_:ss.Nodup) (_:ss.length<=12) (_:TJ ss.length TI) (_:H bb=some (.lst (zB bs))) (_:BtJ ss.length TI bs) (_:PL H u us qs) (_:(qi qs).Nodup) (_:qs.length<=30) (_:H x=some (.lst (r.map V.str))) (_:Alt (tA (TI.map (nmP ss))) (pt qs) r z) (_:(∀ s∈r,s∈ss)) (_:∀ H',L2.Same H H'->Q (.bl true) H')
theorem vPar9{D:Ends}(h:ta σ H λvs H1=>∃ v w,vs=[v,w]/\D.nx ((σ.set i (some v)).set j (some w)) H1):qgV i j ta D σ H:=h
theorem all2_app{R:α->β->Prop}{l l':List α}{m m':List β}(h1:All2 R l m)(d:All2 R l' m'):All2 R (l++l') (m++m'):=by
 have hl:=h1.len;show⟨by rw[yu,yu,h1.len,d.len],λk t p b a=>?_⟩;by_cases c:k<l.length
 .rw [yX c] at b;rw[yX (by lk)] at a;show h1.at_ k t p b a
 .rw [yH (by lk)] at b;rw[yH (by lk)] at a;rw[<- hl] at a;show d.at_ _ t p b a
theorem neS0{Q:VK}(q:Q (.bl false) H):qeh K true (.str a) (.str a) H Q:=.inl ⟨rfl,rfl,by
 have:(if true=true then !eqV (V.str a) (V.str a) else eqV (V.str a) (V.str a))=false:=by simp[eqV]
 rw[this];show q⟩
theorem qhb{a:Int}{Q:VK}(q:Q (.bl false) H):qeh K true (.int a) (.int a) H Q:=.inl ⟨rfl,rfl,by
 have:(if true=true then !eqV (V.int a) (V.int a) else eqV (V.int a) (V.int a))=false:=by simp[eqV]
 rw[this];show q⟩
theorem neB0{a:Bool}{Q:VK}(q:Q (.bl false) H):qeh K true (.bl a) (.bl a) H Q:=.inl ⟨rfl,rfl,by
 have:(if true=true then !eqV (V.bl a) (V.bl a) else eqV (V.bl a) (V.bl a))=false:=by cases a<;>rfl
 rw[this];show q⟩
theorem ok_irR(F:Fun K "_law_is_row" "_law_is_row" jZ f fd)(T:Txt K mg cc cw):wqP 1 f fd wR spIrR:=by
 show F.ok KP λ_ _ _ _ H vs Q E hr h=>?_
 .obtain⟨n,bb,u,x,ss,TI,bs,us,qs,r,z,rfl,hn,nd,bd,hj,ar,af,hP,nq,be,S,Y,B,q⟩:=h;have l:=ze hr;have ak:=Y.odd;have bf:r.length<=ss.length:=qc9 Y.nd B;have ah:=Y.lst;show⟨_,(qc (qI (PW.pt (zu (qU (qT (qr (qad (K:=K) rfl) rfl T.b_isinstance YD (qa (pv 3) (qa (jK (v:=.ty "list") rfl T.b_list xz rfl) qd))))) (zu (qj (zn (K:=K) rfl l) (pv 3) (qB qd) (qy _)) (zu (qj (qae (K:=K) rfl l) (qo (qp (K:=K) rfl l) (pv 3) (qa0 qbI qf) (λ_ _=>rfl)) (pv 4) (qy _)) (zk (qj (zn (K:=K) rfl l) (qt zw (qr (zg (K:=K) rfl) rfl T.b_len YQ (qa (pv 3) qd)) qf) qf (qy _))))))) (qe (qq jd)) qw)
 (qc (qI (qj (qae (K:=K) rfl l) (jG (sc:=qh jZ) (XN:=wl) ["_law_name","_law_names_here"] 1 [0] rfl rfl rfl (by room) rfl (by room)
  (jh (K:=K) rfl (pv 3)) (λ_ _ _ _=>(qu (i:=0) (show(["_law_name","_law_names_here"]:LS).Nodup by room) rfl (yK rfl))) jF
  (λ_ _ _ _=>(zf (PW.pt (zu (qU (qT (qr (qad (K:=K) rfl) rfl T.b_isinstance YD (qa (pv 0) (qa (jK (v:=.ty "str") rfl T.b_str boot_str rfl) qd))))) (zk (qj (j0 (K:=K) rfl l) (pv 0) (pv 1) (by with_unfolding_all rfl)))))))
  (λ_ _ _ _=>(pv 0))) (qB qd) (qy _)) (qe (qq jd)) qw)
 (qc (qI (qj (qae (K:=K) rfl l) (qr (k_lenT) rfl T.b_len YQ (qa (qV (k_setS (K:=K) rfl rfl) rfl T.b_set boot_set (qa (pv 3) qd)) qd)) (qr (zg (K:=K) rfl) rfl T.b_len YQ (qa (pv 3) qd)) (qy _)) (qe (qq jd)) qw)
 (qc (qm (i:=5) KP.nd rfl (yK rfl) (qt (je (K:=K) rfl) (pv 2) (jG (sc:=qh jZ) (XN:=wl) wM 2 [] rfl rfl rfl (by room) rfl (by room)
  (qbj (K:=K) rfl (pv 2)) (λ_ _ _ _=>(qbh (n:=2) rfl (qY (qu (i:=0) (show(wM:LS).Nodup by room) rfl (yK rfl)) (qY (qu (i:=1) (show(wM:LS).Nodup by room) rfl (yK rfl)) qaa)))) qcX
  (λ_ _ _ _=>jP)
  (λ_ _ _ _=>(jm (qa (pv 1) (qa (pv 0) qd)))))))
 (qc (qI (qj (qaf (K:=K) rfl l) (qo (qp (K:=K) rfl l) (pv 3) qf (λ_ _=>rfl)) (jG (sc:=qh jZ) (XN:=wl) wM 2 [] rfl rfl rfl (by room) rfl (by room)
  (qbj (K:=K) rfl (pv 5)) (λ_ _ _ _=>(qbh (n:=2) rfl (qY (qu (i:=0) (show(wM:LS).Nodup by room) rfl (yK rfl)) (qY (qu (i:=1) (show(wM:LS).Nodup by room) rfl (yK rfl)) qaa)))) qcX
  (λ_ _ _ _=>jP)
  (λ_ _ _ _=>(pv 0))) (by with_unfolding_all rfl)) (qe (qq jd)) qw)
 (qc (qX yT rfl (jz rfl T.b_range (qa (qt qbi (qr (zg (K:=K) rfl) rfl T.b_len YQ (qa (pv 3) qd)) qf) qd)) (qu (i:=6) KP.nd rfl (yK rfl))
 (qc (ps_par rfl KP.nd (i:=7) (j:=8) rfl rfl (by decide) rfl rfl (qa (qo (qp (K:=K) rfl l) (pv 3) (pv 6) (λ_ _=>rfl)) (qa (qo (qp (K:=K) rfl l) (pv 3) (qt (je (K:=K) rfl) (pv 6) qf) (λ_ _=>rfl)) qd)) (by rfl))
 (qc (qm (i:=9) KP.nd rfl (yK rfl) (qt qbH (qo (qp (K:=K) rfl l) (pv 1) (qaX (K:=K) rfl yI YI YS (qaE (K:=K) rfl) (pv 0) (qa (pv 7) qd)) (λ_ _=>rfl)) (qaX (K:=K) rfl yI YI YS (qaE (K:=K) rfl) (pv 0) (qa (pv 8) qd))))
 (qe (qI (PW.pt (zu (qj (zn (K:=K) rfl l) (qt zm (pv 9) qf) qf (qy _)) (zk (qj (qae (K:=K) rfl l) (za (qaf (K:=K) rfl l) (jm (qa (pv 7) (qa (pv 8) qd))) (pv 5) (by with_unfolding_all rfl)) (za (zn (K:=K) rfl l) (qt zw (pv 6) qf) qf (qy _)) (qy _))))) (qe (qq jd)) qw)))))
 (qe (qq jd)))))))),?_⟩
  apply qa7 (.inl (.lst S)) rfl (zc K "list" (by simp) "list" (by simp)) ?_;apply yr ?_;apply⟨wqQ,λz1 bc=>?_⟩;have s1:=qz (Sr H) (o:=.lst []) bc;have e1:upd H z1 (.lst []) z1=some (.lst []):=qb;generalize upd H z1 (.lst [])=H1 at s1 e1;have A:=s1 _ _ S;show .inl (.inl (qeW A e1 ?_))
  have en:(r.map V.str).isEmpty=false:=by
   cases r with
   | nil=>simp at ak
   | cons _ _=>rfl
  rw[en];show⟨_,rfl,qL (λh=>by cases h) λ_=>?_⟩;apply vU ?_;apply .inl (j9 A (v:=.str z) (atI_lastV (by cases r<;>simp at ak ⊢) (by rw[ya,yd,ah];rfl)) ?_);apply neS0 ?_;show⟨_,rfl,qL (λh=>by cases h) λ_=>?_⟩;apply qac A ?_;rw[ya];apply vI (by decide) ?_;apply qaA ?_;rw[ym (show ¬ ((r.length:Int) % 2=0) by lk)];show⟨_,rfl,qL (λh=>by cases h) λ_=>?_⟩;ext;have ay:=s1 _ _ hn;show .inl ⟨⟨_,.of A⟩,jg (xs:=r.map V.str) (λi ys J=>J=H1/\ys=[]) ⟨rfl,rfl⟩ (λi ys J _ e=>by rw[e.1];show .of A) (λi y ys J U e=>?_) λys J e=>?_⟩
  .obtain⟨rfl,rfl⟩:=e;obtain⟨sy,gi,rfl⟩:=str_eq_list U;apply qa7 (.inl (.str sy)) rfl (zc K "str" (by simp) "str" (by simp)) ?_;apply yr ?_;apply qcx ay ?_;rw[yA (B sy (ye gi))];show⟨_,rfl,qL (λh=>by cases h) λ_=>⟨rfl,rfl⟩⟩
  .obtain⟨rfl,rfl⟩:=e;show⟨wqQ,λl2 av=>?_⟩;have s2:=qz s1 (o:=.lst []) av;have e2:upd J l2 (.lst []) l2=some (.lst (([]:LN).map iV)):=qb;generalize upd J l2 (.lst [])=H2 at s2 e2;apply⟨wqQ,λl3 ag=>?_⟩;have s3:=qz s2 (o:=.lst []) ag;have e3:upd H2 l3 (.lst []) l3=some (.lst []):=qb;have ac:=qz (Sr H2) (o:=.lst []) ag _ _ e2;generalize upd H2 l3 (.lst [])=H3 at s3 e3 ac;show ne_nilI ac e3 ?_;show⟨_,rfl,qL (λh=>by cases h) λ_=>?_⟩;ext;have ba:=s3 _ _ S;show⟨x,r,rfl,SqL.of ba,Y.nd,by lk,λL az=>?_⟩;have s4:=qz s3 (o:=qfP L r) az;have e4:upd H3 L (qfP L r) L=some (qfP L r):=qb;generalize upd H3 L (qfP L r)=H4 at s4 e4;apply⟨L,r,rfl,e4,?_⟩;apply qac (s4 _ _ S) ?_;rw[ya];show qhb ?_;show⟨_,rfl,qL (λh=>by cases h) λ_=>?_⟩;have P4:=hP.same s4;have ul:=hP.2.len;apply qcW ?_;apply⟨u,_,rfl,.of P4.1,jg (xs:=us.map V.ref) (λj ys G=>L2.Same H4 G/\∃ p:LX,ys=p.map V.ref/\All2 (λt ab=>G t=some (.tup [.str ab.1,.str ab.2])) p ((qs.take j).map λq=>(q.2,q.1))) ⟨L2.Same.refl H4,[],rfl,.nil⟩ (λj ys G _ e=>.of (e.1 _ _ P4.1)) (λj y ys G U e=>?_) λys G e=>?_⟩
   .obtain⟨s5,p,rfl,s⟩:=e;rw[yd] at U;obtain⟨t,ht,rfl⟩:=yo.mp U;have O:j<qs.length:=by rw[<- ul];show(yc.mp ht).1
    have m:qs[j]?=some qs[j]:=yb O;generalize qs[j]=ab at m;have et:=s5 _ _ (P4.2.at_ j t ab ht m);have kl:=s.len;rw[ya,yU] at kl;show⟨t,_,rfl,.of et,rfl,_,_,rfl,_,_,rfl,rfl,?_⟩;apply zd ?_;apply⟨wqS,λt1 R=>?_⟩;have Z:=qz (Sr G) (o:=.tup [.str ab.2,.str ab.1]) R;show⟨by rw[ya];show qQ (by lk),s5.trans Z,p++[t1],by rw[yC];rfl,?_⟩;rw[yY,m,yC];show(s.mono λ_ _ z=>Z _ _ z).snoc qb
   .obtain⟨s5,p,rfl,s⟩:=e;rw[show(us.map V.ref).length=qs.length by rw[ya,ul],Ye] at s;have kl:=s.len;rw[ya] at kl;show⟨by rw[ya];show yS (qQ (by lk)),λlk aw=>?_⟩;have Z:=qz (Sr G) (o:=.lst (p.map V.ref)) aw;have P6:PL (upd G lk (.lst (p.map V.ref))) lk p (qs.map λq=>(q.2,q.1)):=⟨qb,s.mono λ_ _ z=>Z _ _ z⟩;generalize upd G lk (.lst (p.map V.ref))=H6 at Z P6;have an:=s5.trans Z;have P6q:=P4.same an;show .inl ⟨u,lk,_,_,rfl,rfl,P6q.1,P6.1,by rw[ya,ya];show yS (qQ (by lk)),λbo as=>?_⟩;have s7:=qz (Sr H6) (o:=.lst (us.map V.ref++p.map V.ref)) as;have D:PL (upd H6 bo (.lst (us.map V.ref++p.map V.ref))) bo (us++p) (qs++qs.map λq=>(q.2,q.1)):=⟨by rw[qb,yC],all2_app (P6q.2.mono λ_ _ z=>s7 _ _ z) (P6.2.mono λ_ _ z=>s7 _ _ z)⟩;generalize upd H6 bo (.lst (us.map V.ref++p.map V.ref))=H7 at s7 D;have am:=s4.trans (an.trans s7);obtain⟨g,N⟩:∃ g,g=qs++qs.map λq=>(q.2,q.1):=⟨_,rfl⟩
    have I:∀ a b,(a,b)∈g↔pt qs a=some b:=λa b=>by
     rw[<- qfU nq,N,yw];unfold tB;rw[Xk,yR,yR];show or_congr Iff.rfl ⟨λh=>?_,λh=>yQ.mpr ⟨(b,a),h,rfl⟩⟩;obtain⟨q',h1,h2⟩:=yQ.mp h;cases h2;show h1
    have bl:g.length<=60:=by rw[N,yu,ya];lk
    rw[<- N] at D;generalize us++p=bu at D;have aa:=D.2.len;obtain⟨a0,ad⟩:∃ a,r[0]?=some a:=⟨_,yb (by lk)⟩;apply .inl (j9 (am _ _ S) (v:=.str a0) (qk (j:=0) (by rw[yd,ad];rfl)) ?_);apply qcW ?_;apply⟨bo,_,rfl,.of D.1,jg (xs:=bu.map V.ref) (λj ys G=>G=H7/\ys=((g.take j).map Prod.fst).map V.str) ⟨rfl,rfl⟩ (λj ys G _ e=>by rw[e.1];show .of D.1) (λj y ys G U e=>?_) λys G e=>?_⟩
    .obtain⟨rfl,rfl⟩:=e;rw[yd] at U;obtain⟨t,ht,rfl⟩:=yo.mp U;have O:j<g.length:=by rw[<- aa];show(yc.mp ht).1
     have m:g[j]?=some g[j]:=yb O;generalize g[j]=ab at m;show⟨t,_,rfl,.of (D.2.at_ j t ab ht m),rfl,_,_,rfl,_,_,rfl,rfl,?_⟩;apply zd ?_;apply⟨by rw[ya,ya,yU];show qQ (by lk),rfl,?_⟩;rw[yY,m,yC,yC];rfl
    .obtain⟨rfl,rfl⟩:=e;rw[show(bu.map V.ref).length=g.length by rw[ya,aa],Ye];show⟨by rw[ya,ya];show yS (qQ (by lk)),λlo ax=>?_⟩;have s8:=qz (Sr G) (o:=.lst ((g.map Prod.fst).map V.str)) ax;have e8:upd G lo (.lst ((g.map Prod.fst).map V.str)) lo=some (.lst ((g.map Prod.fst).map V.str)):=qb;generalize upd G lo (.lst ((g.map Prod.fst).map V.str))=H8 at s8 e8;show qcs e8 ?_
     have na:¬ a0∈g.map Prod.fst:=λh=>by
      obtain⟨⟨c,d⟩,h1,h2⟩:=yQ.mp h;have h2:c=a0:=h2;subst h2;have:=(I _ _).mp h1;rw[Y.hd _ ad] at this;cases this
     rw[ym na];show⟨_,rfl,qL (λh=>by cases h) λ_=>?_⟩;have W:=am.trans s8;have P8:=D.same s8;apply qac (W _ _ S) ?_;rw[ya];apply⟨_,rfl,by lk,by lk,?_⟩;show jO (lo:=0) (λi σ J=>L2.Same H8 J/\∃ y6 y7 y8 y9,σ=[some (.ref n),some (.ref bb),some (.ref u),some (.ref x),some (.str z),some (.ref bo),y6,y7,y8,y9]) ⟨L2.Same.refl _,none,none,none,none,rfl⟩ (λi σ J hi e=>?_) fun σ J e=>?_
     .obtain⟨sJ,y6,y7,y8,y9,rfl⟩:=e;have X:=W.trans sJ;have aj:=X _ _ S;have C:=X _ _ hn;have aq:=X _ _ ar;have au:i+1<r.length:=by lk
      obtain⟨a,ha⟩:∃ a,r[i]?=some a:=⟨_,yb (by lk)⟩;obtain⟨b,hb⟩:∃ b,r[i+1]?=some b:=⟨_,yb au⟩;have ai:=Y.st i a b ha hb;have M:=B a (ye ha);have ae:=B b (ye hb);have ga:ss[ss.idxOf a]?=some a:=by rw[yb (yW M),Yx]
      have gb:ss[ss.idxOf b]?=some b:=by rw[yb (yW ae),Yx]
      have ao:(bs.getD (ss.idxOf a) 0).testBit (ss.idxOf b)=true:=(af.2.2 _ _).mpr ((qff nd hj ga gb).mp ai.1);rw[XA];apply vPar9 ?_;apply .inl (j9 aj (v:=.str a) (qk (by rw[yd,ha];rfl)) ?_);ext;rw[show(i:Int)+1=((i+1:Nat):Int) from rfl];show .inl (j9 aj (v:=.str b) (qk (by rw[yd,hb];rfl)) ?_);apply⟨_,_,rfl,?_⟩;apply⟨.inl ⟨rfl,_,.of C⟩,?_⟩;apply⟨n,ss,_,rfl,rfl,.of C,M,?_⟩;apply .inl (j9 aq (qk (jt (by rw[af.1];show yW M))) ?_);apply⟨.inl ⟨rfl,_,.of C⟩,?_⟩;apply⟨n,ss,_,rfl,rfl,.of C,ae,?_⟩;apply vI (by lk) ?_;apply qaA ?_;rw[qcn,ao];show⟨_,rfl,qL (λh=>by cases h) λ_=>?_⟩;apply⟨wqS,λt1 R=>?_⟩;have s9:=qz (Sr J) (o:=.tup [.str a,.str b]) R;have e9:upd J t1 (.tup [.str a,.str b]) t1=some (.tup [.str a,.str b]):=qb;generalize upd J t1 (.tup [.str a,.str b])=J9 at s9 e9;apply qgo ((P8.same sJ).same s9) e9 ?_;apply vI (by decide) ?_;apply qaA ?_;have eb:decide ((a,b)∈g)=decide ((i:Int) % 2=1):=Ym.mpr (by rw[I,ai.2];lk);rw[eb];show neB0 ?_;show⟨_,rfl,qL (λh=>by cases h) λ_=>?_⟩;show⟨sJ.trans s9,_,_,_,_,rfl⟩
     .obtain⟨sJ,y6,y7,y8,y9,rfl⟩:=e;apply q _ (W.trans sJ)
theorem KZ:FnScope wJ wL (qh zP):=fS
theorem refs_ne{a b:Addr}{Q:VK}(d:PL H a us qs)(hb:H b=some (.lst (us.map V.ref)))(q:Q (.bl false) H):qeh K true (.ref a) (.ref b) H Q:=by
 show .inr (.inl ⟨a,b,true,1,rfl,rfl,by decide,?_,q⟩)
 have z:=EqT.lst (K:=K) (H:=H) (n:=0) (e:=λ_=>true) (SqL.of d.1) (SqL.of hb) rfl λj x y h1 c=>by
  rw[h1] at c;cases c;rw[yd] at h1;obtain⟨u,_,rfl⟩:=yo.mp h1;show .self
 rwa[show(List.range (us.map V.ref).length).all (λ_=>true)=true from YY.mpr λ_ _=>rfl] at z
inductive spRwX(cw:Addr)(vs:List V)(H:Hp)(Q:VK)(E:XK):Prop|mk (x n bb u:Addr) (ss:LS) (ns:LN) (TI:List (Nat×Nat)) (bs:LN) (us:LX) (qs:LP) (z:Str) (m:Nat) (_:vs=[.ref x,.ref n,.ref bb,.ref u,.str z,.bl (decide (z∈loQ (TI.map (nmP ss)) ss)),.int (m:Int)]) (_:m<=2) (_:Wt cw H x ss ns (TI.map (nmP ss))) (_:H n=some (.lst (ss.map V.str))) (_:ss.length<=12) (_:TJ ss.length TI) (_:H bb=some (.lst (zB bs))) (_:BtJ ss.length TI bs) (_:PL H u us qs) (_:PGo ss (TI.map (nmP ss)) qs) (_:Gst ss (TI.map (nmP ss)) qs) (_:z∈ss) (_:∀ H',L2.Same H H'->Q (.bl true) H')
theorem ok_rwX(F:Fun K "_law_right" "_law_right" zP f fd)(T:Txt K mg cc cw)(uB:wqN 12 "row_out" wqj (spRO cw))(u4:wqN 1 "_law_is_row" wR spIrR)(u5:wqN 1 "_law_turned" wqI spTuR)(K8:wqN 1 "_law_are_pairs" wV spArQ):wqP 13 f fd wL (spRwX cw):=by
 show F.ok KZ λ_ _ _ s H vs Q E hr h=>?_
 .obtain⟨x,n,bb,u,ss,ns,TI,bs,us,qs,z,m,rfl,m2,W,hn,aq,hj,aa,ac,N,g,G,hz,q⟩:=h;have hu:=ze hr;have nd:=W.wok.nd;have ai:=g.few;have ul:=N.2.len;show⟨_,(qc (qm (i:=7) KZ.nd rfl (yK rfl) (qV (zV (K:=K) rfl rfl) rfl T.b_list xz (qa (pv 3) qd)))
 (qc (qX yT rfl (jz rfl T.b_range (qa (pv 6) qd)) (qu (i:=8) KZ.nd rfl (yK rfl))
 (qc (qm (i:=9) KZ.nd rfl (yK rfl) (qx uB (hmR hr) qF (qa (pv 0) (qa (pv 3) (qa (pv 4) qd)))))
 (qc (qI (qj (qae (K:=K) rfl hu) (pv 3) (pv 7) (qy _)) (qe (qq jd)) qw)
 (qe (qI (qU (qT (pv 5))) (qe (qI (qj qa1 (pv 9) j6 (qy _)) (qe (qq jd)) qw)) (qc (qI (qU (qT (qx u4 (hmR hr) qF (qa (pv 1) (qa (pv 2) (qa (pv 3) (qa (pv 9) (qa (pv 4) qd)))))))) (qe (qq jd)) qw)
 (qc (qm (i:=10) KZ.nd rfl (yK rfl) (qx u5 (hmR hr) qF (qa (pv 3) (qa (pv 9) qd))))
 (qc (qI (PW.pt (zu (qU (qT (qx K8 (hmR hr) qF (qa (pv 1) (qa (pv 2) (qa (pv 10) qd)))))) (zk (qj (qae (K:=K) rfl hu) (qr (zg (K:=K) rfl) rfl T.b_len YQ (qa (pv 10) qd)) (qr (zg (K:=K) rfl) rfl T.b_len YQ (qa (pv 3) qd)) (qy _))))) (qe (qq jd)) qw)
 (qc (qI (qj (qaf (K:=K) rfl hu) (pv 4) (qt (je (K:=K) rfl) (jG (sc:=qh zP) (XN:=wJ) wM 2 [] rfl rfl rfl (by room) rfl (by room)
  (qbj (K:=K) rfl (pv 10)) (λ_ _ _ _=>(qbh (n:=2) rfl (qY (qu (i:=0) (show(wM:LS).Nodup by room) rfl (yK rfl)) (qY (qu (i:=1) (show(wM:LS).Nodup by room) rfl (yK rfl)) qaa)))) qcX
  (λ_ _ _ _=>jP)
  (λ_ _ _ _=>(pv 0))) (jG (sc:=qh zP) (XN:=wJ) wM 2 [] rfl rfl rfl (by room) rfl (by room)
  (qbj (K:=K) rfl (pv 10)) (λ_ _ _ _=>(qbh (n:=2) rfl (qY (qu (i:=0) (show(wM:LS).Nodup by room) rfl (yK rfl)) (qY (qu (i:=1) (show(wM:LS).Nodup by room) rfl (yK rfl)) qaa)))) qcX
  (λ_ _ _ _=>jP)
  (λ_ _ _ _=>(pv 1)))) (by with_unfolding_all rfl)) (qe (qq jd)) qw)
 (qe (qE (qaX (K:=K) rfl yI yZ Yb qK (pv 9) (qa jJ qd)))))))))))))
 (qe (qq jd)))),?_⟩
  apply .inl ⟨u,_,rfl,.inl (.of N.1),λkp am=>?_⟩;have s1:=qz (Sr H) (o:=.lst (us.map V.ref)) am;have e1:upd H kp (.lst (us.map V.ref)) kp=some (.lst (us.map V.ref)):=qb;generalize upd H kp (.lst (us.map V.ref))=H1 at s1 e1;apply⟨_,rfl,by lk,by lk,?_⟩;rw[yV];show jO (lo:=0) (λi σ J=>L2.Same H1 J/\∃ y8 y9 Y,σ=[some (.ref x),some (.ref n),some (.ref bb),some (.ref u),some (.str z),some (.bl (decide (z∈loQ (TI.map (nmP ss)) ss))),some (.int (m:Int)),some (.ref kp),y8,y9,Y]) ⟨L2.Same.refl _,none,none,none,rfl⟩ (λi σ J hi A=>?_) fun σ J A=>?_
  .obtain⟨X,y8,y9,Y,rfl⟩:=A;have U:=s1.trans X;apply⟨x,u,ss,ns,us,_,qs,z,rfl,W.same U,N.same U,g,G,hz,λv J2 ⟨s2,S,Fn0,hv⟩=>?_⟩;have C:=U.trans s2;apply refs_ne (N.same C) (s2 _ _ (X _ _ e1)) ?_;show⟨_,rfl,qL (λh=>by cases h) λ_=>?_⟩
   have ah:z∈loQ (TI.map (nmP ss)) ss↔S.rows z≠none:=by
    rw[<- mx_loose W.ir nd g Fn0 hz];unfold loQ;rw[yq,yR];show⟨λh=>h.2,λh=>⟨hz,h⟩⟩
   ext;rcases hv with⟨e,rfl⟩ | ⟨r,l,e,rfl,an,hl⟩
   .rw [ym (λh=>(ah.mp h) e)];apply zd ?_;apply⟨rfl,⟨_,rfl,qL (λh=>by cases h) λ_=>?_⟩⟩;show⟨X.trans s2,_,_,_,rfl⟩
   .rw [yA (ah.mpr (by rw[e];show λy=>by cases y))];apply yr ?_;have B:=Fn0.fi.alt z r e;have ar:=B.odd
    have ad:∀ s∈r,s∈ss:=λs hs=>by
     obtain⟨k,hk,ek⟩:=xn hs;have gk:r[k]?=some s:=by rw[yb hk,ek]
     by_cases c:k+1<r.length
     .show Fn0.inn _ _ (B.st k s _ gk (yb c)).1
     .have:=B.lst;rw[show r.length-1=k by lk,gk] at this;rw[yn this];show hz
    have aw:r.length<=ss.length:=qc9 B.nd ad;have tg:PGo ss (TI.map (nmP ss)) (tuN qs r):=by rw[B.tuN g];show B.tgo g λa b h=>⟨Fn0.inn a b h,Fn0.inn b a (Fn0.gr.as h),W.ir a b h⟩
    have tl:(tuN qs r).length=qs.length:=by rw[B.tuN g];show B.tln g
    have tz:z∉qi (tuN qs r):=by
     rw[B.tuN g,B.names g.nd];rintro(h | h)
     .show h.1 (by obtain⟨r0,e0⟩:=B.tl;rw[e0];simp)
     .show h.2 rfl
    apply⟨n,bb,u,l,ss,TI,bs,us,qs,r,z,rfl,C _ _ hn,nd,aq,hj,C _ _ aa,ac,N.same C,g.nd,ai,hl,B,ad,λJ3 s3=>?_⟩;show⟨_,rfl,qL (λh=>by cases h) λ_=>?_⟩;have aj:=C.trans s3;apply⟨u,l,us,qs,r,rfl,N.same aj,ai,s3 _ _ hl,ar,by lk,λl4 I J4 s4 av D=>?_⟩;have R:=aj.trans s4;generalize tuN qs r=rs at D tg tl tz;apply⟨n,bb,l4,ss,TI,bs,_,rfl,R _ _ hn,nd,W.wok.nm,hj,R _ _ aa,ac,D.1,by rw[ya,D.2.len,tl];lk,D.pe tg,λJ5 s5=>?_⟩;rw[D.ap W tg];have ak:=R.trans s5;have Z:=D.same s5;show⟨_,rfl,qL (λh=>by cases h) λ_=>?_⟩;apply qac Z.1 ?_;apply qac (N.same ak).1 ?_;rw[ya,ya,Z.2.len,ul,tl];show qhb ?_;show⟨_,rfl,qL (λh=>by cases h) λ_=>?_⟩;apply qcW ?_;apply⟨l4,_,rfl,.of Z.1,jg (xs:=I.map V.ref) (λj ys G=>G=J5/\ys=((rs.take j).map Prod.fst).map V.str) ⟨rfl,rfl⟩ (λj ys G _ A=>by rw[A.1];show .of Z.1) (λj y ys G hy A=>?_) λys G A=>?_⟩
    .obtain⟨rfl,rfl⟩:=A;rw[yd] at hy;obtain⟨t,ht,rfl⟩:=yo.mp hy;have O:j<rs.length:=by rw[<- D.2.len];show(yc.mp ht).1
     have d:rs[j]?=some rs[j]:=yb O;generalize rs[j]=ab at d;show⟨t,_,rfl,.of (Z.2.at_ j t ab ht d),rfl,_,_,rfl,_,_,rfl,rfl,?_⟩;apply zd ?_;apply⟨by rw[ya,ya,yU];show qQ (by lk),rfl,?_⟩;rw[yY,d,yC,yC];rfl
    .obtain⟨rfl,rfl⟩:=A;rw[show(I.map V.ref).length=rs.length by rw[ya,D.2.len],Ye];show⟨by rw[ya,ya];show yS (qQ (by lk)),λla af=>?_⟩;have s6:=qz ak (o:=.lst ((rs.map Prod.fst).map V.str)) af;have L:=qz (Sr G) (o:=.lst ((rs.map Prod.fst).map V.str)) af;have e6:upd G la (.lst ((rs.map Prod.fst).map V.str)) la=some (.lst ((rs.map Prod.fst).map V.str)):=qb;generalize upd G la (.lst ((rs.map Prod.fst).map V.str))=J6 at s6 L e6;have P6:=Z.same L;apply qcW ?_;apply⟨l4,_,rfl,.of P6.1,jg (xs:=I.map V.ref) (λj ys G=>G=J6/\ys=((rs.take j).map Prod.snd).map V.str) ⟨rfl,rfl⟩ (λj ys G _ A=>by rw[A.1];show .of P6.1) (λj y ys G hy A=>?_) λys G A=>?_⟩
     .obtain⟨rfl,rfl⟩:=A;rw[yd] at hy;obtain⟨t,ht,rfl⟩:=yo.mp hy;have O:j<rs.length:=by rw[<- D.2.len];show(yc.mp ht).1
      have d:rs[j]?=some rs[j]:=yb O;generalize rs[j]=ab at d;show⟨t,_,rfl,.of (P6.2.at_ j t ab ht d),rfl,_,_,rfl,_,_,rfl,rfl,?_⟩;apply zd ?_;apply⟨by rw[ya,ya,yU];show qQ (by lk),rfl,?_⟩;rw[yY,d,yC,yC];rfl
     .obtain⟨rfl,rfl⟩:=A;rw[show(I.map V.ref).length=rs.length by rw[ya,D.2.len],Ye];show⟨by rw[ya,ya];show yS (qQ (by lk)),λlb ag=>?_⟩;have s7:=qz s6 (o:=.lst ((rs.map Prod.snd).map V.str)) ag;have M:=qz (Sr G) (o:=.lst ((rs.map Prod.snd).map V.str)) ag;have e7:upd G lb (.lst ((rs.map Prod.snd).map V.str)) lb=some (.lst ((rs.map Prod.snd).map V.str)):=qb;generalize upd G lb (.lst ((rs.map Prod.snd).map V.str))=J7 at s7 M e7;show .inl ⟨la,lb,_,_,rfl,rfl,M _ _ e6,e7,by rw[ya,ya,ya,ya];show yS (qQ (by lk)),λlc ao=>?_⟩;rw[<- yC];have s8:=qz (Sr J7) (o:=.lst ((rs.map Prod.fst++rs.map Prod.snd).map V.str)) ao;have e8:upd J7 lc (.lst ((rs.map Prod.fst++rs.map Prod.snd).map V.str)) lc=some (.lst ((rs.map Prod.fst++rs.map Prod.snd).map V.str)):=qb;generalize upd J7 lc (.lst ((rs.map Prod.fst++rs.map Prod.snd).map V.str))=J8 at s8 e8;have au:L2.Same H1 J8:=X.trans (s2.trans (s3.trans (s4.trans (s5.trans (L.trans (M.trans s8))))));have ae:J8 l=some (.lst (r.map V.str)):=s8 _ _ (M _ _ (L _ _ (s5 _ _ (s4 _ _ (s3 _ _ hl)))));show qcs e8 ?_
      have nz:¬ z∈rs.map Prod.fst++rs.map Prod.snd:=λh=>tz (mem_names.mpr (by
       rcases yw.mp h with y | y
       .obtain⟨p,h1,h2⟩:=yQ.mp y;show⟨p,h1,.inl h2.symm⟩
       .obtain⟨p,h1,h2⟩:=yQ.mp y;show⟨p,h1,.inr h2.symm⟩))
      rw[ym nz];show⟨_,rfl,qL (λh=>by cases h) λ_=>?_⟩;apply⟨.inl ⟨rfl,_,.of ae⟩,?_⟩;apply⟨l,_,_,rfl,rfl,ae,by rw[ya];show qQ (by lk),?_⟩;show⟨qa9 au (X.free an),_,_,_,rfl⟩
  .obtain⟨X,y8,y9,Y,rfl⟩:=A;apply q _ (s1.trans X)
theorem qgx(g:∀ a b,tA tps a b->a≠b)(d:ss.Nodup){k:Nat}(c:k<ss.length):k∈frI tps ss ss.length↔tn ss k∈loQ tps ss:=by
 unfold frI loQ;rw[yq,yq,xk,yR,yR]
 have e:tbQ tps ss (jy (2 ^ ss.length-1) (2 ^ k))=mo tps (del ss (tn ss k)).length (del ss (tn ss k)):=by
  unfold tbQ;rw[qdn d (qbd c),qdq];show qfS g (qbY _ _) (yh _) (d.filter _)
 have f:tbQ tps ss (2 ^ ss.length-1)=mo tps ss.length ss:=by unfold tbQ;rw[qdq]
 rw[e,f];show⟨λh=>⟨qb0 c,h.2⟩,λh=>⟨c,h.2⟩⟩
theorem fr_dec(c:∀ a b,tA tps a b->a≠b)(e:ss.Nodup){k:Nat}(d:k<ss.length):decide (k∈frI tps ss ss.length)=decide (tn ss k∈loQ tps ss):=Ym.mpr (qgx c e d)
theorem gst_of(f:∀ a b,tA tps a b->a≠b)(d:ss.Nodup)(e:qs.length=mo tps ss.length ss):Gst ss tps qs:=λrs g=>by
 have h:=qbZ f ss.length (yh _) d g.mt;have c:=g.cnt d;lk
theorem uf:FnScope wY wU (qh zr):=fS
theorem qds{y:V}(h:qaB H ss tps y=none):∀{xs:List V} {seen:LS},y∈xs->apL H ss tps seen xs=false
 | x::r,seen,hy=>by
  cases a:qaB H ss tps x with
  | none=>show qaW a
  | some ab =>
   rw[qbC a];split
   .rfl
   .rcases yv.mp hy with rfl | hy
    .rw [h] at a;cases a
    .show qds h hy
theorem Pu.neS{u:Addr}{ks:LS}(h:Pu J p)(e:J u=some (.lst (ks.map V.str))):u≠p:=λz=>by
 obtain⟨a,b,c,d,_⟩:=h;rw[z,d] at e
 cases ks with
 | nil=>cases e
 | cons k r=>injection e with e;injection e with e;injection e with e;cases e
theorem Pu.neR{u:Addr}{ks:LX}(h:Pu J p)(e:J u=some (.lst (ks.map V.ref))):u≠p:=λz=>by
 obtain⟨a,b,c,d,_⟩:=h;rw[z,d] at e
 cases ks with
 | nil=>cases e
 | cons k r=>injection e with e;injection e with e;injection e with e;cases e
theorem Pu.neT{u:Addr}(h:Pu J p)(e:J u=some (.tup xs)):u≠p:=λz=>by
 obtain⟨a,b,c,d,_⟩:=h;rw[z,d] at e;cases e
theorem PL.butP(h:PL J l us qs)(a:Pu J p)(b:But p J J'):PL J' l us qs:=⟨b _ _ (a.neR h.1) h.1,h.2.mono λ_ _ e=>b _ _ (a.neT e) e⟩
def PeO(p:Addr)(ss:LS)(J:Hp)(x:V):Prop:=PeQ (qaY p J) ss x/\Ok p J 2 100 4 x
theorem PeO.but{x:V}(h:PeO p ss J x)(b:But p J J'):PeO p ss J' x:=⟨h.1.same (qcy b),h.2.but b⟩
theorem PL.pe0(h:PL J l us qs)(g:PGo ss tps qs)(nm:∀ s∈ss,jf s=true)(r:Pu J p):∀ x∈us.map V.ref,PeO p ss J x:=λx o=>by
 obtain⟨u,j,rfl⟩:=yQ.mp o;obtain⟨i,a⟩:=yf j;obtain⟨q,d⟩:∃ q,qs[i]?=some q:=⟨_,yb (by rw[<- h.2.len];show(yc.mp a).1)⟩;obtain⟨_,b,c,_⟩:=g.inn q (ye d);have e:=h.2.at_ i u q a d;have f:=r.neT e;show⟨.inl ⟨u,q.1,q.2,rfl,by rw[jx f];show e,b,c⟩,((Ok.tup (k:=0) (n:=6) (m:=1) e f (by show 2<=1000;decide) (qgA (Ok.name (nm _ b)) (Ok.name (nm _ c)))).mono (by show 14<=100;decide) (by decide)).deep⟩
theorem PeO.tup(nm:∀ s∈ss,jf s=true)(e:J c=some (.tup [.str a,.str b]))(f:c≠p)(d:a∈ss)(hb:b∈ss):PeO p ss J (.ref c):=
 ⟨.inl ⟨c,a,b,rfl,by rw[jx f];show e,d,hb⟩,((Ok.tup (k:=0) (n:=6) (m:=1) e f (by show 2<=1000;decide) (qgA (Ok.name (nm _ d)) (Ok.name (nm _ hb)))).mono (by show 14<=100;decide) (by decide)).deep⟩
theorem PeO.lst(nm:∀ s∈ss,jf s=true)(e:J c=some (.lst [.str a,.str b]))(d:c≠p)(f:a∈ss)(hb:b∈ss):PeO p ss J (.ref c):=
 ⟨.inr ⟨c,_,rfl,by rw[jx d];show e⟩,((Ok.lst (k:=0) (n:=6) (m:=1) e d (by show 2<=1000;decide) (qgA (Ok.name (nm _ f)) (Ok.name (nm _ hb)))).mono (by show 14<=100;decide) (by decide)).deep⟩
def AsI(p:Addr)(ss:LS)(J:Hp)(v:Addr):Prop:=∃ xs,qaY p J v=some (.lst xs)/\xs.length<=31/\∀ x∈xs,PeO p ss J x
theorem AsI.but{v:Addr}(h:AsI p ss J v)(b:But p J J'):AsI p ss J' v:=by
 obtain⟨xs,e,l,k⟩:=h;show⟨xs,qcy b _ _ e,l,λx a=>(k x a).but b⟩
theorem AsI.ok{v:Addr}(h:AsI p ss J v):∃ xs,J v=some (.lst xs)/\v≠p/\xs.length<=31/\(∀ x∈xs,PeQ J ss x)/\Ok p J 3 4000 6 (.ref v):=by
 obtain⟨xs,e,l,k⟩:=h;have a:v≠p:=λz=>by unfold qaY at e;rw[yG z] at e;cases e
 rw[jx a] at e;show⟨xs,e,a,l,λx b=>(k x b).1.same (qax p J),(Ok.lst (k:=2) (n:=100) (m:=4) e a (by lk) λy c=>(k y c).2).mono (by lk) (by decide)⟩
def NpO(p:Addr)(ss:LS)(tps:LP)(J:Hp)(v:V):Prop:=Ok p J 3 4000 6 v/\apV J ss tps v=false
theorem NpO.but(h:NpO p ss tps J v)(b:But p J J'):NpO p ss tps J' v:=⟨h.1.but b,(qd7 h.1.1 b).trans h.2⟩
theorem outH_self{f:Addr}:qaY f (upd J f o)=qaY f J:=funext λc=>by
 unfold qaY;split
 .rfl
 .show qg (by assumption)
theorem qdt{q:Addr}(b:But p H H'):But p (qaY q H) (qaY q H'):=λc o hc e=>by
 by_cases h:c=q
 .unfold qaY at e;rw[yG h] at e;cases e
 .rw [jx h] at e ⊢;show b c o hc e
theorem qeX{z:Addr}{Q:VK}(hl:H l=some (.lst xs))(a:H z=some (.lst []))(q:Q (.bl (!xs.isEmpty)) H):qeh K true (.ref l) (.ref z) H Q:=by
 cases xs with
 | nil=>show .inr (.inl ⟨l,z,true,1,rfl,rfl,by decide,EqT.lst (n:=0) (e:=λ_=>true) (SqL.of hl) (SqL.of a) rfl λj x y h=>by(simp at h),q⟩)
 | cons x r=>show .inr (.inl ⟨l,z,false,1,rfl,rfl,by decide,EqT.lstL (SqL.of hl) (SqL.of a) (by simp),q⟩)
theorem But.out{f:Addr}(b:But p H J)(a:H f=none):But p H (qaY f J):=λc o hc e=>by
 rw[jx (λz=>by rw[z,a] at e;cases e)];show b c o hc e
theorem qdu{f:Addr}{x:V}(m:But p H J)(A:Pu H p)(B:Pu J p)(q:H f=none)(z:f≠p)(i:PL H l us qs)(g:PGo ss tps qs)(nm:∀ s∈ss,jf s=true)(e:J c=some (.lst ((us.drop 1).map V.ref++[x])))(n:c≠f)(o:c≠p)(v:PeO p ss (qaY f J) x):AsI p ss (qaY f J) c:=by
 have j:=i.butP A (m.out q);have C:Pu (qaY f J) p:=by obtain⟨a,b,d,e,r⟩:=B;show⟨a,b,d,by rw[jx z.symm];show e,r⟩
 have E:=i.2.len;have D:=g.few;show⟨_,by rw[jx o,jx n];show e,by rw[yu,ya,YA];show _+1<=31;lk,λy w=>?_⟩;rcases yw.mp w with h | h
 .obtain⟨u,t,rfl⟩:=yQ.mp h;show j.pe0 g nm C _ (YO (kn t))
 .rw [yx.mp h];show v
theorem qfX:qb9 (us.map V.ref) (some 1) none=(us.drop 1).map V.ref:=by
 have:=qbU (us.map V.ref) 1;rw[List.map_drop];show this
theorem qeY{f:Addr}{vs:LX}(a:But p H J)(i:Pu J p)(d:H f=none)(g:f≠p)(hv:∀ v∈vs,AsI p ss (qaY f J) v)(hc:AsI p ss (qaY f J) c):But p H (upd J f o)/\Pu (upd J f o) p/\∀ v∈vs++[c],AsI p ss (qaY f (upd J f o)) v:=by
 show⟨λb u n e=>?_,?_,λv h=>?_⟩
 .rw [qg (λz=>by rw[z,d] at e;cases e)];show a b u n e
 .obtain⟨x,y,z,e,r⟩:=i;show⟨x,y,z,by rw[qg g.symm];show e,r⟩
 .rw [outH_self];rcases yw.mp h with h | h
  .show hv v h
  .rw [yx.mp h];show hc
inductive spAm(vs:List V)(H:Hp)(Q:VK)(E:XK):Prop|mk (p n bb l:Addr) (ss:LS) (TI:List (Nat×Nat)) (bs:LN) (us:LX) (qs:LP) (_:vs=[.ref p,.ref n,.ref bb,.ref l]) (_:Pu H p) (_:H n=some (.lst (ss.map V.str))) (_:ss.length<=14) (_:ss.Nodup) (_:(∀ s∈ss,jf s=true)) (_:TJ ss.length TI) (_:H bb=some (.lst (zB bs))) (_:bb≠p) (_:BtJ ss.length TI bs) (_:PL H l us qs) (_:PGo ss (TI.map (nmP ss)) qs) (_:∀(r:Addr) (rs:List V) (H':Hp),But p H H'->Pu H' p->H' r=some (.lst rs)->rs.length<=3->(us=[]->rs=[])->(∀ v∈rs,NpO p ss (TI.map (nmP ss)) H' v)->Q (.ref r) H')
theorem ok_am(F:Fun K "_law_as_many" "_law_as_many" zr f fd)(T:Txt K mg cc cw)(Ks:wqN 1 "_law_take" wh spTkP)(K8:wqN 1 "_law_are_pairs" wV spArQ):wqP 2 f fd wU spAm:=by
 show F.ok uf λ_ _ _ _ H vs Q E hr h=>?_
 .obtain⟨p,n,bb,l,ss,TI,bs,us,qs,rfl,W,hn,br,hN,nm,hj,bf,bj,bg,hP,g,q⟩:=h;have hu:=ze hr;have ul:=hP.2.len;have bq:=g.few;obtain⟨TC2,ac⟩:∃ t':TS,t'=λD σ J=>(∀ u H',Q u H'->D.rt u H')/\∃(f:Addr) (vs:LX) (y5:Option V),σ=[some (.ref p),some (.ref n),some (.ref bb),some (.ref l),some (.ref f),y5]/\But p H J/\Pu J p/\f≠p/\H f=none/\J f=some (.lst (vs.map V.ref))/\vs.length<=1/\(us=[]->vs=[])/\∀ v∈vs,AsI p ss (qaY f J) v:=⟨_,rfl⟩;obtain⟨TC3,ad⟩:∃ t':TS,t'=λD σ J=>(∀ u H',Q u H'->D.rt u H')/\∃(f:Addr) (vs:LX) (y5:Option V),σ=[some (.ref p),some (.ref n),some (.ref bb),some (.ref l),some (.ref f),y5]/\But p H J/\Pu J p/\f≠p/\H f=none/\J f=some (.lst (vs.map V.ref))/\vs.length<=3/\(us=[]->vs=[])/\∀ v∈vs,AsI p ss (qaY f J) v:=⟨_,rfl⟩;show⟨_,(qc (qm (i:=4) uf.nd rfl (yK rfl) (qB qd))
 (qc (qI (qj qej (qr (zg (K:=K) rfl) rfl T.b_len YQ (qa (pv 3) qd)) qf (qy _)) (qe (qE (qaX (K:=K) rfl yI yZ Yb qK (pv 4) (qa (qt (je (K:=K) rfl) (qZ (qc8 (K:=K) rfl) (pv 3) (jk qf) jw) (qB (qa (qo (qp (K:=K) rfl hu) (pv 3) qf (λ_ _=>rfl)) qd))) qd)))) qw)
 (qak TC2 (qc (qI (qj (qae (K:=K) rfl hu) (pv 3) (qB qd) (qy _)) (qc (qm (i:=5) uf.nd rfl (yK rfl) (qo (qp (K:=K) rfl hu) (pv 1) (qx Ks (hmR hr) qF (qa (pv 0) (qa (qr (zg (K:=K) rfl) rfl T.b_len YQ (qa (pv 1) qd)) qd))) (λ_ _=>rfl)))
 (qc (qE (qaX (K:=K) rfl yI yZ Yb qK (pv 4) (qa (qt (je (K:=K) rfl) (qZ (qc8 (K:=K) rfl) (pv 3) (jk qf) jw) (qB (qa (jm (qa (pv 5) (qa (qo (qp (K:=K) rfl hu) (pv 1) (qx Ks (hmR hr) qF (qa (pv 0) (qa (qr (zg (K:=K) rfl) rfl T.b_len YQ (qa (pv 1) qd)) qd))) (λ_ _=>rfl)) qd))) qd))) qd)))
 (qe (qE (qaX (K:=K) rfl yI yZ Yb qK (pv 4) (qa (qt (je (K:=K) rfl) (qZ (qc8 (K:=K) rfl) (pv 3) (jk qf) jw) (qB (qa (qV (zV (K:=K) rfl rfl) rfl T.b_list xz (qa (qo (qp (K:=K) rfl hu) (pv 3) qf (λ_ _=>rfl)) qd)) qd))) qd)))))) qw)
 (qak TC3 (qe (qq (jG (sc:=qh zr) (XN:=wY) wqw 1 [1,2] rfl rfl rfl (by room) rfl (by room)
  (jh (K:=K) rfl (pv 4)) (λ_ _ _ _=>(qu (i:=0) (show(wqw:LS).Nodup by room) rfl (yK rfl))) jF
  (λ_ _ _ _=>(zf (qU (qT (qx K8 (hmR hr) qF (qa (pv 1) (qa (pv 2) (qa (pv 0) qd))))))))
  (λ_ _ _ _=>(pv 0))))) ?cut3)) ?cut2))),?_⟩
  case cut3 =>
   intro D σ J h;rw[ad] at h;obtain⟨hD,f,vs,y5,rfl,bJ,pJ,L,f0,eJ,vl,v0,S⟩:=h;apply .inl ⟨⟨_,.of eJ⟩,jg (xs:=vs.map V.ref) (λi ys G=>L2.Same J G/\ys.length<=i/\∀ v∈ys,NpO p ss (TI.map (nmP ss)) J v) ⟨L2.Same.refl J,yh _,λv h=>by cases h⟩ (λi ys G _ hp=>.of (hp.1 _ _ eJ)) (λi y ys G hy hp=>?_) λys G hp=>?_⟩
   .obtain⟨sG,yl,ak⟩:=hp;rw[yd] at hy;obtain⟨v,hv,rfl⟩:=yo.mp hy;have bp:=(yc.mp hv).1;obtain⟨xs,ev,nv,xl,ao,aj⟩:=(S v (ye hv)).ok;have sO:=qax f J;replace ev:=sO _ _ ev;replace aj:=aj.same sO;replace ao:∀ x∈xs,PeQ J ss x:=λx hx=>(ao x hx).same sO;apply⟨n,bb,v,ss,TI,bs,xs,rfl,sG _ _ (bJ _ _ (W.neS hn) hn),hN,nm,hj,sG _ _ (bJ _ _ bj bf),bg,sG _ _ ev,xl,λx hx=>(ao x hx).same sG,λG2 s2=>?_⟩;have bc:apV J ss (TI.map (nmP ss)) (.ref v)=apL G ss (TI.map (nmP ss)) [] xs:=by rw[<- qcw aj.1 sG,qaG (sG _ _ ev)]
    rw[<- bc];show⟨_,rfl,?_⟩
    cases k:apV J ss (TI.map (nmP ss)) (.ref v) with
    | true=>show⟨sG.trans s2,by lk,ak⟩
    | false =>
     show zd ?_;apply⟨qQ (by lk),sG.trans s2,by rw[yu];show _+1<=_;lk,λy hy=>?_⟩;rcases yw.mp hy with h | h
     .show ak y h
     .rw [yx.mp h];show⟨aj,k⟩
   .obtain⟨sG,yl,ak⟩:=hp;rw[ya] at yl;show⟨yS (qQ (by lk)),λr bh=>?_⟩;have s3:=qz sG (o:=.lst ys) bh;have bk:But p J (upd G r (.lst ys)):=λc o _ e=>s3 c o e;show hD _ _ (q r ys _ (bJ.trans7 bk) (pJ.same s3) qb (by lk) (λz=>List.eq_nil_of_length_eq_zero (by rw[v0 z,Yk] at yl;lk)) λv hv=>(ak v hv).but bk)
  case cut2 =>
   intro D σ J h;rw[ac] at h;obtain⟨hD,f,vs,y5,rfl,bJ,pJ,L,f0,eJ,vl,v0,S⟩:=h;have aa:=hP.butP W bJ;apply⟨wqQ,λz hz=>?_⟩;have s1:=qz (Sr J) (o:=.lst []) hz;have ez:upd J z (.lst []) z=some (.lst []):=qb;have N:=s1 _ _ eJ;generalize upd J z (.lst [])=J1 at s1 ez N;have k1:But p J J1:=λc o _ e=>s1 c o e;replace S:∀ v∈vs,AsI p ss (qaY f J1) v:=λv hv=>(S v hv).but (qdt k1);replace bJ:=bJ.trans7 k1;replace pJ:=pJ.same s1;replace aa:=aa.same s1;clear eJ;show qeX aa.1 ez ?_
   cases us with
   | nil =>
    show⟨_,rfl,qL (λh=>by cases h) λ_=>?_⟩;rw[ad];show⟨hD,f,vs,_,rfl,bJ,pJ,L,f0,N,by lk,v0,S⟩
   | cons A us =>
    show⟨_,rfl,zd ?_⟩;obtain⟨X,aw⟩:∃ X,qs[0]?=some X:=⟨_,yb (by rw[<- ul];show Nat.succ_pos _)⟩;obtain⟨_,m1,m2,_⟩:=g.inn X (ye aw);have sp:0<ss.length:=YF m1;have nn:=W.neS hn;have ai:=bJ _ _ nn hn;apply qac ai ?_;rw[ya];apply⟨p,ss.length,rfl,pJ,sp,by lk,λd1 J2 ar b2 p2=>?_⟩;show qbe (b2 _ _ nn ai) ar ?_;have au:=qb0 ar;generalize tn ss d1=one at au;apply⟨.inl ⟨rfl,_,.of (b2 _ _ L N)⟩,?_⟩;have P2:=aa.butP pJ b2;apply .inl ⟨l,_,rfl,.of P2.1,λO R=>?_⟩;rw[qfX];have n1:=p2.apart R;have b3:But p J1 (upd J2 O (.lst (((A::us).drop 1).map V.ref))):=b2.new7 R;have p3:=p2.same (qz (Sr J2) (o:=.lst (((A::us).drop 1).map V.ref)) R);have s:upd J2 O (.lst (((A::us).drop 1).map V.ref)) O=some (.lst (((A::us).drop 1).map V.ref)):=qb;generalize upd J2 O (.lst (((A::us).drop 1).map V.ref))=J3 at b3 p3 s;apply qac (b3 _ _ nn ai) ?_;rw[ya];apply⟨p,ss.length,rfl,p3,sp,by lk,λd2 J4 as b4 p4=>?_⟩;show qbe (b4 _ _ nn (b3 _ _ nn ai)) as ?_;have av:=qb0 as;generalize tn ss d2=ah at av;have k4:=b3.trans7 b4;apply⟨wqS,λt1 ag=>?_⟩;have bn:=p4.apart ag;have be:t1≠f:=λz=>by rw[z,k4 _ _ L N] at ag;cases ag
    have k5:=k4.new7 (o:=.tup [.str one,.str ah]) ag;have s5:=qz (Sr J4) (o:=.tup [.str one,.str ah]) ag;have Z:upd J4 t1 (.tup [.str one,.str ah]) t1=some (.tup [.str one,.str ah]):=qb;generalize upd J4 t1 (.tup [.str one,.str ah])=J5 at k5 s5 Z;apply⟨wqR,λU ae=>?_⟩;have s6:=qz (Sr J5) (o:=.lst [.ref t1]) ae;have B:upd J5 U (.lst [.ref t1]) U=some (.lst [.ref t1]):=qb;generalize upd J5 U (.lst [.ref t1])=J6 at s6 B;have am:=s6 _ _ (s5 _ _ (b4 _ _ n1 s));apply .inl ⟨O,U,_,_,rfl,rfl,am,B,by rw[ya,YA];show yS (qv (by simp only[yB,Yk] at ul ⊢;lk)),λt m=>?_⟩;have s7:=qz s6 (o:=.lst (((A::us).drop 1).map V.ref++[.ref t1])) m;have C:upd J6 t (.lst (((A::us).drop 1).map V.ref++[.ref t1])) t=some (.lst (((A::us).drop 1).map V.ref++[.ref t1])):=qb;have k7:But p J1 (upd J6 t (.lst (((A::us).drop 1).map V.ref++[.ref t1]))):=λc o z e=>s7 c o (k5 c o z e);have f3:t≠f:=λz=>by rw[z,s6 _ _ (k5 _ _ L N)] at m;cases m
    have bo:t≠p:=((p4.same s5).same s6).apart m;have p7:=(p4.same s5).same s7;replace Z:=s7 _ _ Z;generalize upd J6 t (.lst (((A::us).drop 1).map V.ref++[.ref t1]))=J7 at k7 C p7 Z;clear s5 s6 s7 B am s k5;have b7:=bJ.trans7 k7;apply⟨f,_,_,rfl,rfl,k7 _ _ L N,by rw[ya];show qv (by lk),?_⟩;obtain⟨z1,z2,z3⟩:=qeY (o:=.lst (vs.map V.ref++[.ref t])) b7 p7 f0 L (λv hv=>(S v hv).but (qdt k7)) (qdu b7 W p7 f0 L hP g nm C f3 bo (PeO.tup nm (by rw[jx be];show Z) bn au av));have Y:upd J7 f (.lst (vs.map V.ref++[.ref t])) f=some (.lst ((vs++[t]).map V.ref)):=by rw[qb,yC];rfl
    generalize upd J7 f (.lst (vs.map V.ref++[.ref t]))=J8 at z1 z2 z3 Y;have bi:(vs++[t]).length<=2:=by rw[yu];show _+1<=2;lk
    generalize vs++[t]=ws at z3 Y bi;clear k7 b7 C p7 Z k4 b4 b3 b2 p2 P2 p3 p4 S N aa;have P8:=hP.butP W z1;apply⟨.inl ⟨rfl,_,.of Y⟩,?_⟩;apply .inl ⟨l,_,rfl,.of P8.1,λO R=>?_⟩;rw[qfX];have s9:=qz (Sr J8) (o:=.lst (((A::us).drop 1).map V.ref)) R;have s:upd J8 O (.lst (((A::us).drop 1).map V.ref)) O=some (.lst (((A::us).drop 1).map V.ref)):=qb;generalize upd J8 O (.lst (((A::us).drop 1).map V.ref))=J9 at s9 s;have P9:=P8.same s9;have e0:=P9.2.at_ 0 A X rfl aw;apply .inl (j9 P9.1 (v:=.ref A) (qk (j:=0) rfl) ?_);apply .inl ⟨A,_,rfl,.inr (.of e0),λlu af=>?_⟩;have bm:=(z2.same s9).apart af;have bd:lu≠f:=λz=>by rw[z,s9 _ _ Y] at af;cases af
    have ba:=qz s9 (o:=.lst [.str X.1,.str X.2]) af;have I:upd J9 lu (.lst [.str X.1,.str X.2]) lu=some (.lst [.str X.1,.str X.2]):=qb;replace s:=qz (Sr J9) (o:=.lst [.str X.1,.str X.2]) af _ _ s;generalize upd J9 lu (.lst [.str X.1,.str X.2])=J10 at ba I s;apply⟨wqR,λU ae=>?_⟩;have M:=qz (Sr J10) (o:=.lst [.ref lu]) ae;have B:upd J10 U (.lst [.ref lu]) U=some (.lst [.ref lu]):=qb;replace s:=M _ _ s;replace I:=M _ _ I;replace M:=ba.trans M;generalize upd J10 U (.lst [.ref lu])=J11 at M B s I;apply .inl ⟨O,U,_,_,rfl,rfl,s,B,by rw[ya,YA];show yS (qv (by simp only[yB,Yk] at ul ⊢;lk)),λt m=>?_⟩;have f3:t≠f:=λz=>by rw[z,M _ _ Y] at m;cases m
    have p3:=(z2.same M).apart m;have al:=qz M (o:=.lst (((A::us).drop 1).map V.ref++[.ref lu])) m;have C:upd J11 t (.lst (((A::us).drop 1).map V.ref++[.ref lu])) t=some (.lst (((A::us).drop 1).map V.ref++[.ref lu])):=qb;replace I:=qz (Sr J11) (o:=.lst (((A::us).drop 1).map V.ref++[.ref lu])) m _ _ I;generalize upd J11 t (.lst (((A::us).drop 1).map V.ref++[.ref lu]))=J12 at al C I;have ay:But p J8 J12:=λc o _ e=>al c o e;have az:=z2.same al;have aq:=z1.trans7 ay;apply⟨f,_,_,rfl,rfl,al _ _ Y,by rw[ya];show qv (by lk),?_⟩;obtain⟨y1,y2,y3⟩:=qeY (o:=.lst (ws.map V.ref++[.ref t])) aq az f0 L (λv hv=>(z3 v hv).but (qdt ay)) (qdu aq W az f0 L hP g nm C f3 p3 (PeO.lst nm (by rw[jx bd];show I) bm m1 m2));rw[ad];show⟨hD,f,ws++[t],_,rfl,y1,y2,L,f0,by rw[qb,yC];rfl,by rw[yu];show _+1<=3;lk,(λz=>by cases z),y3⟩
  apply⟨wqQ,λf hf=>?_⟩;have s1:=qz (Sr H) (o:=.lst []) hf;have e1:upd H f (.lst []) f=some (.lst (([]:LX).map V.ref)):=qb;have L:f≠p:=W.apart hf;generalize upd H f (.lst [])=H1 at s1 e1;have P1:=hP.same s1;apply qac P1.1 ?_;apply qL (λh=>?_) λh=>?_
  .have an:=yk h;rw[ya] at an;apply⟨.inl ⟨rfl,_,.of e1⟩,?_⟩;apply .inl ⟨l,_,rfl,.of P1.1,λO R=>?_⟩;rw[qfX];have s2:=qz (Sr H1) (o:=.lst ((us.drop 1).map V.ref)) R;have s:upd H1 O (.lst ((us.drop 1).map V.ref)) O=some (.lst ((us.drop 1).map V.ref)):=qb;generalize upd H1 O (.lst ((us.drop 1).map V.ref))=H2 at s2 s;have P2:=P1.same s2;obtain⟨u1,ax⟩:∃ u1,us[1]?=some u1:=⟨_,yb (by lk)⟩;apply .inl (j9 P2.1 (v:=.ref u1) (qk (j:=1) (by rw[yd,ax];rfl)) ?_);apply⟨wqR,λU ae=>?_⟩;have s3:=qz (Sr H2) (o:=.lst [.ref u1]) ae;have B:upd H2 U (.lst [.ref u1]) U=some (.lst [.ref u1]):=qb;generalize upd H2 U (.lst [.ref u1])=H3 at s3 B;apply .inl ⟨O,U,_,_,rfl,rfl,s3 _ _ s,B,by rw[ya,YA];show yS (qv (by simp only[yB,Yk];lk)),λt m=>?_⟩;have s4:=qz ((s1.trans s2).trans s3) (o:=.lst ((us.drop 1).map V.ref++[.ref u1])) m;have C:upd H3 t (.lst ((us.drop 1).map V.ref++[.ref u1])) t=some (.lst ((us.drop 1).map V.ref++[.ref u1])):=qb;have f3:t≠f:=λz=>by rw[z,(s2.trans s3) _ _ e1] at m;cases m
   have p3:t≠p:=(W.same ((s1.trans s2).trans s3)).apart m;have ef:upd H3 t (.lst ((us.drop 1).map V.ref++[.ref u1])) f=some (.lst (([]:LX).map V.ref)):=qz (s2.trans s3) m _ _ e1;generalize upd H3 t (.lst ((us.drop 1).map V.ref++[.ref u1]))=H4 at s4 C ef;have b4:But p H H4:=λc o _ e=>s4 c o e;have pO:Pu (qaY f H4) p:=by obtain⟨a,b,d,e,r⟩:=W.same s4;show⟨a,b,d,by rw[jx L.symm];show e,r⟩
   apply⟨f,_,_,rfl,rfl,ef,by decide,?_⟩;rw[ac];obtain⟨z1,z2,z3⟩:=qeY (vs:=[]) (o:=.lst (([]:LX).map V.ref++[.ref t])) b4 (W.same s4) hf L (λv h=>by cases h) (qdu b4 W (W.same s4) hf L hP g nm C f3 p3 ((hP.butP W (b4.out hf)).pe0 g nm pO _ (YO (ye ax))));show⟨λu H' z=>z,f,[t],_,rfl,z1,z2,L,hf,qb,yh 1,(λz=>by rw[z] at an;simp at an),z3⟩
  .rw [ac];show⟨λu H' z=>z,f,[],_,rfl,λc o _ e=>s1 c o e,W.same s1,L,hf,e1,by decide,λ_=>rfl,λv h=>by cases h⟩
theorem KN:FnScope ["_law_web","_law_pairs","_law_place","_law_found","e"] wqk (qh qbE):=fS
def tgQ(k:Nat):Str:=if k=0 then "pairs" else "place"
def saT(k:Nat)(d:PyData):Str:=(PyData.list [.str (tgQ k),d,.bool false]).shown
theorem saS{d:PyData}(h:Shw d 4000 6)(k:Nat):Shw (.list [.str (tgQ k),d,.bool false]) (2 ^ 20) 60:=by
 have a:Shw (.str (tgQ k)) 5 6:=by
  by_cases e:k=0
  .unfold tgQ;rw[yG e];show(Shw.str (by room)).mono (by room) (yh _)
  .unfold tgQ;rw[yF e];show(Shw.str (by room)).mono (by room) (yh _)
 show((ShwS.cons a (ShwS.cons h (ShwS.cons Shw.bl ShwS.nil))).list).mono (by decide) (by decide)
inductive spSd(cc:Nat->Addr)(cw:Addr)(vs:List V)(H:Hp)(Q:VK)(E:XK):Prop|mk (p x:Addr) (ss:LS) (ns:LN) (tps:LP) (v u:V) (r:Nat×V) (d:PyData) (_:vs=[.ref x,v,u]) (_:Wt cw H x ss ns tps) (_:RoB cc p cw x H ss ns tps v u r) (_:Dat H r.2 d) (_:Shw d 4000 6) (_:∀ H',L2.Same H H'->Q (.str (saT r.1 d)) H')
theorem ok_sd(F:Fun K "_law_said" "_law_said" qbE f fd)(T:Txt K mg cc cw)(M:W.mroIn K (cc 0) (.ref (cc 0))=some true)(N:W.mroIn K (cc 1) (.ref (cc 1))=some true)(L:W.mroIn K (cc 1) (.ref (cc 0))=some false)(uB:DefOk P w K mg base (CX1 P w) 12 "row_out" wqj (spROB cc cw)):wqP 13 f fd wqk (spSd cc cw):=by
 show F.ok KN λ_ _ _ _ H vs Q E G h=>?_
 .obtain⟨p,x,ss,ns,tps,v,u,⟨k,z⟩,d,rfl,Wx,S,hd,I,q⟩:=h;have hu:=ze G
  have J:k=0\/k=1:=by
   rcases S with⟨_,e⟩ | ⟨_,_,_,_,_,_,_,e⟩ | ⟨_,_,_,_,_,_,_,_,_,_,e⟩<;>cases e<;>simp
  show⟨_,(qc (qm (i:=3) KN.nd rfl (yK rfl) j6)
 (qc (ps_try rfl rfl rfl qw)
 (qe (qq (qr (qco (K:=K) rfl hu G.gd T.smod) rfl T.b_repr boot_repr (qa (pv 3) qd)))))),?_⟩
  apply⟨fun σ c B H'=>∃ b,c=.ref (cc k)/\B=some b/\L2.Same H H'/\H' b=some (.xd [(qe1 k,z)])/\σ=[some (.ref x),some v,some u,some .non,none],_,λpn xe qaN=>(qe (qE (qeC uB (hmR G) qaN (qa (pv 0) (qa (pv 1) (qa (pv 2) qd)))))),?_,λa C aa ac H' hE g=>?_⟩
  .ext;show⟨p,x,ss,ns,tps,v,u,(k,z),rfl,Wx,S,λb H' s' n=>⟨b,rfl,rfl,s',n,rfl⟩⟩
  .obtain⟨b,D,rfl,U,n,rfl⟩:=hE;cases D;show⟨_,(qgj (K:=K) rfl KN.nd (i:=4) rfl rfl rfl T.m_NoPairs (qe (qm (i:=3) KN.nd rfl (yK rfl) (qB (qa jJ (qa (qA (K:=K) rfl (pv 4) rfl) (qa (qr (qdg (K:=K) rfl) rfl T.b_isinstance YD (qa (pv 4) (qa (jm (qa (qci (v:=.ref (cc 2)) rfl T.m_NoBar rfl) (qa (qci (v:=.ref (cc 1)) rfl T.m_NoPlace rfl) qd))) qd))) qd)))))) (qgj (K:=K) rfl KN.nd (i:=4) rfl rfl rfl T.m_NoPlace (qe (qm (i:=3) KN.nd rfl (yK rfl) (qB (qa jJ (qa (qA (K:=K) rfl (pv 4) rfl) (qa (qr (qad (K:=K) rfl) rfl T.b_isinstance YD (qa (pv 4) (qa (qci (v:=.ref (cc 2)) rfl T.m_NoBar rfl) qd))) qd)))))) (ph_no (K:=K) rfl rfl T.m_OnceError (qe (qm (i:=3) KN.nd rfl (yK rfl) (qB (qa jJ qd)))) ph_nil))),?_⟩
   have r:∀(l:Addr) (m:Hp),L2.Same H m->m l=some (.lst [.str (tgQ k),z,.bl false])->∃ Z d',[V.ref l]=[Z]/\Dat m Z d'/\Shw d' (2 ^ 20) 60/\Q (.str d'.shown) m:=λl m Y e3 =>
    ⟨_,.list [.str (tgQ k),d,.bool false],rfl,.lst e3 (.cons (.str _) (.cons (hd.same Y) (.cons (.bl _) .nil))),saS I k,q m Y⟩
   rcases J with rfl | rfl
   .show⟨true,M,T.xat 0 (by decide),T.xat 0 (by decide),zd ?_⟩;apply .inr ⟨a,cc 0,b,_,z,rfl,.inr g,T.xat 0 (by decide),T.na 0 (by decide),n,rfl,?_⟩;apply⟨wqS,λA t=>?_⟩;have X:=qz U (o:=.tup [.ref (cc 2),.ref (cc 1)]) t;have j:=qz (Sr H') (o:=.tup [.ref (cc 2),.ref (cc 1)]) t;have R:upd H' A (.tup [.ref (cc 2),.ref (cc 1)]) A=some (.tup [.ref (cc 2),.ref (cc 1)]):=qb;have s:=j _ _ g;have y:=j _ _ n;generalize upd H' A (.tup [.ref (cc 2),.ref (cc 1)])=H2 at X j R s y;have O:TyX K H2 (.ref a) (.ref (cc 0)):=.inr ⟨a,cc 0,some b,rfl,rfl,.inr s,T.xat 0 (by decide),λd z=>by cases z;show⟨_,y⟩⟩;apply⟨_,A,_,.ref (cc 0),[.ref (cc 2),.ref (cc 1)],false,rfl,O,R,rfl,?_,?_⟩
    .have k1:=T.kit 0 1 (by decide) (by decide);have k2:=T.kit 0 2 (by decide) (by decide);simp only[W.kitAny,k1,k2];rfl
    apply⟨wqT,λl hl=>?_⟩;apply r l _ (qz X hl) qb
   .show⟨false,L,T.xat 0 (by decide),T.xat 1 (by decide),qL (λh=>by cases h) λ_=>?_⟩;show⟨true,N,T.xat 1 (by decide),T.xat 1 (by decide),zd ?_⟩;apply .inr ⟨a,cc 1,b,_,z,rfl,.inr g,T.xat 1 (by decide),T.na 1 (by decide),n,rfl,?_⟩;have O:TyX K H' (.ref a) (.ref (cc 1)):=.inr ⟨a,cc 1,some b,rfl,rfl,.inr g,T.xat 1 (by decide),λd z=>by cases z;show⟨_,n⟩⟩;apply qa7 O rfl (T.kit 1 2 (by decide) (by decide)) ?_;apply⟨wqT,λl hl=>?_⟩;apply r l _ (qz U hl) qb
theorem KJ:FnScope wN wQ (qh zt):=fS
def BdU(p:Addr)(ss:LS)(J:Hp)(u:V):Prop:=Ok p J 3 4000 6 u/\j7 ss u=false
theorem BdU.but{u:V}(h:BdU p ss J u)(b:But p J J'):BdU p ss J' u:=⟨h.1.but b,h.2⟩
theorem Ok.fl0(h:Ok p J 0 100 2 v):Ok p J 3 4000 6 v:=((h.deep).deep.deep).mono (by decide) (by decide)
theorem j8{u:V}(h:qc3 u=false):j7 ss u=false:=yF (by rw[h];decide)
structure RfW(p cw x n bb l:Addr)(ss:LS)(ns bs:LN)(TI:List (Nat×Nat))(us:LX)(qs:LP)(H:Hp):Prop where
 pu:Pu H p
 wb:WebP (λa=>a=p) cw H x ss ns
 wt:Wt cw H x ss ns (TI.map (nmP ss))
 nn:H n=some (.lst (ss.map V.str))
 tj:TJ ss.length TI
 bm:H bb=some (.lst (zB bs))
 bp:bb≠p
 bt:BtJ ss.length TI bs
 pl:PL H l us qs
 g:PGo ss (TI.map (nmP ss)) qs
section
variable{p cw x n bb l:Addr}{ss:LS}{ns bs:LN}{TI:List (Nat×Nat)}{us:LX}{qs:LP}{H H':Hp}
theorem RfW.but(h:RfW p cw x n bb l ss ns bs TI us qs H)(b:But p H H')(a:Pu H' p):RfW p cw x n bb l ss ns bs TI us qs H':=
 ⟨a,h.wb.keep b,⟨(h.wb.keep b).web,h.wt.adj,h.wt.ok⟩,b _ _ (h.pu.neS h.nn) h.nn,h.tj,b _ _ h.bp h.bm,h.bp,h.bt,h.pl.butP h.pu b,h.g⟩
theorem RfW.same(h:RfW p cw x n bb l ss ns bs TI us qs H)(s:L2.Same H H'):RfW p cw x n bb l ss ns bs TI us qs H':=h.but (λc o _ e=>s c o e) (h.pu.same s)
theorem RfW.nm(h:RfW p cw x n bb l ss ns bs TI us qs H):∀ s∈ss,jf s=true:=h.wt.wok.nm
theorem RfW.names(h:RfW p cw x n bb l ss ns bs TI us qs H):Ok p H 1 98 2 (.ref n):=by
 have c:=h.wt.wok.few;show(Ok.lst (k:=0) (n:=6) (m:=1) h.nn (h.pu.neS h.nn) (by rw[ya];lk) λy b=>?_).mono (by rw[ya];lk) (by decide);obtain⟨s,a,rfl⟩:=yQ.mp b;show Ok.name (h.nm s a)
end
theorem qhc{x:Str}{Q:VK}(q:Q (.bl false) H):qeh K true (.str x) (.str x) H Q:=.inl ⟨rfl,rfl,by
 have:(if true=true then !eqV (V.str x) (V.str x) else eqV (V.str x) (V.str x))=false:=by simp[eqV]
 rw[this];show q⟩
theorem all_cons{P a:V->Prop}(h:a v)(X:∀ y∈ys,P y)(k:∀ y,P y->a y):∀ y∈v::ys,a y:=λy hy=>by
 rcases yv.mp hy with rfl | hy
 .show h
 .show k y (X y hy)
def SmI(p:Addr)(ss:LS)(tps:LP)(J:Hp)(v:V):Prop:=Ok p J 3 4000 6 v/\(apV J ss tps v=false\/∃ l us qs,v=.ref l/\PL J l us qs/\PGo ss tps qs/\¬ Gst ss tps qs)
theorem SmI.same(h:SmI p ss tps J v)(s:L2.Same J J'):SmI p ss tps J' v:=
 ⟨h.1.same s,h.2.imp (λe=>(qcw h.1.1 s).trans e) λ⟨l,us,qs,e,P,r⟩=>⟨l,us,qs,e,P.same s,r⟩⟩
theorem Ok.run{a:Addr}(e:J a=some (.lst xs))(b:a≠p)(l:xs.length<=31)(h:∀ y∈xs,Ok p J 2 100 4 y):Ok p J 3 4000 6 (.ref a):=(Ok.lst (k:=2) (n:=100) (m:=4) e b (by lk) h).mono (by lk) (by decide)
theorem PL.ok2(h:PL J l us qs)(g:PGo ss tps qs)(nm:∀ s∈ss,jf s=true)(b:Pu J p):∀ x∈us.map V.ref,Ok p J 2 100 4 x:=λx a=>(h.pe0 g nm b x a).2
inductive spRf(cw:Addr)(vs:List V)(H:Hp)(Q:VK)(E:XK):Prop|mk (p x n bb l:Addr) (ss:LS) (ns bs:LN) (TI:List (Nat×Nat)) (us:LX) (qs:LP) (_:vs=[.ref p,.ref x,.ref n,.ref bb,.ref l]) (_:RfW p cw x n bb l ss ns bs TI us qs H) (_:Gst ss (TI.map (nmP ss)) qs) (_:∀ H',But p H H'->Pu H' p->Q (.bl true) H')
theorem ok_rf(F:Fun K "_law_refused" "_law_refused" zt f fd)(T:Txt K mg cc cw)(Ks:wqN 1 "_law_take" wh spTkP)(uG:wqN 13 "_law_said" wqk (spSd cc cw))(uX:wqN 2 "_law_as_many" wU spAm):wqP 14 f fd wQ (spRf cw):=by
 show F.ok KJ λ_ _ _ _ H vs Q E hr h=>?_
 .obtain⟨p,x,n,bb,l,ss,ns,bs,TI,us,qs,rfl,R,G,q⟩:=h;have hu:=ze hr;obtain⟨TC4,aa⟩:∃ t':TS,t'=λD σ J=>(∀ u H',Q u H'->D.rt u H')/\∃(b:V) (y6 y7 y8 y9:Option V),σ=[some (.ref p),some (.ref x),some (.ref n),some (.ref bb),some (.ref l),some b,y6,y7,y8,y9]/\But p H J/\RfW p cw x n bb l ss ns bs TI us qs J/\BdU p ss J b:=⟨_,rfl⟩;obtain⟨TC1,am⟩:∃ t':TS,t'=TC4:=⟨_,rfl⟩;obtain⟨TC2,an⟩:∃ t':TS,t'=λD σ J=>(∀ u H',Q u H'->D.rt u H')/\∃(b:V) (no:Addr) (xs:List V) (y7 y8 y9:Option V),σ=[some (.ref p),some (.ref x),some (.ref n),some (.ref bb),some (.ref l),some b,some (.ref no),y7,y8,y9]/\But p H J/\RfW p cw x n bb l ss ns bs TI us qs J/\BdU p ss J b/\J no=some (.lst xs)/\no≠p/\xs.length=8/\∀ y∈xs,NpO p ss (TI.map (nmP ss)) J y:=⟨_,rfl⟩;show⟨_,(qc (qm (i:=5) KJ.nd rfl (yK rfl) (qo (qp (K:=K) rfl hu) (qB (qa j6 (qa qf (qa jd (qa jJ (qa jJ (qa (qB (qa (pv 2) qd)) (qa (jm qd) (qa jr qd))))))))) (qx Ks (hmR hr) qF (qa (pv 0) (qa qf qd))) (λ_ _=>rfl)))
 (qak TC1 (qc (qm (i:=6) KJ.nd rfl (yK rfl) (qB (qa j6 (qa jJ (qa (qV (k_tupleU (K:=K) rfl) rfl T.b_tuple kJ (qa (pv 4) qd)) (qa (qt (je (K:=K) rfl) (pv 4) (qB (qa (jm (qa jJ qd)) qd))) (qa (qt (je (K:=K) rfl) (jG (sc:=qh zt) (XN:=wN) ["_law_pair"] 1 [] rfl rfl rfl (by room) rfl (by room)
  (jh (K:=K) rfl (pv 4)) (λ_ _ _ _=>(qu (i:=0) (show(["_law_pair"]:LS).Nodup by room) rfl (yK rfl))) jF
  (λ_ _ _ _=>jP)
  (λ_ _ _ _=>(qV (zV (K:=K) rfl rfl) rfl T.b_list xz (qa (pv 0) qd)))) (qB (qa (qB qd) qd))) (qa jr (qa (qB (qa j6 qd)) (qa qf qd))))))))))
 (qak TC2 (qc (qm (i:=7) KJ.nd rfl (yK rfl) (qo (qp (K:=K) rfl hu) (pv 6) (qx Ks (hmR hr) qF (qa (pv 0) (qa qf qd))) (λ_ _=>rfl)))
 (qc (qI (qj (qae (K:=K) rfl hu) (qx uG (hmR hr) qF (qa (pv 1) (qa (pv 7) (qa (pv 5) qd)))) (qr (qco (K:=K) rfl hu hr.gd T.smod) rfl T.b_repr boot_repr (qa (qB (qa jJ (qa (pv 7) (qa jd qd)))) qd)) (qy _)) (qe (qq jd)) qw)
 (qak TC4 (qc (qX yT rfl (jh (K:=K) rfl (qt (je (K:=K) rfl) (qx uX (hmR hr) qF (qa (pv 0) (qa (pv 2) (qa (pv 3) (qa (pv 4) qd))))) (qt qdE (qB (qa (qZ (qc8 (K:=K) rfl) (pv 4) (jk qf) jw) qd)) (qV qbK rfl T.b_int boot_int (qa (za (qae (K:=K) rfl hu) (pv 4) (qB qd) (qy _)) qd))))) (qu (i:=8) KJ.nd rfl (yK rfl))
 (qe (qX yT rfl (jh (K:=K) rfl (qB (qa (pv 5) (qa (qo (qp (K:=K) rfl hu) (pv 2) qf (λ_ _=>rfl)) qd)))) (qu (i:=9) KJ.nd rfl (yK rfl))
 (qe (qI (qj (qae (K:=K) rfl hu) (qx uG (hmR hr) qF (qa (pv 1) (qa (pv 8) (qa (pv 9) qd)))) (qr (qco (K:=K) rfl hu hr.gd T.smod) rfl T.b_repr boot_repr (qa (qB (qa jJ (qa (pv 8) (qa jd qd)))) qd)) (qy _)) (qe (qq jd)) qw)))))
 (qe (qq (za (zn (K:=K) rfl hu) (qx uG (hmR hr) qF (qa (pv 1) (qa (pv 4) (qa (pv 5) qd)))) (qr (qco (K:=K) rfl hu hr.gd T.smod) rfl T.b_repr boot_repr (qa (qB (qa jJ (qa (pv 5) (qa jd qd)))) qd)) (qy _))))) ?cut4))) ?cut2)) ?qfX)),?_⟩
  case cut4 =>
   intro D σ J h;rw[aa] at h;obtain⟨hD,b,y6,y7,y8,y9,rfl,bJ,A,hb⟩:=h;have bv:=A.g.few;have ul:=A.pl.2.len;apply⟨p,n,bb,l,ss,TI,bs,us,qs,rfl,A.pu,A.nn,A.wt.wok.few,A.wt.wok.nd,A.nm,A.tj,A.bm,A.bp,A.bt,A.pl,A.g,λr rs J2 b2 p2 er rl r0 bc=>?_⟩;have R2:=A.but b2 p2;apply .inl ⟨l,_,rfl,.of R2.pl.1,λs h1=>?_⟩;rw[qfX];have n1:=R2.pu.apart h1;have s1:=qz (Sr J2) (o:=.lst ((us.drop 1).map V.ref)) h1;have Z:upd J2 s (.lst ((us.drop 1).map V.ref)) s=some (.lst ((us.drop 1).map V.ref)):=qb;generalize upd J2 s (.lst ((us.drop 1).map V.ref))=J3 at s1 Z;apply⟨wqR,λS h2=>?_⟩;have s2:=qz (Sr J3) (o:=.lst [.ref s]) h2;have C:upd J3 S (.lst [.ref s]) S=some (.lst [.ref s]):=qb;generalize upd J3 S (.lst [.ref s])=J4 at s2 C;apply⟨wqQ,λz hz=>?_⟩;have O:=qz (Sr J4) (o:=.lst []) hz;have ez:upd J4 z (.lst []) z=some (.lst []):=qb;generalize upd J4 z (.lst [])=J5 at O ez;have al:=(s1.trans s2).trans O;show qeX (R2.same al).pl.1 ez ?_;apply .inr ⟨_,rfl,?_⟩
   obtain⟨k,ek,k1,k0⟩:∃ k:Nat,(if (!(us.map V.ref).isEmpty)=true then(1:Int) else 0)=(k:Int)/\k<=1/\(us=[]->k=0):=by
    cases us with
    | nil=>show⟨0,rfl,by decide,λ_=>rfl⟩
    | cons u r=>show⟨1,rfl,yh 1,λh=>by cases h⟩
   rw[ek];have R5:=R2.same al;show⟨S,_,_,rfl,rfl,O _ _ C,by lk,by lk,(by rw[yV];show yS (qv (by simp only[yB,Yk];lk))),λa3 h3=>?_⟩;rw[yV];obtain⟨U,ai⟩:∃ U,U=(List.replicate k [V.ref s]).flatten:=⟨_,rfl⟩
   have bf:∀ y∈U,us≠[]/\y=.ref s:=λy I=>by
    rw[ai,List.mem_flatten] at I;obtain⟨m,h1,h2⟩:=I;obtain⟨h3,rfl⟩:=List.mem_replicate.mp h1;show⟨λe=>h3 (k0 e),yx.mp h2⟩
   have zl:U.length<=1:=by rw[ai,qes];show k*1<=1;lk
   rw[<- ai];have L:=qz al (o:=.lst U) h3;have e3:upd J5 a3 (.lst U) a3=some (.lst U):=qb;replace Z:=qz (s2.trans O) (o:=.lst U) h3 _ _ Z;generalize upd J5 a3 (.lst U)=J6 at L e3 Z;show .inl ⟨r,a3,_,_,rfl,rfl,L _ _ er,e3,yS (qv (by lk)),λa4 h4=>?_⟩;have s5:=qz L (o:=.lst (rs++U)) h4;have e4:upd J6 a4 (.lst (rs++U)) a4=some (.lst (rs++U)):=qb;have af:=qz (Sr J6) (o:=.lst (rs++U)) h4 _ _ Z;generalize upd J6 a4 (.lst (rs++U))=J7 at s5 e4 af;have R7:=R2.same s5
   have bu:∀ y∈rs++U,us≠[]/\SmI p ss (TI.map (nmP ss)) J7 y:=λy I=>by
    rcases yw.mp I with h | h
    .show⟨λe=>(by rw[r0 e] at h;cases h),?_⟩;have:=(bc y h).but (J':=J7) λc o _ e=>s5 c o e;show⟨this.1,.inl this.2⟩
    .obtain⟨h1,rfl⟩:=bf y h;show⟨h1,Ok.run af n1 (by rw[ya,YA];lk) (λx hx=>?_),.inr ⟨s,us.drop 1,qs.drop 1,rfl,⟨af,?_⟩,?_,λG'=>?_⟩⟩
     .obtain⟨u,ag,rfl⟩:=yQ.mp hx;show R7.pl.ok2 R7.g R7.nm R7.pu _ (YO (kn ag))
     .show⟨by rw[YA,YA,ul],λj t ab h1 h2=>R7.pl.2.at_ (1+j) t ab (by rwa[XM] at h1) (by rwa[XM] at h2)⟩
     .show⟨λq hq=>R7.g.inn q (kn hq),?_,by rw[YA];lk⟩;have hn:=R7.g.nd;rw[<- kg 1 qs,show qi (qs.take 1++qs.drop 1)=qi (qs.take 1)++qi (qs.drop 1) from xF] at hn;show(Yg.mp hn).2.1
     .have:=G' qs R7.g;rw[YA] at this;have:0<us.length:=XD.mpr h1;lk
   have b7:But p H J7:=λc o z e=>s5 c o (b2 c o z (bJ c o z e));have bi:=(hb.but b2).but (J':=J7) λc o _ e=>s5 c o e;clear bc bf e3 ez Z C L al O s2 s1 ai R5 af;show .inl ⟨⟨_,.of e4⟩,qP (xs:=rs++U) (λi σ G=>L2.Same J7 G/\∃ y8 y9,σ=[some (.ref p),some (.ref x),some (.ref n),some (.ref bb),some (.ref l),some b,y6,y7,y8,y9]) ⟨L2.Same.refl _,_,_,rfl⟩ (λi σ G _ M=>.of (M.1 _ _ e4)) (λi y σ G I M=>?_) fun σ G M=>?_⟩
   .obtain⟨sG,y8,y9,rfl⟩:=M;obtain⟨bx,bo⟩:=bu y (ye I)
    have sp:0<ss.length:=by
     obtain⟨q0,bn⟩:∃ q0,qs[0]?=some q0:=⟨_,yb (by rw[<- ul];show XD.mpr bx)⟩;show YF (R7.g.inn q0 (ye bn)).2.1
    apply qbe (R7.same sG).nn sp ?_;apply⟨wqS,λg hg=>?_⟩;have s6:=qz sG (o:=.lst [b,.str (tn ss 0)]) hg;have e6:upd G g (.lst [b,.str (tn ss 0)]) g=some (.lst [b,.str (tn ss 0)]):=qb;generalize upd G g (.lst [b,.str (tn ss 0)])=G2 at s6 e6;show .inl ⟨⟨_,.of e6⟩,qP (xs:=[b,.str (tn ss 0)]) (λi σ G=>L2.Same G2 G/\∃ y9,σ=[some (.ref p),some (.ref x),some (.ref n),some (.ref bb),some (.ref l),some b,y6,y7,some y,y9]) ⟨L2.Same.refl _,_,rfl⟩ (λi σ G _ M=>.of (M.1 _ _ e6)) (λi pl σ G ca M=>?_) fun σ G M=>?_⟩
    .obtain⟨s7,bz,rfl⟩:=M;have bg:=s6.trans s7;have av:=bo.same bg;have RG:=R7.same bg;obtain⟨dt,B,N⟩:=av.1.2;replace B:=B.same (qax p G);apply⟨p,x,ss,ns,TI.map (nmP ss),y,pl,(0,y),dt,rfl,RG.wt,?_,B,N,λG3 s8=>?_⟩
     .rcases av.2 with h | ⟨l',us',qs',e,h1,h2,h3⟩
      .show .inl ⟨⟨RG.wb.web,RG.wt.adj,av.1.1,h⟩,rfl⟩
      .show .inr (.inl ⟨l',us',qs',e,h1,h2,h3,rfl⟩)
     apply⟨wqT,λr' ac=>?_⟩;have s9:=qz s8 (o:=.lst [.str "pairs",y,.bl false]) ac;have e9:upd G3 r' (.lst [.str "pairs",y,.bl false]) r'=some (.lst [.str "pairs",y,.bl false]):=qb;generalize upd G3 r' (.lst [.str "pairs",y,.bl false])=G4 at s9 e9;apply⟨_,.list [.str (tgQ 0),dt,.bool false],rfl,.lst e9 (.cons (.str _) (.cons (B.same s9) (.cons (.bl _) .nil))),saS N 0,?_⟩;show qhc ?_;show⟨_,rfl,qL (λh=>by cases h) λ_=>?_⟩;show⟨s7.trans s9,_,rfl⟩
    .obtain⟨s7,bz,rfl⟩:=M;show⟨s6.trans s7,_,_,rfl⟩
   .obtain⟨sG,y8,y9,rfl⟩:=M;have RG:=R7.same sG;have au:=bi.but (J':=G) λc o _ e=>sG c o e;obtain⟨dt,B,N⟩:=au.1.2;replace B:=B.same (qax p G);apply⟨p,x,ss,ns,TI.map (nmP ss),.ref l,b,(1,b),dt,rfl,RG.wt,.inr (.inr ⟨l,us,qs,3,rfl,RG.pl,RG.g,‹Gst ss (TI.map (nmP ss)) qs›,au.1.1,au.2,rfl⟩),B,N,λG3 s8=>?_⟩;apply⟨wqT,λr' ac=>?_⟩;have s9:=qz s8 (o:=.lst [.str "place",b,.bl false]) ac;have e9:upd G3 r' (.lst [.str "place",b,.bl false]) r'=some (.lst [.str "place",b,.bl false]):=qb;generalize upd G3 r' (.lst [.str "place",b,.bl false])=G4 at s9 e9;apply⟨_,.list [.str (tgQ 1),dt,.bool false],rfl,.lst e9 (.cons (.str _) (.cons (B.same s9) (.cons (.bl _) .nil))),saS N 1,?_⟩;have e0:∀ t:Str,(if false=true then !eqV (V.str t) (V.str t) else eqV (V.str t) (V.str t))=true:=λt=>by simp[eqV]
    show .inl (.inl (.inl ⟨rfl,rfl,?_⟩));rw[show(PyData.list [.str (tgQ 1),dt,.bool false]).shown=saT 1 dt from rfl,e0];show hD _ _ (q G4 (λc o z e=>s9 c o (sG c o (b7 c o z e))) (RG.pu.same s9))
  case cut2 =>
   intro D σ J h;rw[an] at h;obtain⟨hD,b,no,xs,y7,y8,y9,rfl,bJ,A,hb,W,np,xl,hx⟩:=h;apply⟨p,8,rfl,A.pu,by decide,by decide,λd J2 hd b2 p2=>?_⟩;obtain⟨th,be⟩:∃ th,xs[d]?=some th:=⟨_,yb (by lk)⟩;have ad:=(hx th (ye be)).but b2;show .inl (j9 (b2 _ _ np W) (qk be) ?_);have R2:=A.but b2 p2;have bh:=hb.but b2;obtain⟨dt,B,N⟩:=ad.1.2;apply⟨p,x,ss,ns,TI.map (nmP ss),th,b,(0,th),dt,rfl,R2.wt,.inl ⟨⟨R2.wb.web,R2.wt.adj,ad.1.1,ad.2⟩,rfl⟩,B.same (qax p J2),N,λJ3 O=>?_⟩;apply⟨wqT,λr ac=>?_⟩;have L:=qz O (o:=.lst [.str "pairs",th,.bl false]) ac;have e4:upd J3 r (.lst [.str "pairs",th,.bl false]) r=some (.lst [.str "pairs",th,.bl false]):=qb;generalize upd J3 r (.lst [.str "pairs",th,.bl false])=J4 at L e4;apply⟨_,.list [.str (tgQ 0),dt,.bool false],rfl,.lst e4 (.cons (.str _) (.cons ((B.same (qax p J2)).same L) (.cons (.bl _) .nil))),saS N 0,?_⟩;show qhc ?_;show⟨_,rfl,qL (λh=>by cases h) λ_=>?_⟩;ext;rw[aa];show⟨hD,b,_,_,_,_,rfl,λc o z e=>L c o (b2 c o z (bJ c o z e)),R2.same L,bh.but λc o _ e=>L c o e⟩
  case qfX =>
   intro D σ J h;rw[am,aa] at h;obtain⟨hD,b,y6,y7,y8,y9,rfl,bJ,A,hb⟩:=h;have bv:=A.g.few;have ul:=A.pl.2.len;apply⟨l,_,rfl,.inl ⟨.of A.pl.1,λt1 bd=>?_⟩⟩;have s1:=qz (Sr J) (o:=.tup (us.map V.ref)) bd;have Z:upd J t1 (.tup (us.map V.ref)) t1=some (.tup (us.map V.ref)):=qb;have n1:=A.pu.apart bd;generalize upd J t1 (.tup (us.map V.ref))=J1 at s1 Z;have R1:=A.same s1;have X1:NpO p ss (TI.map (nmP ss)) J1 (.ref t1):=⟨(Ok.tup (k:=2) (n:=100) (m:=4) Z n1 (by rw[ya];lk) (R1.pl.ok2 R1.g R1.nm R1.pu)).mono (by rw[ya];lk) (by decide),qaC λa xs ar C=>by cases ar;rw[Z] at C;cases C⟩;apply⟨wqR,λs h1=>?_⟩;have s2:=qz (Sr J1) (o:=.tup [.str "a"]) h1;have C:upd J1 s (.tup [.str "a"]) s=some (.tup [.str "a"]):=qb;have n2:=R1.pu.apart h1;generalize upd J1 s (.tup [.str "a"])=J2 at s2 C;apply⟨wqR,λS h2=>?_⟩;have O:=qz s2 (o:=.lst [.ref s]) h2;have e3:upd J2 S (.lst [.ref s]) S=some (.lst [.ref s]):=qb;replace C:=qz (Sr J2) (o:=.lst [.ref s]) h2 _ _ C;generalize upd J2 S (.lst [.ref s])=J3 at O e3 C;have R3:=R1.same O;apply .inl ⟨l,S,_,_,rfl,rfl,R3.pl.1,e3,by rw[ya];show yS (qv (by simp only[yB,Yk];lk)),λa3 h3=>?_⟩;have L:=qz O (o:=.lst (us.map V.ref++[.ref s])) h3;have e4:upd J3 a3 (.lst (us.map V.ref++[.ref s])) a3=some (.lst (us.map V.ref++[.ref s])):=qb;have n4:=R3.pu.apart h3;replace C:=qz (Sr J3) (o:=.lst (us.map V.ref++[.ref s])) h3 _ _ C;generalize upd J3 a3 (.lst (us.map V.ref++[.ref s]))=J4 at L e4 C;have R4:=R1.same L;have ae:Ok p J4 2 100 4 (.ref s):=((Ok.tup (k:=0) (n:=1) (m:=1) C n2 (by show 1<=1000;decide) (qfW (Ok.str (by room) (by room) (by room)))).mono (by show 2<=100;decide) (by decide)).deep;have X4:∀ y∈[V.ref a3,.ref t1],NpO p ss (TI.map (nmP ss)) J4 y:=all_cons ⟨Ok.run e4 n4 (by rw[yu,ya];show _+1<=31;lk) (λy I=>(yw.mp I).elim (R4.pl.ok2 R4.g R4.nm R4.pu y) λz=>by rw[yx.mp z];show ae),by rw[qaG e4];show qds (y:=.ref s) (by unfold qaB;rw[zH λa xs z y=>by cases z;rw[C] at y;cases y;decide]) (by simp)⟩ (qfW X1) λy h=>h.but λc o _ e=>L c o e;clear X1 s2 O e3 Z C ae R3;apply .inl ⟨⟨_,.of R4.pl.1⟩,jg (xs:=us.map V.ref) (λi ys G=>L2.Same J4 G/\ys.length=i/\∀ y∈ys,Ok p G 2 100 4 y) ⟨L2.Same.refl _,rfl,λy h=>by cases h⟩ (λi ys G _ M=>.of (M.1 _ _ R4.pl.1)) (λi y ys G I M=>?_) λys G M=>?_⟩
   .obtain⟨sG,yl,ah⟩:=M;rw[yd] at I;obtain⟨u,ag,rfl⟩:=yo.mp I;have bj:=(yc.mp ag).1;obtain⟨ab,az⟩:∃ ab,qs[i]?=some ab:=⟨_,yb (by rw[<- ul];show bj)⟩;obtain⟨_,m1,m2,_⟩:=A.g.inn ab (ye az);apply zd ?_;apply .inl ⟨u,_,rfl,.inr (.of (sG _ _ (R4.pl.2.at_ i u ab ag az))),λlu ba=>?_⟩;have sl:=qz (Sr G) (o:=.lst [.str ab.1,.str ab.2]) ba;show⟨qQ (by lk),sG.trans sl,by rw[yu,yl];rfl,λy I=>?_⟩;rcases yw.mp I with h | h
    .show(ah y h).same sl
    .rw [yx.mp h];show((Ok.lst (k:=0) (n:=6) (m:=1) qb ((R4.pu.same sG).apart ba) (by show 2<=1000;decide) (qgA (Ok.name (A.nm _ m1)) (Ok.name (A.nm _ m2)))).mono (by show 14<=100;decide) (by decide)).deep
   .obtain⟨sG,yl,ah⟩:=M;rw[ya] at yl;have RG:=R4.same sG;show⟨yS (qQ (by lk)),λa4 h4=>?_⟩;have s5:=qz (Sr G) (o:=.lst ys) h4;have e5:upd G a4 (.lst ys) a4=some (.lst ys):=qb;generalize upd G a4 (.lst ys)=J5 at s5 e5;apply⟨wqQ,λY h5=>?_⟩;have n5:=(RG.same s5).pu.apart h5;have s6:=qz s5 (o:=.lst []) h5;replace e5:=qz (Sr J5) (o:=.lst []) h5 _ _ e5;have e6:upd J5 Y (.lst []) Y=some (.lst []):=qb;generalize upd J5 Y (.lst [])=J6 at s6 e5 e6;apply⟨wqR,λa6 h6=>?_⟩;have s7:=qz s6 (o:=.lst [.ref Y]) h6;have k7:=qz (Sr J6) (o:=.lst [.ref Y]) h6;have e7:upd J6 a6 (.lst [.ref Y]) a6=some (.lst [.ref Y]):=qb;replace e5:=k7 _ _ e5;replace e6:=k7 _ _ e6;generalize upd J6 a6 (.lst [.ref Y])=J7 at s7 e5 e6 e7;clear k7;apply .inl ⟨a4,a6,_,_,rfl,rfl,e5,e7,yS (qv (by simp only[yB,Yk];lk)),λa7 h7=>?_⟩;have n8:=(RG.same s7).pu.apart h7;have s8:=qz s7 (o:=.lst (ys++[.ref Y])) h7;replace e6:=qz (Sr J7) (o:=.lst (ys++[.ref Y])) h7 _ _ e6;have e8:upd J7 a7 (.lst (ys++[.ref Y])) a7=some (.lst (ys++[.ref Y])):=qb;generalize upd J7 a7 (.lst (ys++[.ref Y]))=J8 at s8 e6 e8;have ae:Ok p J8 2 100 4 (.ref Y):=((Ok.lst (k:=0) (n:=0) (m:=0) e6 n5 (by show 0<=1000;decide) λy h=>by cases h).mono (by show 0<=100;decide) (by decide)).deep;have ax:=sG.trans s8;have X8:∀ y∈[V.ref a7,.ref a3,.ref t1],NpO p ss (TI.map (nmP ss)) J8 y:=all_cons ⟨Ok.run e8 n8 (by rw[yu];show _+1<=31;lk) (λy I=>(yw.mp I).elim (λh=>(ah y h).same s8) λz=>by rw[yx.mp z];show ae),by rw[qaG e8];show qds (qd8 e6) (by simp)⟩ X4 λy h=>h.but λc o _ e=>ax c o e;have R8:=R4.same ax;clear X4 ah e5 e7 ae s5 s6 s7;ext;intro d hd;have n9:=R8.pu.apart hd;have s9:=qz (Sr J8) (o:=.dK []) hd;have e9:upd J8 d (.dK []) d=some (.dK []):=qb;generalize upd J8 d (.dK [])=J9 at s9 e9;have X9:∀ y∈[V.ref d,.ref a7,.ref a3,.ref t1],NpO p ss (TI.map (nmP ss)) J9 y:=all_cons ⟨Ok.fl0 (Ok.dnil (m:=1) e9 n9),qaC λa xs ar C=>by cases ar;rw[e9] at C;cases C⟩ X8 λy h=>h.but λc o _ e=>s9 c o e;apply⟨wqR,λa8 h8=>?_⟩;have bq:=(R8.same s9).pu.apart h8;have aj:=qz (Sr J9) (o:=.lst [.non]) h8;have as:upd J9 a8 (.lst [.non]) a8=some (.lst [.non]):=qb;generalize upd J9 a8 (.lst [.non])=J10 at aj as;have X10:∀ y∈[V.ref a8,.ref d,.ref a7,.ref a3,.ref t1],NpO p ss (TI.map (nmP ss)) J10 y:=all_cons ⟨Ok.run as bq (by show 1<=31;decide) (qfW Ok.non),by rw[qaG as];show qaW rfl⟩ X9 λy h=>h.but λc o _ e=>aj c o e;apply⟨by show 8<=sizeLine;decide,λno W=>?_⟩;have R10:=(R8.same s9).same aj;have br:=R10.pu.apart W;obtain⟨xs,X⟩:∃ xs,xs=[V.non,.str "a",.ref t1,.ref a3,.ref a7,.ref d,.ref a8,.int 3]:=⟨_,rfl⟩;have ak:=qz (Sr J10) (o:=.lst xs) W;have ay:upd J10 no (.lst xs) no=some (.lst xs):=qb;rw[<- X];generalize upd J10 no (.lst xs)=J11 at ak ay;have aq:=(((L.trans ax).trans s9).trans aj).trans ak;ext;rw[an];show⟨hD,b,no,xs,_,_,_,rfl,λc o z e=>aq c o (s1 c o (bJ c o z e)),R10.same ak,(hb.but λc o _ e=>s1 c o e).but λc o _ e=>aq c o e,ay,br,by rw[X];rfl,λy I=>NpO.but (J:=J10) ?_ λc o _ e=>ak c o e⟩;have aw:∀{v:V},(∀ a,v≠.ref a)->apV J10 ss (TI.map (nmP ss)) v=false:=λh=>qaC λa xs e=>absurd e (h a);rw[X] at I;simp only[yv,yJ,Yo] at I;rcases I with rfl | rfl | rfl | rfl | rfl | rfl | rfl | rfl
    .show⟨Ok.fl0 Ok.non,aw λa e=>by cases e⟩
    .show⟨Ok.fl0 (Ok.str (by room) (by room) (by room)),aw λa e=>by cases e⟩
    .show X10 _ (by simp)
    .show X10 _ (by simp)
    .show X10 _ (by simp)
    .show X10 _ (by simp)
    .show X10 _ (by simp)
    .show⟨Ok.fl0 (Ok.int (by decide) (by decide)),aw λa e=>by cases e⟩
  .ext;show⟨wqR,λs h1=>?_⟩;have n1:=R.pu.apart h1;have s1:=qz (Sr H) (o:=.lst [.ref n]) h1;have Z:upd H s (.lst [.ref n]) s=some (.lst [.ref n]):=qb;generalize upd H s (.lst [.ref n])=H1 at s1 Z;have R1:=R.same s1;have X1:BdU p ss H1 (.ref s):=⟨((Ok.lst (k:=1) (n:=98) (m:=2) Z n1 (by show 1<=1000;decide) (qfW R1.names)).mono (by show 99<=4000;decide) (by decide)).deep,j8 rfl⟩;apply⟨wqQ,λS h2=>?_⟩;have n2:=R1.pu.apart h2;have s2:=qz (Sr H1) (o:=.tup []) h2;have C:upd H1 S (.tup []) S=some (.tup []):=qb;generalize upd H1 S (.tup [])=H2 at s2 C;have X2:∀ y∈[V.ref S,.ref s],BdU p ss H2 y:=all_cons ⟨((Ok.tup (k:=0) (n:=0) (m:=0) C n2 (by show 0<=1000;decide) λy h=>by cases h).deep.deep).mono (by show 0<=4000;decide) (by decide),j8 rfl⟩ (qfW X1) λy h=>h.but λc o _ e=>s2 c o e;ext;intro d hd;have n3:=(R1.same s2).pu.apart hd;have O:=qz (Sr H2) (o:=.dK []) hd;have e3:upd H2 d (.dK []) d=some (.dK []):=qb;generalize upd H2 d (.dK [])=H3 at O e3;have X3:∀ y∈[V.ref d,.ref S,.ref s],BdU p ss H3 y:=all_cons ⟨Ok.fl0 (Ok.dnil (m:=1) e3 n3),j8 rfl⟩ X2 λy h=>h.but λc o _ e=>O c o e;apply⟨by show 8<=sizeLine;decide,λno W=>?_⟩;have R3:=(R1.same s2).same O;have n4:=R3.pu.apart W;obtain⟨xs,X⟩:∃ xs,xs=[V.non,.int 0,.bl true,.str "",.str "zzzzzzz",.ref s,.ref S,.ref d]:=⟨_,rfl⟩;have L:=qz (Sr H3) (o:=.lst xs) W;have e4:upd H3 no (.lst xs) no=some (.lst xs):=qb;rw[<- X];generalize upd H3 no (.lst xs)=H4 at L e4
   have X4:∀ y∈xs,BdU p ss H4 y:=λy I=>BdU.but (J:=H3) (by
    rw[X] at I;simp only[yv,yJ,Yo] at I;rcases I with rfl | rfl | rfl | rfl | rfl | rfl | rfl | rfl
    .show⟨Ok.fl0 Ok.non,j8 rfl⟩
    .show⟨Ok.fl0 (Ok.int (by decide) (by decide)),j8 rfl⟩
    .show⟨Ok.fl0 Ok.bl,j8 rfl⟩
    .show⟨Ok.fl0 (Ok.str (by room) (by room) (by room)),j8 (by room)⟩
    .show⟨Ok.fl0 (Ok.str (by room) (by room) (by room)),j8 (by room)⟩
    .show X3 _ (by simp)
    .show X3 _ (by simp)
    .show X3 _ (by simp)) λc o _ e=>L c o e
   have xl:xs.length=8:=by rw[X];rfl
   have R4:=R3.same L;have bw:=((s1.trans s2).trans O).trans L;apply⟨p,8,rfl,R4.pu,by decide,by decide,λk J hk b5 p5=>?_⟩;obtain⟨b,ao⟩:∃ b,xs[k]?=some b:=⟨_,yb (by lk)⟩;show .inl (j9 (b5 _ _ n4 e4) (qk ao) ?_);ext;rw[am,aa];show⟨λu H' z=>z,b,_,_,_,_,rfl,λc o z e=>b5 c o z (bw c o e),R4.but b5 p5,(X4 b (ye ao)).but b5⟩
theorem KD:FnScope wK wqL (qh qc7):=fS
inductive spLaw(K:W.Frag)(vs:List V)(H:Hp)(Q:VK)(E:XK):Prop|mk (a:Addr) (ns:LY) (_:vs=[.ref a]) (_:SqL K H a (ns.map V.int)) (_:ns.length<=63) (_:∀ H',Q (.bl true) H')
theorem But.sm(b:But p H J)(h:H p=none):L2.Same H J:=λc o e=>b c o (λz=>by rw[z,h] at e;cases e) e
structure LQ(p cw x n bb lt so l0 l1:Addr)(ss:LS)(ns bs:LN)(TI:List (Nat×Nat))(J:Hp):Prop where
 a:∃ us qs,RfW p cw x n bb l0 ss ns bs TI us qs J/\Gst ss (TI.map (nmP ss)) qs
 b:∃ us qs,RfW p cw x n bb l1 ss ns bs TI us qs J/\Gst ss (TI.map (nmP ss)) qs
 sl:J so=some (.lst [.ref l0,.ref l1])
 sp:so≠p
 tm:J lt=some (.lst (zB (tbL (TI.map (nmP ss)) ss (2 ^ ss.length))))
 tp:lt≠p
 few:ss.length<=12
theorem LQ.but{n c lt f e l1:Addr}{bs:LN}{TI:List (Nat×Nat)}(h:LQ p cw x n c lt f e l1 ss ns bs TI J)(b:But p J J')(d:Pu J' p):LQ p cw x n c lt f e l1 ss ns bs TI J':=by
 obtain⟨us,qs,j,g⟩:=h.a;obtain⟨vs,rs,l,i⟩:=h.b;show⟨⟨us,qs,j.but b d,g⟩,⟨vs,rs,l.but b d,i⟩,b _ _ h.sp h.sl,h.sp,b _ _ h.tp h.tm,h.tp,h.few⟩
inductive Sg(a:Addr)(σ:L2.St):Prop|mk (y1 y2 y3 y4 y5 y6 y7 y8 y9 y10 y11 y12:Option V) (_:σ=[some (.ref a),y1,y2,y3,y4,y5,y6,y7,y8,y9,y10,y11,y12])
inductive T108(cw a:Addr)(D:Ends)(σ:L2.St)(J:Hp):Prop|mk (H1:Hp) (p x n bb lt so l0 l1:Addr) (ss:LS) (ns bs:LN) (TI:List (Nat×Nat)) (y1 y5 y10 y11 y12:Option V) (_:(∀ σ' J',L2.Same H1 J'->Sg a σ'->D.nx σ' J')) (_:H1 p=none) (_:But p H1 J) (_:LQ p cw x n bb lt so l0 l1 ss ns bs TI J) (_:σ=[some (.ref a),y1,some (.ref p),some (.int (ss.length:Int)),some (.ref n),y5,some (.ref bb),some (.ref lt),some (.ref x),some (.ref so),y10,y11,y12])
theorem ok_law48(F:Fun K "law" "law" qc7 f fd)(T:Txt K mg cc cw)(Ue:wqN 1 "_law_cell" wqv (spCe K))(Ua:wqN 1 "_law_purse" wqJ spPu)(Ks:wqN 1 "_law_take" wh spTkP)
  (Uf:wqN 2 "_law_many" wqh spMyP) (Ub:wqN 2 "_law_names" wh spNmJ) (Ug:wqN 2 "_law_ties" wh spTsJ)
  (Uh:wqN 7 "_law_made" wqo (spMdJ cw)) (Ui:wqN 1 "_law_bits" wqp spBtJ) (Uc:wqN 1 "_law_table" wqq spTbQ)
  (Ud:wqN 2 "_law_named" wqe spNdJ) (uV:wqN 2 "_law_greatest" wS spGsQ) (Uj:wqN 1 "_law_free" wqc spFeQ)
  (uO:wqN 13 "_law_right" wL (spRwX cw)) (uY:wqN 14 "_law_refused" wQ (spRf cw)):wqP 15 f fd wqL (spLaw K):=by
 show F.ok KD λ_ _ _ _ H vs Q E I h=>?_
 .obtain⟨a,nz,rfl,hS,df,q⟩:=h;have hu:=ze I;obtain⟨TC108,bg⟩:∃ t:TS,t=T108 cw a:=⟨_,rfl⟩;show⟨_,(qc (qX yT rfl (jh (K:=K) rfl (qt (je (K:=K) rfl) (qZ (qc8 (K:=K) rfl) (pv 0) jw (jk qf)) (qB (qa (qx Ue (hmR I) qF (qa (pv 0) (qa qf qd))) qd)))) (qu (i:=1) KD.nd rfl (yK rfl))
 (qc (qm (i:=2) KD.nd rfl (XC rfl) (qx Ua (hmR I) qF (qa (pv 1) qd)))
 (qc (qm (i:=3) KD.nd rfl (XC rfl) (qx Uf (hmR I) qF (qa (pv 2) (qa qf qd))))
 (qc (qm (i:=4) KD.nd rfl (XC rfl) (qx Ub (hmR I) qF (qa (pv 2) (qa (pv 3) qd))))
 (qc (qm (i:=5) KD.nd rfl (yK rfl) (qx Ug (hmR I) qF (qa (pv 2) (qa (pv 3) qd))))
 (qc (qm (i:=6) KD.nd rfl (XC rfl) (qx Ui (hmR I) qF (qa (pv 3) (qa (pv 5) qd))))
 (qc (qm (i:=7) KD.nd rfl (XC rfl) (qx Uc (hmR I) qF (qa (pv 3) (qa (pv 6) qd))))
 (qc (qm (i:=8) KD.nd rfl (yK rfl) (qx Uh (hmR I) qF (qa (pv 4) (qa (pv 5) qd))))
 (qc (qbQ (sc:=qh qc7) (XN:=wK) wT 1 [2,4,3,6,7] rfl rfl rfl (by room) rfl (by room) (i:=9) KD.nd rfl rfl
  (jz rfl T.b_range (qa qf qd)) (λ_ _ _ _=>(qu (i:=0) (show(wT:LS).Nodup by room) rfl (yK rfl))) jF
  (λ_ _ _ _=>jP)
  (λ_ _ _ _=>(qx Ud (hmR I) qF (qa (pv 1) (qa (pv 2) (qa (qx uV (hmR I) qF (qa (pv 1) (qa (pv 3) (qa (pv 4) (qa (pv 5) qd))))) qd))))))
 (qak TC108 (qc (qm (i:=10) KD.nd rfl (yK rfl) (qx Uj (hmR I) qF (qa (pv 3) (qa (pv 6) (qa (pv 7) qd)))))
 (qc (qX yT rfl (jz rfl T.b_range (qa (pv 3) qd)) (qu (i:=11) KD.nd rfl (yK rfl))
 (qe (qX yT rfl (jh (K:=K) rfl (qZ (qc8 (K:=K) rfl) (qt (je (K:=K) rfl) (pv 9) (qZ (qc8 (K:=K) rfl) (pv 9) jw (jk qf))) jw (jk (qt (je (K:=K) rfl) qf (qV qbK rfl T.b_int boot_int (qa (za (zn (K:=K) rfl hu) (qx Ks (hmR I) qF (qa (pv 2) (qa qf qd))) qf (qy _)) qd)))))) (qu (i:=12) KD.nd rfl (yK rfl))
 (qe (qI (qU (qT (qx uO (hmR I) qF (qa (pv 8) (qa (pv 4) (qa (pv 6) (qa (pv 12) (qa (qo (qp (K:=K) rfl hu) (pv 4) (pv 11) (λ_ _=>rfl)) (qa (za (qaf (K:=K) rfl hu) (pv 11) (pv 10) (by with_unfolding_all rfl)) (qa (qt (je (K:=K) rfl) qf (qV qbK rfl T.b_int boot_int (qa (za (zn (K:=K) rfl hu) (pv 11) qf (qy _)) qd))) qd)))))))))) (qe (qq jd)) qw)))))
 (qc (qI (qU (qT (qx uY (hmR I) qF (qa (pv 2) (qa (pv 8) (qa (pv 4) (qa (pv 6) (qa (qo (qp (K:=K) rfl hu) (pv 9) qf (λ_ _=>rfl)) qd)))))))) (qe (qq jd)) qw)
 (qe (qX yT rfl (jh (K:=K) rfl (qZ (qc8 (K:=K) rfl) (pv 10) jw (jk qf))) (qu (i:=11) KD.nd rfl (yK rfl))
 (qe (qI (qU (qT (qx uO (hmR I) qF (qa (pv 8) (qa (pv 4) (qa (pv 6) (qa (qo (qp (K:=K) rfl hu) (pv 9) qf (λ_ _=>rfl)) (qa (qo (qp (K:=K) rfl hu) (pv 4) (pv 11) (λ_ _=>rfl)) (qa jd (qa qf qd)))))))))) (qe (qq jd)) qw))))))) ?cut108))))))))))
 (qe (qq jd))),?_⟩
  case cut108 =>
   intro D σ J h;rw[bg] at h;obtain⟨H1,p,x,n,O,lt,so,s,l1,ss,ns,bs,TI,y1,y5,de,N,C,hD,aq,bJ,L,rfl⟩:=h;have few:=L.few;obtain⟨aw,au,R0,G0⟩:=id L.a;have nd:=R0.wt.wok.nd;apply⟨O,lt,ss,TI.map (nmP ss),rfl,few,L.tm,λfr J2 s2 cj bd=>?_⟩;have k2:But p J J2:=λc o _ e=>s2 c o e;have ai:=L.but k2 (R0.pu.same s2);have as:=R0.pu.apart cj;replace bJ:=bJ.trans7 k2;clear k2 R0 G0 aw au;apply⟨_,rfl,by lk,by lk,?_⟩;rw[yV];show jO (lo:=0) (λi σ G=>But p J2 G/\Pu G p/\∃ N C,σ=[some (.ref a),y1,some (.ref p),some (.int (ss.length:Int)),some (.ref n),y5,some (.ref O),some (.ref lt),some (.ref x),some (.ref so),some (.ref fr),N,C]) ⟨λc o _ e=>e,(by obtain⟨_,_,R,_⟩:=ai.a;show R.pu),_,_,rfl⟩ (λk σ G hi A=>?_) fun σ G A=>?_
   .obtain⟨W,pG,N,C,rfl⟩:=A;have LG:=ai.but W pG;rw[XA];apply .inl ⟨so,_,rfl,.of LG.sl,λg1 an=>?_⟩;rw[show qb9 [V.ref s,V.ref l1] none (some 1)=[V.ref s] from rfl];have s3:=qz (Sr G) (o:=.lst [.ref s]) an;have e3:upd G g1 (.lst [.ref s]) g1=some (.lst [.ref s]):=qb;generalize upd G g1 (.lst [.ref s])=G1 at s3 e3;show .inl ⟨so,g1,_,_,rfl,rfl,s3 _ _ LG.sl,e3,wqT,λg2 bp=>?_⟩;have s4:=qz s3 (o:=.lst ([.ref s,.ref l1]++[.ref s])) bp;have e4:upd G1 g2 (.lst ([.ref s,.ref l1]++[.ref s])) g2=some (.lst [.ref s,.ref l1,.ref s]):=qb;have n4:=(pG.same s3).apart bp;generalize upd G1 g2 (.lst ([.ref s,.ref l1]++[.ref s]))=G2 at s4 e4;apply⟨p,4,rfl,pG.same s4,by decide,by decide,λd G3 hd b5 p5=>?_⟩;have ay:But p G G3:=λc o z e=>b5 c o z (s4 c o e);have L3:=LG.but ay p5;have bc:=W.trans7 ay;apply qaA ?_;apply .inr ⟨_,rfl,?_⟩;apply .inl ⟨g2,_,rfl,.of (b5 _ _ n4 e4),λg3 cp=>?_⟩
    obtain⟨xs,aj,ar⟩:∃ xs,qb9 [V.ref s,V.ref l1,V.ref s] none (some (2+if decide ((d:Int)=0)=true then 1 else 0))=xs/\∀ y∈xs,y=V.ref s\/y=V.ref l1:=by
     by_cases bo:(d:Int)=0
     .rw [yA bo];show⟨[.ref s,.ref l1,.ref s],rfl,λy M=>by simp at M;rcases M with h | h | h<;>simp[h]⟩
     .rw [ym bo];show⟨[.ref s,.ref l1],rfl,λy M=>by simp at M;show M⟩
    rw[aj];have s6:=qz (Sr G3) (o:=.lst xs) cp;have e6:upd G3 g3 (.lst xs) g3=some (.lst xs):=qb;generalize upd G3 g3 (.lst xs)=G4 at s6 e6;have k6:But p G3 G4:=λc o _ e=>s6 c o e;have L4:=L3.but k6 (p5.same s6);show .inl ⟨⟨_,.of e6⟩,qP (xs:=xs) (λi σ U=>L2.Same G4 U/\∃ C,σ=[some (.ref a),y1,some (.ref p),some (.int (ss.length:Int)),some (.ref n),y5,some (.ref O),some (.ref lt),some (.ref x),some (.ref so),some (.ref fr),some (.int (k:Int)),C]) ⟨L2.Same.refl _,_,rfl⟩ (λi σ U _ A=>.of (A.1 _ _ e6)) (λi y σ U M A=>?_) fun σ U A=>?_⟩
    .obtain⟨Z,ce,rfl⟩:=A;have LU:=L4.but (J':=U) (λc o _ e=>Z c o e) ((p5.same s6).same Z);have co:U fr=some (.lst ((frI (TI.map (nmP ss)) ss ss.length).map iV)):=Z _ _ (s6 _ _ (bc _ _ as bd))
     obtain⟨l,us,qs,rfl,B,GU⟩:∃ l us qs,y=V.ref l/\RfW p cw x n O l ss ns bs TI us qs U/\Gst ss (TI.map (nmP ss)) qs:=by
      rcases ar y (ye M) with e | e
      .obtain⟨us,qs,r⟩:=LU.a;show⟨s,us,qs,e,r⟩
      .obtain⟨us,qs,r⟩:=LU.b;show⟨l1,us,qs,e,r⟩
     apply qbe B.nn hi ?_;apply qdp co ?_;rw[fr_dec B.wt.ir nd hi];apply qaA ?_;apply .inr ⟨_,rfl,?_⟩;ext
     obtain⟨m,em,hm⟩:∃ m:Nat,(1+if decide ((k:Int)=0)=true then(1:Int) else 0)=(m:Int)/\m<=2:=by
      by_cases h0:(k:Int)=0
      .rw [yA h0];show⟨2,rfl,by decide⟩
      .rw [ym h0];show⟨1,rfl,by decide⟩
     rw[em];show⟨x,n,O,l,ss,ns,TI,bs,us,qs,tn ss k,m,rfl,hm,B.wt,B.nn,few,B.tj,B.bm,B.bt,B.pl,B.g,GU,qb0 hi,λU2 s7=>?_⟩;show⟨_,rfl,qL (λh=>by cases h) λ_=>?_⟩;show⟨Z.trans s7,_,rfl⟩
    .obtain⟨Z,ce,rfl⟩:=A;show⟨λc o z e=>Z c o (k6 c o z (bc c o z e)),(p5.same s6).same Z,_,_,rfl⟩
   .obtain⟨W,pG,N,C,rfl⟩:=A;have LG:=ai.but W pG;obtain⟨aw,au,R0,G0⟩:=LG.a;apply .inl (j9 LG.sl (v:=.ref s) (qk (j:=0) rfl) ?_);apply⟨p,x,n,O,s,ss,ns,bs,TI,aw,au,rfl,R0,G0,λG2 b2 p2=>?_⟩;show⟨_,rfl,qL (λh=>by cases h) λ_=>?_⟩;have L3:=LG.but b2 p2;have be:=b2 _ _ as (W _ _ as bd);apply .inl ⟨fr,_,rfl,.of be,λg1 an=>?_⟩
    obtain⟨xs,aj,ar⟩:∃ xs:LN,qb9 ((frI (TI.map (nmP ss)) ss ss.length).map iV) none (some 2)=xs.map iV/\∀ y∈xs,y∈frI (TI.map (nmP ss)) ss ss.length:=by
     have:=qag ((frI (TI.map (nmP ss)) ss ss.length).map iV) 2;rw[show((2:Nat):Int)=2 from rfl] at this;show⟨(frI (TI.map (nmP ss)) ss ss.length).take 2,by rw[this,Ko],λy M=>List.mem_of_mem_take M⟩
    rw[aj];have s4:=qz (Sr G2) (o:=.lst (xs.map iV)) an;have e4:upd G2 g1 (.lst (xs.map iV)) g1=some (.lst (xs.map iV)):=qb;generalize upd G2 g1 (.lst (xs.map iV))=G3 at s4 e4;have L4:=L3.but (J':=G3) (λc o _ e=>s4 c o e) (p2.same s4);show .inl ⟨⟨_,.of e4⟩,qP (xs:=xs.map iV) (λi σ U=>L2.Same G3 U/\∃ N,σ=[some (.ref a),y1,some (.ref p),some (.int (ss.length:Int)),some (.ref n),y5,some (.ref O),some (.ref lt),some (.ref x),some (.ref so),some (.ref fr),N,C]) ⟨L2.Same.refl _,_,rfl⟩ (λi σ U _ A=>.of (A.1 _ _ e4)) (λi y σ U M A=>?_) fun σ U A=>?_⟩
    .obtain⟨Z,cd,rfl⟩:=A;have LU:=L4.but (J':=U) (λc o _ e=>Z c o e) ((p2.same s4).same Z);rw[yd] at M;obtain⟨k,hk,rfl⟩:=yo.mp M;have bv:=ar k (ye hk);have ao:k<ss.length:=xk.mp (yq.mp bv).1;obtain⟨us,qs,B,GU⟩:=LU.b;apply .inl (j9 LU.sl (v:=.ref l1) (qk (j:=1) rfl) ?_);apply qbe B.nn ao ?_;apply⟨x,n,O,l1,ss,ns,TI,bs,us,qs,tn ss k,1,by rw[yA ((qgx B.wt.ir nd ao).mp bv)];rfl,by decide,B.wt,B.nn,few,B.tj,B.bm,B.bt,B.pl,B.g,GU,qb0 ao,λU2 s7=>?_⟩;show⟨_,rfl,qL (λh=>by cases h) λ_=>?_⟩;show⟨Z.trans s7,_,rfl⟩
    .obtain⟨Z,cd,rfl⟩:=A;show hD _ _ (But.sm (λc o z e=>Z c o (s4 c o (b2 c o z (W c o z (bJ c o z e))))) aq) ⟨_,_,_,_,_,_,_,_,_,_,_,_,rfl⟩
  .ext;show .inl ⟨a,_,rfl,hS,λk cr=>?_⟩
   obtain⟨Y,ci,dj⟩:∃ Y:LY,qb9 (nz.map V.int) none (some 2)=Y.map V.int/\Y.length<=2:=by
    have:=qag (nz.map V.int) 2;rw[show((2:Nat):Int)=2 from rfl] at this;show⟨nz.take 2,by rw[this,Ko],by rw[yU];lk⟩
   rw[ci];have s1:=qz (Sr H) (o:=.lst (Y.map V.int)) cr;have bq:upd H k (.lst (Y.map V.int)) k=some (.lst (Y.map V.int)):=qb;generalize upd H k (.lst (Y.map V.int))=H1 at s1 bq;apply⟨a,nz,2,rfl,s1.seq hS,by decide,λc8=>?_⟩;apply⟨wqR,λk2 bu=>?_⟩;have cb:=qz (Sr H1) (o:=.lst [.int c8]) bu;have br:upd H1 k2 (.lst [.int c8]) k2=some (.lst [.int c8]):=qb;generalize upd H1 k2 (.lst [.int c8])=H2 at cb br;show .inl ⟨k,k2,_,_,rfl,rfl,cb _ _ bq,br,by rw[ya];show yS (qv (by simp only[yB,Yk];lk)),λlc dh=>?_⟩;have ch:Y.map V.int++[.int c8]=(Y++[c8]).map V.int:=by rw[yC];rfl
   rw[ch];have e3:upd H2 lc (.lst ((Y++[c8]).map V.int)) lc=some (.lst ((Y++[c8]).map V.int)):=qb;generalize upd H2 lc (.lst ((Y++[c8]).map V.int))=H3 at e3;generalize Y++[c8]=cs at e3;show .inl ⟨⟨_,.of e3⟩,qP (xs:=cs.map V.int) (λi σ J=>L2.Same H3 J/\Sg a σ) ⟨L2.Same.refl H3,_,_,_,_,_,_,_,_,_,_,_,_,rfl⟩ (λi σ J _ A=>.of (A.1 _ _ e3)) (λi y σ J M A=>?_) fun σ J A=>?_⟩
   .obtain⟨sJ,y1,y2,y3,y4,y5,y6,y7,y8,y9,de,N,C,rfl⟩:=A;rw[yd] at M;obtain⟨c,hc,rfl⟩:=yo.mp M;apply⟨c,rfl,λp J1 dc aq ck=>?_⟩;have cy:H3 p=none:=sJ.free aq;have cf:But p H3 J1:=λc o _ e=>dc c o (sJ c o e);apply⟨p,12,rfl,ck,by decide,λm J2 hm b2 cl=>?_⟩;have aa:m<=12:=by lk
    apply⟨p,m,rfl,cl,by lk,λn ss J3 b3 cm di ac cv hO cz=>?_⟩;subst cz;apply⟨p,ss.length,rfl,cm,by lk,λt ts TI J4 b4 ad dk dl hI hT=>?_⟩;have bx:=b4 _ _ ac cv;apply⟨t,ss.length,ts,TI,rfl,by lk,hI,hT,λO bs J5 s5 bj bi ak=>?_⟩;apply⟨O,ss,TI,bs,rfl,aa,hO.nd,hT,bi,ak,λlt J6 s6 bw cu=>?_⟩;have af:=s5.trans s6;have bf:=ad.same af;apply⟨n,t,ss,ts,TI,rfl,af _ _ bx,hO,hI.same af,hT,λx ns J7 s7 da hW am=>?_⟩;have bh:WebP (λz=>z=p) cw J7 x ss ns:=hW.apart (bf.apart da) (λz e=>by subst e;obtain⟨u,v,w,e,_⟩:=bf;rw[e];show λz=>by cases z);have av:=af.trans s7;have cn:=ad.same av;have cg:But p H3 J7:=(((cf.trans7 b2).trans7 b3).trans7 b4).trans7 λc o _ e=>av c o e;have ae:=ad.apart bj;have S:=(ad.same s5).apart bw;have bz:=av _ _ bx;have ag:=(s6.trans s7) _ _ bi;have ah:=s7 _ _ cu;ext;have R7:∀{J:Hp} {l:Addr} {us:LX} {qs:LP},But p J7 J->Pu J p->PL J l us qs->PGo ss (TI.map (nmP ss)) qs->RfW p cw x n O l ss ns bs TI us qs J:=λb A P g=>⟨A,bh.keep b,⟨(bh.keep b).web,am.adj,am.ok⟩,b _ _ ac bz,hT,b _ _ ae ag,ae,ak,P,g⟩;show⟨2,rfl,by decide,by decide,?_⟩;show qas (lo:=0) (n:=2) (λi ys G=>But p J7 G/\Pu G p/\∃ LL:LX,ys=LL.map V.ref/\LL.length=i/\∀ l∈LL,∃ us qs,RfW p cw x n O l ss ns bs TI us qs G/\Gst ss (TI.map (nmP ss)) qs) ⟨λc o _ e=>e,cn,[],rfl,rfl,λl h=>by cases h⟩ (λi ys G hi A=>?_) λys G A=>?_
    .obtain⟨W,pG,LL,rfl,al,X⟩:=A;apply zd ?_;apply⟨p,O,lt,ss,TI,bs,rfl,pG,ae,S,aa,hO.nd,hT,W _ _ ae ag,ak,W _ _ S ah,λl zs G1 b1 p1 dg ct hZ cq cx h2 bn=>?_⟩;apply⟨p,n,l,ss,TI,zs,rfl,p1,b1 _ _ ac (W _ _ ac bz),ac,hO,hT,hZ,ct,cq,cx,by lk,λr us qs G2 b2 p2 hP hg hl=>?_⟩;have ax:=b1.trans7 b2;have az:=W.trans7 ax;show⟨by rw[ya];show qQ (by lk),az,p2,LL++[r],by rw[yC];rfl,by rw[yu,al];rfl,λv hv=>?_⟩;rcases yw.mp hv with h | h
     .obtain⟨dd,db,r1,g1⟩:=X v h;show⟨dd,db,r1.but ax p2,g1⟩
     .rw [yx.mp h];show⟨us,qs,R7 az p2 hP hg,gst_of am.ir hO.nd (hl.trans bn)⟩
    .obtain⟨W,pG,LL,rfl,al,X⟩:=A
     match LL,al,X with
     | [s,l1],_,X =>
      show⟨wqS,λso ca=>?_⟩;have s9:=qz (Sr G) (o:=.lst [.ref s,.ref l1]) ca;have k9:But p G (upd G so (.lst [.ref s,.ref l1])):=λc o _ e=>s9 c o e;have ba:=W.trans7 k9;ext;rw[bg];obtain⟨u0,q0,r0,g0⟩:=X s (by simp);obtain⟨u1,q1,r1,g1⟩:=X l1 (by simp);show⟨H3,p,x,n,O,lt,so,s,l1,ss,ns,bs,TI,_,_,_,_,_,λdm J' s' g'=>⟨s',g'⟩,cy,cg.trans7 ba,⟨⟨u0,q0,r0.same s9,g0⟩,⟨u1,q1,r1.same s9,g1⟩,qb,pG.apart ca,ba _ _ S ah,S,aa⟩,rfl⟩
   .ext;show q _
end
theorem all_mk{l:W.OpenLaw}{w:World}{h:Heap}{fa f d p q t b:Addr}{C D E:Tok}(X:K.In h)(G:h.Ns mainGlobals mg)(aa:mg "law"=some (.ref fa))
  (C0_:W.nsIn K mainGlobals "NoPairs"=some (some (.ref p)))
  (C1_:W.nsIn K mainGlobals "NoPlace"=some (some (.ref q)))
  (C2_:W.nsIn K mainGlobals "NoBar"=some (some (.ref t)))
  (C3_:W.nsIn K mainGlobals "OnceError"=some (some (.ref b)))
  (Cw_:W.nsIn K mainGlobals "Web"=some (some (.ref f)))
  (Cf_:W.nsIn K mainGlobals "Forest"=some (some (.ref d)))
  (vh:FG K "are_pairs" zq)
  (UU:FG K "partners_in" jS)
  (vH:FG K "row_out" qam)
  (vJ:FG K "is_name" zo)
  (vK:FG K "has_bit" qaO)
  (vv:FG K "is_place" zL)
  (UF:FG K "are_two_places" ji)
  (va:FG K "numbers_of" zy)
  (vL:FG K "near_of" qaP)
  (Vb:FG K "_law_cell" qbw)
  (vM:FG K "_law_purse" qaR)
  (Vc:FG K "_law_take" qbx)
  (vN:FG K "_law_names" qaj)
  (Vd:FG K "_law_ties" qbz)
  (Ve:FG K "_law_many" qby)
  (Vf:FG K "_law_made" qbA)
  (Vg:FG K "_law_bits" qbB)
  (vO:FG K "_law_table" qaS)
  (vb:FG K "_law_greatest" jH)
  (vP:FG K "_law_named" qaT)
  (UV:FG K "_law_are_pairs" zi)
  (Vh:FG K "_law_free" qaV)
  (vw:FG K "_law_is_row" jZ)
  (vx:FG K "_law_turned" jY)
  (vQ:FG K "_law_right" zP)
  (Vi:FG K "_law_said" qbE)
  (vi:FG K "_law_as_many" zr)
  (vm:FG K "_law_refused" zt)
  (V8:FG K "law" qc7)
  (wv:FM K p "__init__" "NoPairs.__init__" j4)
  (ww:FM K q "__init__" "NoPlace.__init__" j3)
  (wz:FC K b "__init__" "OnceError.__init__" jD)
  (wA:FM K f "__init__" "Web.__init__" qat)
  (vy:FM K f "places" "Web.places" zC)
  (UW:FM K f "has_place" "Web.has_place" jo)
  (vn:FM K f "has_tie" "Web.has_tie" jR)
  (UX:FM K f "number_of" "Web.number_of" jp)
  (vz:FM K f "beside" "Web.beside" zD)
  (UM:FM K f "bits_beside" "Web.bits_beside" ju)
  (Vj:FM K f "tied" "Web.tied" qau)
  (vc:FM K f "names_in" "Web.names_in" jC)
  (UY:FM K d "__init__" "Forest.__init__" jU)
  (Vk:FM K d "row" "Forest.row" zF)
  (vo:FM K d "row_to" "Forest.row_to" jq)
  (vR:FM K d "grow" "Forest.grow" zh)
  (vA:FM K d "reach" "Forest.reach" j5)
  (UG:FM K d "look_around" "Forest.look_around" jc)
  (Uz:FM K d "bring_together" "Forest.bring_together" qJ)
  (Ut:FM K d "bases_down_from" "Forest.bases_down_from" qO)
  (UH:FM K d "reach_round" "Forest.reach_round" q9)
  (vS:FM K d "fold" "Forest.fold" jT)
  (X0:XL K p (.ref b::qcm))
  (q0:XQ K p)
  (X1:XL K q (.ref b::qcm))
  (q1:XQ K q)
  (X2:XL K t (.ref b::qcm))
  (q2:XQ K t)
  (X3:XL K b qcm)
  (q3:XQ K b)
  (y0:W.findIn K (.ref p) "found"=some none)
  (y1:W.findIn K (.ref q) "found"=some none)
  (y2:W.findIn K (.ref t) "found"=some none)
  (af:W.mroIn K p (.ref b)=some true)
  (ag:W.mroIn K q (.ref b)=some true)
  (ah:W.mroIn K t (.ref b)=some true)
  (nd:([p,q,t]++[b]).Nodup)
  (r1:W.readsIn K b (.type "type")=true)
  (r3:W.specialIn K (.ref b) "__getattribute__"=some (some (.builtin "type.__getattribute__")))
  (v1:W.findIn K (.type "type") "__getattribute__"=some (some (.builtin "type.__getattribute__")))
  (v3:W.subIn K (.type "type") (.type "type")=some true)
  (v4:W.findCls K (.type "ValueError") (.type "type") "__init__"=some (.val (.builtin "ValueError.__init__")))
  (w1:W.plainGet K f Str.empty=true)
  (w2:W.hasDictIn K f=true)
  (w3:W.plainOver K f=true)
  (w4:W.findIn K (.ref f) "__setattr__"=some (some (.builtin "object.__setattr__")))
  (w5:W.makesIn K f=true)
  (w6:W.keepIn K (.ref f)=true)
  (w7:W.findIn K (.ref f) "numbers"=some none)
  (w8:W.findIn K (.ref f) "order"=some none)
  (w9:W.findIn K (.ref f) "near"=some none)
  (u:W.specialIn K (.builtin "object.__class__") "__get__"=some (some (.builtin "getset_descriptor.__get__")))
  (x:W.takesIn K (.builtin "object.__class__")=some true)
  (al:W.plainGet K d Str.empty=true)
  (am:W.hasDictIn K d=true)
  (ao:W.plainOver K d=true)
  (aq:W.findIn K (.ref d) "__setattr__"=some (some (.builtin "object.__setattr__")))
  (A:W.makesIn K d=true)
  (B:W.keepIn K (.ref d)=true)
  (az:W.findIn K (.ref d) "board"=some none)
  (ba:W.findIn K (.ref d) "partners"=some none)
  (bb:W.findIn K (.ref d) "rows"=some none)
  (bc:W.findIn K (.ref d) "parents"=some none)
  (bd:W.findIn K (.ref d) "bases"=some none)
  (be:W.findIn K (.ref d) "rings"=some none)
  (bf:W.findIn K (.ref d) "waiting"=some none)
  (bg:W.findIn K (.ref d) "longer"=some none)
  (aw:W.nsIn K mainGlobals "set"=some none)
  (F:W.nsIn K mainGlobals "repr"=some none)
  (ar:(K.lookup sysModules).isSome=true)
  (ai:W.mroIn K p (.ref p)=some true)
  (aj:W.mroIn K q (.ref q)=some true)
  (ae:W.mroIn K q (.ref p)=some false)
  (z0:W.nsIn K mainGlobals "len"=some none)
  (z1:W.nsIn K mainGlobals "int"=some none)
  (z2:W.nsIn K mainGlobals "enumerate"=some none)
  (z3:W.nsIn K mainGlobals "all"=some none)
  (z4:W.nsIn K mainGlobals "max"=some none)
  (z5:W.nsIn K mainGlobals "min"=some none)
  (z6:W.nsIn K mainGlobals "isinstance"=some none)
  (z7:W.nsIn K mainGlobals "bool"=some none)
  (z8:W.nsIn K mainGlobals "str"=some none)
  (z9:W.nsIn K mainGlobals "range"=some none)
  (as:W.nsIn K mainGlobals "list"=some none)
  (au:W.nsIn K mainGlobals "tuple"=some none)
  (av:W.nsIn K mainGlobals "ValueError"=some none)
  (u0:W.nsIn K mainGlobals "LONGEST_NAME"=some (some (.int 6 C)))
  (u1:W.nsIn K mainGlobals "MOST_PLACES"=some (some (.int 14 D)))
  (u2:W.nsIn K mainGlobals "MOST_TIES"=some (some (.int 30 E))) :
  ∃ fd:FuncData,(∀(s:Shared) (v:Value),BindsTo s fd ⟨[v],[]⟩ [("_law_script",v)])/\∀ base:Heap,K.In base->base.Ns mainGlobals mg->FnOk l.prog w K mg base CX0 15 fa fd wqL (spLaw K):=by
 obtain⟨_,_,UC,H⟩:=vh;obtain⟨_,_,Uw,I⟩:=UU;obtain⟨_,_,UQ,J⟩:=vH;obtain⟨_,_,UR,L⟩:=vJ;obtain⟨_,_,vT,Vv⟩:=vK;obtain⟨_,_,UO,M⟩:=vv;obtain⟨_,_,Uq,N⟩:=UF;obtain⟨_,_,ve,Vw⟩:=va;obtain⟨_,_,vV,Vx⟩:=vL;obtain⟨_,_,Vl,Vy⟩:=Vb;obtain⟨_,_,vW,Vz⟩:=vM;obtain⟨_,_,Vm,VA⟩:=Vc;obtain⟨_,_,vX,VB⟩:=vN;obtain⟨_,_,Vn,VC⟩:=Vd;obtain⟨_,_,Vo,VD⟩:=Ve;obtain⟨_,_,Vp,VE⟩:=Vf;obtain⟨_,_,Vq,VF⟩:=Vg;obtain⟨_,_,vY,VG⟩:=vO;obtain⟨_,_,vf,VH⟩:=vb;obtain⟨_,_,vZ,VI⟩:=vP;obtain⟨_,_,UZ,VJ⟩:=UV;obtain⟨_,_,Vr,VL⟩:=Vh;obtain⟨_,_,vD,VM⟩:=vw;obtain⟨_,_,vE,VN⟩:=vx;obtain⟨_,_,v6,VO⟩:=vQ;obtain⟨_,_,Vs,VP⟩:=Vi;obtain⟨_,_,vp,VQ⟩:=vi;obtain⟨_,_,vq,VR⟩:=vm;obtain⟨_,_,V9,VS⟩:=V8;obtain⟨_,_,wB,wC,V4⟩:=wv;obtain⟨_,_,wD,wE,V5⟩:=ww;obtain⟨_,_,wF,V6⟩:=wz;obtain⟨_,_,wG,wH,V7⟩:=wA;obtain⟨_,_,wa,wc,VT⟩:=vy;obtain⟨_,_,VU,VV,O⟩:=UW;obtain⟨_,_,VW,VX,P⟩:=vn;obtain⟨_,_,VY,VZ,R⟩:=UX;obtain⟨_,_,we,wf,V0⟩:=vz;obtain⟨_,_,wg,wj,V1⟩:=UM;obtain⟨_,_,wm,wp,V2⟩:=Vj;obtain⟨_,_,wq,wu,V3⟩:=vc;obtain⟨_,_,Ux,Uy,z⟩:=UY;obtain⟨_,_,Vt,Vu,vg⟩:=Vk;obtain⟨_,_,UD,UE,S⟩:=vo;obtain⟨_,_,v7,v8,US⟩:=vR;obtain⟨_,_,vF,vG,UP⟩:=vA;obtain⟨_,_,UI,UJ,Ur⟩:=UG;obtain⟨_,_,UA,UB,Uo⟩:=Uz;obtain⟨_,_,Uu,Uv,Um⟩:=Ut;obtain⟨_,_,UK,UL,Us⟩:=UH;obtain⟨_,_,v9,Va,UT⟩:=vS;have e:=aa.symm.trans (kF X G V9);cases e;have Y0:XAt K p:=qfb X0 qdj q0 u x;have Y1:XAt K q:=qfb X1 qdj q1 u x;have Y2:XAt K t:=qfb X2 qdj q2 u x;have Y3:XAt K b:=qfb X3 qeD q3 u x;obtain⟨ac,ax,ad,ay⟩:=kits nd (λi r=>match i,r with | 0,_=>X0 | 1,_=>X1 | 2,_=>X2 | n+3,h=>absurd h (by simp only[yB,Yk];lk)) X3;have g:Cls K f:=⟨w1,w2,w3,w4⟩;have m:Cls K d:=⟨al,am,ao,aq⟩
 have ak:∀ a∈fAtt,NoAttr K d a:=λa Z=>by
  unfold fAtt at Z;simp only[yv,yJ,Yo] at Z;rcases Z with rfl | rfl | rfl | rfl | rfl | rfl | rfl | rfl<;>assumption
 have y:∀ i,i<4->([p,q,t,b,b,b,b,b,b]:LX).getD i d=([p,q,t]:LX).getD i b:=λi r=>match i,r with | 0,_=>rfl | 1,_=>rfl | 2,_=>rfl | 3,_=>rfl | n+4,h=>absurd h (by lk);have T:Txt K mg (λi=>([p,q,t,b,b,b,b,b,b]:LX).getD i d) f:=⟨YR X G z0,
  YR X G z1,
  YR X G z2,
  YR X G z3,
  YR X G z4,
  YR X G z5,
  YR X G z6,
  YR X G z7,
  YR X G z8,
  YR X G z9,
  YR X G as,
  YR X G au,
  YR X G av,
  ⟨C,kF X G u0⟩,
  ⟨D,kF X G u1⟩,
  ⟨E,kF X G u2⟩,
  kF X G C0_,
  kF X G C1_,
  kF X G C2_,
  kF X G C3_,
  ⟨v1,v3,v4⟩,
  λi r=>match i,r with | 0,_=>Y0 | 1,_=>Y1 | 2,_=>Y2 | 3,_=>Y3 | n+4,h=>absurd h (by lk),
  λi r=>match i,r with | 0,_=>y0 | 1,_=>y1 | 2,_=>y2 | n+3,h=>absurd h (by lk),
  (λi j r hj=>by rw[y i (by lk),y j (by lk)];show ac i j r hj),
  (λi r=>by rw[y i (by lk)];show ad i r),
  λi r=>match i,r with | 0,_=>af | 1,_=>ag | 2,_=>ah | n+3,h=>absurd h (by lk),
  g,
  w7,
  w8,
  w9,
  kF X G Cw_,
  kF X G Cf_,
  m,
  ak,
  YR X G aw,
  YR X G F,
  Y7.mp ar⟩
 obtain⟨oc,od,kV,U,pm,an,cd,ct,sl,rfl,lk,hc⟩:=VS.ex;show⟨W.fnOf "law" "law" (qaD qc7) (zS qc7) (qh qc7) .none kV U pm an cd ct,λs v=>.of_eq rfl,λbase _ _=>?_⟩;have d_once:CMethOk l.prog w K mg base CX0 1 b "OnceError" "__init__" wqx (spOnce K):=fc_mk X G C3_ r1 wF r3 V6 (ok_once V6 T);have d0:XMakeOk l.prog w K mg base 2 p "NoPairs" wZ (spX p (qe1 0)):=qgl X G C0_ Y0 q0 wB wC V4 (ok_NoPairs V4 T d_once);have d1:XMakeOk l.prog w K mg base 2 q "NoPlace" wZ (spX q (qe1 1)):=qgl X G C1_ Y1 q1 wD wE V5 (ok_NoPlace V5 T d_once);have c:=@fg_mk l.prog w K mg base h;have o:=@fm_mk l.prog w K mg base;have Y:=@fw_mk l.prog w K mg base h;have d_name:=c X G UR L (ok_name L T);have d_place:=c X G UO M (ok_place M d_name);have d_two:=c X G Uq N (ok_two N T d_place);have d_bit:=c X G vT Vv (ok_bit Vv);have d_nums:=c X G ve Vw (ok_nums Vw T d_name);have d_near:=c X G vV Vx (ok_near Vx T d_two d_bit);have q_web:MakeOk l.prog w K mg base CX0 5 f "Web" wqi (spWeb f):=Y X G Cw_ w5 w6 wG wH V7 (ok_web V7 T d_nums d_near);have m_has:=o g VU VV O (ok_has O T d_place);have m_num:=o g VY VZ R (ok_num R T m_has);have m_bb:=o g wg wj V1 (ok_bb V1 T m_num);have m_nin:=o g wq wu V3 (ok_nin V3 T d_bit);have m_bs:=o g we wf V0 (ok_bs V0 T m_bb m_nin);have m_tied:=o g wm wp V2 (ok_tied V2 T m_bb m_num d_bit);have m_pls:=o g wa wc VT (ok_pls VT T);have m_ht:=o g VW VX P (ok_ht P T d_two m_tied);have d_ap:=c X G UC H (ok_ap H T m_ht);have d_pn:=c X G Uw I (ok_pn I T d_ap);have p_re:=o m vF vG UP (ok_re UP T);have p_bd:=o m Uu Uv Um (ok_bd Um T);have p_rr:=o m UK UL Us (ok_rr Us T p_re);have p_fd:=o m v9 Va UT (ok_fdF UT T m_pls);have p_bt:=o m UA UB Uo (ok_bt Uo T p_bd p_rr p_fd);have p_la:=o m UI UJ Ur (ok_la Ur T m_bs p_bt p_re);have p_gw:=o m v7 v8 US (ok_gw US T m_pls p_re p_la);have p_mk:MakeOk l.prog w K mg base CX0 10 d "Forest" wqa (spFi (λi=>([p,q,t,b,b,b,b,b,b]:LX).getD i d) f):=Y X G Cf_ A B Ux Uy z (qgp z T d_pn p_gw);have p_row:=o m Vt Vu vg (ok_fr vg T);have p_rt:=o m UD UE S (ok_ro S T m_num);have d_ro:=c X G UQ J (ok_RO J T p_mk p_row p_rt);have b_name:=c X G UR L (ok_nameG L T);have b_place:=c X G UO M (ok_placeG M b_name);have b_two:=c X G Uq N (ok_twoG N T b_place);have b_has:=o g VU VV O (ok_hasT O T b_place);have b_num:=o g VY VZ R (ok_numT R T b_has d1);have b_ht:=o g VW VX P (ok_htG P T b_two m_tied);have b_ap:=c X G UC H (ok_apG H T b_ht);have b_pn:=c X G Uw I (ok_pnB I T d0 b_ap);have g_mk:MakeOk l.prog w K mg base (CX1 l.prog w) 10 d "Forest" wqa (qgu (λi=>([p,q,t,b,b,b,b,b,b]:LX).getD i d) f):=Y X G Cf_ A B Ux Uy z (FnOk.or (qgp z T d_pn p_gw).any (ok_fiB z T b_pn p_gw));have b_rt:=o m UD UE S (ok_roT S T b_num);have b_ro:=c X G UQ J (ok_ROB J T d0 g_mk p_row b_rt);have d_tk:=c X G Vm VA (ok_tkp VA T);have d_ar:=c X G UZ VJ (ok_arQ VJ T);have d_irw:=c X G vD VM (ok_irR VM T) (hb:=λ_ _ _ _ _ _=>lN5 λ_ _ _ _ _=>rfl);have d_rg:=c X G v6 VO (ok_rwX VO T d_ro d_irw (c X G vE VN (ok_tuR VN T)) d_ar) (hb:=λ_ _ _ _ _ _=>lN7 λ_ _ _ _ _ _ _=>rfl);have d_rf:=c X G vq VR (ok_rf VR T d_tk (c X G Vs VP (ok_sd VP T ai aj ae b_ro)) (c X G vp VQ (ok_am VQ T d_tk d_ar))) (hb:=λ_ _ _ _ _ _=>lN5 λ_ _ _ _ _=>rfl);show ok_law48 VS T (c X G Vl Vy (ok_ce Vy T)) (c X G vW Vz (ok_pu Vz T)) d_tk (c X G Vo VD (ok_my VD T d_tk)) (c X G vX VB (ok_nmJ VB T d_tk)) (c X G Vn VC (ok_tsJ VC T d_tk)) (c X G Vp VE (ok_mdJ VE T q_web)) (c X G Vq VF (ok_btJ VF T)) (c X G vY VG (ok_tbQ VG T)) (c X G vZ VI (ok_ndJ VI T d_tk)) (c X G vf VH (ok_gsQ VH T d_tk)) (c X G Vr VL (ok_feQ VL T)) d_rg d_rf
theorem walk{l:PySem.W.OpenLaw}{q:Program}{loose:LS}{XP:(Str->Option Value)->Heap->Prop}{YP:World->Heap->Prop}{d:DefRec}{K:Params->yg}(j:l.most=some 63)(b:d.params.defaults=[])
  (i:∀(w:World) (h:Heap),YP w h->(K w.params).In h)
  (F:∀(w:World) (mg:Str->Option Value) (c:Addr) (h:Heap),(K w.params).In h->h.Ns mainGlobals mg->mg d.name=some (.ref c) ->
   ∃ e:FuncData,(∀(s:Shared) (u:Value),BindsTo s e ⟨[u],[]⟩ [("_law_script",u)])/\∀ base:Heap,(K w.params).In base->base.Ns mainGlobals mg->FnOk l.prog w (K w.params) mg base CX0 15 c e wqL (spLaw (K w.params))) :
  PySem.W.WalkO q loose XP YP l.row.toRowW d [] (λf vs=>PySem.call f vs):=
 L2.walk_of (n:=63) (k:=15) (x:="_law_script") (CX:=λ_=>CX0) (sp:=λw=>spLaw (K w.params)) j (by decide) b ⟨rfl,by decide,by decide,rfl⟩ i F (λ_ _ a ns hl _ g=>⟨a,ns,rfl,g,hl,λ_=>rfl⟩) λ_ _ _ _ _ z=>z
end K48
set_option maxRecDepth 100000 in
set_option maxHeartbeats 0 in
theorem PySem.Challenge.cw_onceroad_k48_rows_that_leave_out_holds : PySem.Challenge.rw_onceroad_k48_rows_that_leave_out.Holds := by
  w_on; o_law
  show PySem.W.holds_open (q := K48.Q) (loose := []) (Xt := K48.Xt) (XP := PySem.W.XL K48.Q []) (Yf := PySem.W.Hook.obs K48.Hk) (Ya := PySem.W.Hook.val K48.Hk) (YP := PySem.W.Hook.says (PySem.W.kHook K48.Kf K48.ks K48.ks_eq)) (N := K48.NN) K48.hl (PySem.W.Hook.of K48.Hk) (PySem.W.Hook.keeps K48.Hk) (λs e => PySem.W.xl_of s (Bool.and_eq_true_iff.mp e).1) PySem.W.XL.keeps (by rfl) (by rfl) (by rfl) (λs e => PySem.W.recFacts_of (Bool.and_eq_true_iff.mp e).2) (by rfl) (by first | assumption | room) (by room) ⟨rfl, rfl, rfl, rfl, rfl, by room⟩ ?hw ?hc
  (case hw => w_witness2)
  k_fill
  show K48.walk (l := PySem.Challenge.rw_onceroad_k48_rows_that_leave_out) rfl rfl (λw h Y => PySem.W.kIn_of Y) ?F
  case F =>
    intro w mg fa h KX G hmg
    refine' K48.all_mk KX G hmg ?_ ?_ ?_ ?_ ?_ ?_ ?_ ?_ ?_ ?_ ?_ ?_ ?_ ?_ ?_ ?_ ?_ ?_ ?_ ?_ ?_ ?_ ?_ ?_ ?_ ?_ ?_ ?_ ?_ ?_ ?_ ?_ ?_ ?_ ?_ ?_ ?_ ?_ ?_ ?_ ?_ ?_ ?_ ?_ ?_ ?_ ?_ ?_ ?_ ?_ ?_ ?_ ?_ ?_ ?_ ?_ ?_ ?_ ?_ ?_ ?_ ?_ ?_ ?_ ?_ ?_ ?_ ?_ ?_ ?_ ?_ ?_ ?_ ?_ ?_ ?_ ?_ ?_ ?_ ?_ ?_ ?_ ?_ ?_ ?_ ?_ ?_ ?_ ?_ ?_ ?_ ?_ ?_ ?_ ?_ ?_ ?_ ?_ ?_ ?_ ?_ ?_ ?_ ?_ ?_ ?_ ?_ ?_ ?_ ?_ ?_ ?_ ?_ ?_ ?_ ?_ ?_ ?_ ?_ ?_ ?_ ?_ ?_ ?_
    any_goals first | k_is | decide
    any_goals first | k_is | decide | show⟨_, _, by k_is, L2.fun_mk (by k_is) (by k_is) (by k_is)⟩ | show⟨_, _, by k_is, by k_is, L2.fun_mk (by k_is) (by k_is) (by k_is)⟩ | show⟨_, _, _, _, _, _, _, _, _, _, _, _, _, _, _, by k_is⟩ | show⟨by k_is, by k_is, by k_is, by k_is, by k_is, by k_is, by k_is, by k_is⟩ | kernel_rfl | fail
